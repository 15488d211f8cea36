/- What the listed variables give the walks: the three sentinels; rings, texts and slices of texts that come in. -/
import Derived.Test.YtbdhagilmdmpdaaDoorRows
import Derived.Test.YtbdhagilmdmpdaaDoorRgHead
import Derived.ProofKit
import Derived.LaidMore
import Derived.OpenShut
import Derived.ChangeOld
import Derived.ChangeMaps5
import Derived.ChangeSlices
import Derived.Stop.Joined
import Derived.Stop.LaidErr
import Derived.Stop.LaidTwo
import Derived.LaidLaws
import Derived.Lib.SmallJoins
import Derived.ChangeSame
import Derived.Deep.Slices
import Derived.Deep.Fields
namespace Go.Proofs.YtbdhagilmdmpdaaDoor
open Go.ChangeShapes Go.WideShapes Go.ChangeAt Go.RowKit Go.Proofs.Fld Go.Proofs.Rng Go.Joins

theorem own : ownKnob Tryd.prog.godebug = none := by kernel_rfl
theorem laidOut : laidOutB Tryd.prog = true := by kernel_rfl

/-- What the rows list. -/
def laid8 : List (String × DataW Unit) := [("plimsoll/ring.errWrong", Rows.laid_plimsoll_ring_errWrong), ("plimsoll/ring.errFull", Rows.laid_plimsoll_ring_errFull), ("plimsoll/ring.errEmpty", Rows.laid_plimsoll_ring_errEmpty)]

theorem wG : Tryd.prog.globalNamed "plimsoll/ring.errWrong" = some 0 := by kernel_rfl
theorem fG : Tryd.prog.globalNamed "plimsoll/ring.errFull" = some 1 := by kernel_rfl
theorem gG : Tryd.prog.globalNamed "plimsoll/ring.errEmpty" = some 2 := by kernel_rfl
theorem wT : (Tryd.prog.globals[0]?).map (·.type) = some 47 := by kernel_rfl
theorem fT : (Tryd.prog.globals[1]?).map (·.type) = some 47 := by kernel_rfl
theorem gT : (Tryd.prog.globals[2]?).map (·.type) = some 47 := by kernel_rfl
theorem star : "*errors.errorString" = "*" ++ "errors.errorString" := by decide
theorem rowErr (u : TypeId) (h : Tryd.prog.typeName? 3 u = some "*errors.errorString") : u = 82 :=
  typeName_ptr_named (nm := "errors.errorString") (by rw [← star]; kernel_rfl) (by kernel_rfl) (by decide) u (by rw [← star]; exact h)
theorem cellsErr : Tryd.prog.cellsOf 108 = 1 := by kernel_rfl
theorem cells9 : Tryd.prog.cellsOf 9 = 1 := by kernel_rfl
theorem laidMet_rest {P : Program} {x : String × DataW Unit} {r : List (String × DataW Unit)} {W : World} (h : laidMet P (x :: r) W) : laidMet P r W := by
  obtain ⟨n, d⟩ := x
  obtain ⟨ps, ⟨g, t, cs, fuel, p, q, _, _, _, _, hr, rfl⟩, hnd, hrows⟩ := h
  exact ⟨q, hr, (List.nodup_append.1 hnd).2.1, fun b off hm => hrows b off (List.mem_append_right _ hm)⟩

theorem sent_of_laid {W : World} (h : laidMetH Tryd.prog laid8 W) : ∃ s, Sent s W := by
  rw [MakeChecks.laidMetH_plain _ _ _ (by kernel_rfl)] at h
  obtain ⟨aw, af, sw, sf, c0, c1, t0, t1, vw, vf, cw, xw, _, cf, xf, _, nwf, bw, bf⟩ := laid_sentinels2 h wG wT fG fT Tryd.underlying47 rowErr Tryd.underlying82 Tryd.underlying108 rfl rfl Tryd.underlying9 cellsErr cells9
  obtain ⟨af', ag, sf', sg, c2, c3, t2, t3, vf', vg, _, _, _, cg, xg, _, nfg, _, bg⟩ := laid_sentinels2 (laidMet_rest h) fG fT gG gT Tryd.underlying47 rowErr Tryd.underlying82 Tryd.underlying108 rfl rfl Tryd.underlying9 cellsErr cells9
  obtain rfl : af = af' := by
    have e := Option.some.inj (vf.symm.trans vf')
    simpa using e
  refine ⟨⟨aw, af, ag⟩, by simpa using World.var?_cell wG vw 0, by simpa using World.var?_cell fG vf 0, by simpa using World.var?_cell gG vg 0, ⟨_, _, bw⟩, ⟨_, _, bf⟩, ⟨_, _, bg⟩, nwf, ?_, nfg⟩
  intro e
  have e2 : aw = ag := e
  rw [e2, cg] at cw
  have e3 : sg = sw := by simpa using cw
  rw [← e3, xg] at xw
  exact absurd xw (by decide)

theorem door_met8 (os : Os) (args : Array Value) : laidMetH Tryd.prog laid8 ((World.doorLaid Tryd.prog 400 os).forCall (fun _ _ => 0) ⟨#[], args, []⟩).memory :=
  laidMetH_of_parts3 (fuel := 8) (laidMet_of_run' 8 (by kernel_rfl) (by kernel_rfl)) (by kernel_rfl) (by kernel_rfl)

theorem cellsR : Tryd.prog.cellsOf 24 = 2 := by kernel_rfl
section
variable {H : Type} {enc : TypeId × Value → H} {W : World} {base : Nat}
set_option maxRecDepth 100000 in
theorem open_elem {spare : Nat → Bool} {held : Bool} {fuel : Nat} {x : Addr} {cs : List Value} {y : DataW H × List MemPlace} (hc : W.cells? base x (Tryd.prog.cellsOf 9) = some cs) (ht : DataW.trod enc Tryd.prog W base spare held fuel 9 cs = some y) :
    ∃ z : It, z.length ≤ 9223372036854775807 ∧ W.cell? (x.add 0) = some (.string (bs z)) := by
  obtain ⟨_, hcl, hat⟩ := World.cells?_some hc
  rw [cells9] at hcl hat
  match cs, hcl with
  | [c0], _ =>
    obtain ⟨b, e, _, hb⟩ := DataW.trod_string Tryd.underlying9 ht
    obtain rfl := List.head_eq_of_cons_eq e
    refine ⟨b.data.toList, ?_, ?_⟩
    · rw [bs_all b, bs_size] at hb
      exact hb
    · rw [← bs_all b]
      exact hat 0 (by omega)

set_option maxRecDepth 100000 in
theorem open_txsv {v : Value} {fuel : Nat} {y : DataW H × List MemPlace} {held : Bool} (hf : DataW.trod enc Tryd.prog W base (fun _ => true) held fuel 22 [v] = some y) :
    ∃ a len cap zs, v = .slice a len cap ∧ Txs W a len cap zs := by
  rcases Go.Deep.open_slice Tryd.underlying22 hf with ⟨hcs, _⟩ | ⟨x, len, c, m, n, D, Pl, hcs, _, hl, hm, hmm, _, hi⟩
  · obtain rfl := List.head_eq_of_cons_eq hcs
    exact ⟨none, 0, 0, [], rfl, Txs.nil W⟩
  · obtain rfl := List.head_eq_of_cons_eq hcs
    simp only [if_true] at hmm
    subst hmm
    have hel : ∀ i, ∃ z : It, i < len → z.length ≤ 9223372036854775807 ∧ W.cell? ((x.add (i * 1)).add 0) = some (.string (bs z)) := fun i => by
      by_cases hlt : i < len
      · obtain ⟨cs, hc, ht⟩ := hi i (by omega)
        obtain ⟨z, hz⟩ := open_elem hc ht
        rw [cells9] at hz
        exact ⟨z, fun _ => hz⟩
      · exact ⟨[], fun h => absurd h hlt⟩
    obtain ⟨f, hfz⟩ := Classical.axiomOfChoice hel
    refine ⟨some x, len, m, (List.range len).map f, rfl, by simp, hl, hm, (fun h => by cases h), ?_, fun hne => ?_⟩
    · intro z hz
      obtain ⟨i, hi1, rfl⟩ := List.mem_map.1 hz
      exact (hfz i (List.mem_range.1 hi1)).1
    have hpos : 0 < len := by
      rcases Nat.eq_zero_or_pos len with h | h
      · exact absurd (by rw [h]; rfl) hne
      · exact h
    obtain ⟨b, off, sp⟩ := x
    have h0 := (hfz 0 hpos).2
    have hsp' : sp = none := by
      have := World.cell?_spot h0
      simpa [Addr.add] using this
    subst hsp'
    simp only [add_at] at hfz h0
    refine ⟨b, off, rfl, fun j z hj => ?_⟩
    rw [List.getElem?_map] at hj
    by_cases hjl : j < len
    · rw [List.getElem?_range hjl] at hj
      obtain rfl := Option.some.inj hj
      have := (hfz j hjl).2
      rw [Nat.mul_one, Nat.add_zero] at this
      exact this
    · rw [List.getElem?_eq_none (by simp; omega)] at hj
      cases hj
theorem open_txs {b0 : Nat} {v : Value} {d : DataW H} {p : List MemPlace} {held : Bool} (hv : Value.okWide Tryd.prog W .any b0 22 v) (h : DataW.Trod enc Tryd.prog W base (fun _ => true) held 22 v d p) :
    ∃ a len cap zs, v = .slice a len cap ∧ Txs W a len cap zs := by
  obtain ⟨a, len, cap, rfl⟩ := okWide_slice Tryd.underlying22 hv
  obtain ⟨fuel, hf⟩ := h
  exact open_txsv (show DataW.trod enc Tryd.prog W base (fun _ => true) held fuel 22 [.slice a len cap] = some (d, p) from by simpa [Value.cells] using hf)
set_option maxRecDepth 100000 in
theorem open_ring {b0 : Nat} {v : Value} {d : DataW H} {p : List MemPlace} {held : Bool} (hv : Value.okWide Tryd.prog W .any b0 24 v) (h : DataW.Trod enc Tryd.prog W base (fun _ => true) held 24 v d p) :
    ∃ m a len cap zs, v = .agg #[.int .i64 m, .slice a len cap] ∧ Txs W a len cap zs := by
  obtain ⟨v0, v1, y0, y1, n, rfl, _, _, h0, h1⟩ := open_agg2 Tryd.underlying24 (by kernel_rfl) cellsR hv h
  obtain ⟨n0, e0, _, _⟩ := DataW.trod_int Tryd.underlying3 h0
  obtain rfl := List.head_eq_of_cons_eq e0
  obtain ⟨a, len, cap, zs, rfl, hz⟩ := open_txsv h1
  exact ⟨n0, a, len, cap, zs, rfl, hz⟩
end

end Go.Proofs.YtbdhagilmdmpdaaDoor
