/- Names: the program's, and the document's. -/
import Derived.Test.YtnbpfbmhheimbaaGreatDoorSpRefC
import Derived.Test.YtnbpfbmhheimbaaGreatDoorRgB
namespace Go.Proofs.YtnbpfbmhheimbaaGreatDoor
open Go.RowKit Go.Proofs.Fld Go.Proofs.Rng Go.Proofs.Spc Go.Shelf Go.Sort

attribute [local go_sem] Oper.semAt_some

def nmsL (l : List Ob) : List It := l.map Ob.n
theorem nms_length (l : List Ob) : (nmsL l).length = l.length := List.length_map _
theorem nms_snoc (l : List Ob) (x : Ob) : nmsL (l ++ [x]) = nmsL l ++ [x.n] := by simp [nmsL]
/-- Texts are told. -/
def NmP (ns : List It) (k : Nat) (w : World) (e : Ending) (w' : World) : Prop := ∃ va vc, e = .returned (.slice va k vc) ∧ Txs w' va k vc ns ∧ Below w.heap.size w w'
/-- Between two rounds. -/
def NsI (w : World) (pre : List Ov) (W : World) : Prop := (∃ v, Boxed W w.heap.size 31 v ∧ W.ownsRow (w.heap.size + 2) 9 1 v pre.length (tcl (nmsL (obs pre))) ∧ True) ∧ w.heap.size + 2 ≤ W.heap.size ∧ Below w.heap.size w W
theorem NsI.own {w : World} {n0 : Nat} (hn : w.heap.size ≤ n0) : OwnFrom n0 (NsI w) := by
  rintro pre A W row ⟨h1, hz, hb⟩ hg hr
  have hb2 := ownFrom_below (β := List Ov) (n₀ := w.heap.size) (w₀ := w) (Nat.le_refl _) hn pre A W row hb hg hr
  exact ⟨holdsRow_own (w.heap.size + 2) w.heap.size 31 9 1 (fun pre : List Ov => pre.length) (fun pre => tcl (nmsL (obs pre))) (fun _ _ => True) pre A W row h1 hg (fun r e => (hr r e).2), Nat.le_trans hz hg.size, hb2⟩
theorem names_round {w W w1 : World} {v v' : Value} {k m : Nat} {xs ys : List Value} {tmp : Obj} (hv : Boxed W w.heap.size 31 v) (hrow : W.ownsRow (w.heap.size + 2) 9 1 v k xs) (hz : w.heap.size + 2 ≤ W.heap.size)
    (hown' : w1.ownsRow (w.heap.size + 2) 9 1 v' m ys) (hgrow : (W.alloc tmp).grownBy w1 v.ownBlock) :
    Boxed w1 w.heap.size 31 v ∧ Boxed (w1.setCell ⟨w.heap.size, 0, none⟩ v') w.heap.size 31 v' ∧ (w1.setCell ⟨w.heap.size, 0, none⟩ v').ownsRow (w.heap.size + 2) 9 1 v' m ys ∧ KeepsOthers W (w1.setCell ⟨w.heap.size, 0, none⟩ v') ∧ Below w.heap.size W (w1.setCell ⟨w.heap.size, 0, none⟩ v') ∧ KS (butX (w.heap.size + 2) w.heap.size) W (w1.setCell ⟨w.heap.size, 0, none⟩ v') := by
  have hte : 31 ≠ 9 := by decide
  have hv1 : Boxed w1 w.heap.size 31 v := (hv.alloc tmp).kept hgrow (hv.not_row hte hrow)
  have hge : ∀ j, v.ownBlock = some j → w.heap.size + 2 ≤ j := fun j ej => by
    rcases hrow.2 with ⟨rfl, _⟩ | ⟨g, cap, cur, rfl, hb, _, _⟩
    · simp [Value.ownBlock] at ej
    · obtain rfl : g = j := by simpa [Value.ownBlock] using ej
      exact hb
  have hsz : W.heap.size ≤ w1.heap.size := Nat.le_trans (by simp) hgrow.size
  refine ⟨hv1, hv1.set v', hown'.kept (grownBy_setCell' w1 w.heap.size v') (.inr (hv1.not_row hte hown').symm), ?_, ?_, ?_, ?_⟩
  · refine ((KeepsOthers.alloc W tmp).trans (KeepsOthers.of_grownBy hgrow fun j o ej hj => ?_)).trans (KeepsOthers.setCell _ _ _)
    rcases (hrow.alloc tmp).2 with ⟨rfl, _⟩ | ⟨g, cap, cur, rfl, _, hgb, _⟩
    · simp [Value.ownBlock] at ej
    · obtain rfl : g = j := by simpa [Value.ownBlock] using ej
      rw [hgb] at hj; cases hj; rfl
  · refine (((Below.refl w.heap.size W).alloc (by omega) tmp).grown hgrow (by simp; omega) fun j ej => ?_).setCell (p := ⟨w.heap.size, 0, none⟩) (Nat.le_refl _) v'
    have := hge j ej
    omega
  · exact Nat.le_trans hsz (by simp [World.setCell])
  · intro k hk
    refine (Below.heap_setCell _ _ _ k (fun e => hk.2 e)).trans ?_
    refine (hgrow.block k (by have := hk.1; simp; omega) (fun e => by have := hge k e.symm; have := hk.1; omega)).trans ?_
    exact Below.heap_alloc _ _ _ (by have := hk.1; omega)

set_option maxRecDepth 100000 in
set_option maxHeartbeats 4000000 in
theorem names_in (n : Nat) (hn : 3 ≤ n) (ao : Option Addr) (len cap : Nat) (zs : List Ov) (hreach : len ≤ 1000000) (w : World) (hL : Objs w ao len cap zs) :
    CallsIn Fence.wide n Tryz.prog 24 #[.slice ao len cap] w (NmP (nmsL (obs zs)) len w) := by
  have hn1 : 1 ≤ n := by omega
  obtain ⟨i0, hi, hz0, hz1, hz2⟩ := info_parts infoS
  refine callsIn_of_wp_marks Tryz.func24 rfl trivial ?_ rfl
  simp only [Tryz.ntmps24, List.size_toArray, List.length_cons, List.length_nil, Nat.reduceAdd, Nat.reduceSub, Array.replicate_succ, Array.replicate_zero, List.push_toArray, List.append_toArray, List.nil_append, List.cons_append]
  have HL := Lib.hid hL
  clear hL
  have b0 := (Boxed.new w 31 (.slice none 0 0)).alloc (.cells #[.slice ao len cap] 60)
  have hB : Below w.heap.size w ((w.alloc (.cells #[.slice none 0 0] 31)).alloc (.cells #[.slice ao len cap] 60)) := (Below.new w _).alloc (by simp) _
  have hz : ((w.alloc (.cells #[.slice none 0 0] 31)).alloc (.cells #[.slice ao len cap] 60)).heap.size = w.heap.size + 2 := by simp
  have hc : ((w.alloc (.cells #[.slice none 0 0] 31)).alloc (.cells #[.slice ao len cap] 60)).cell? ⟨w.heap.size + 1, 0, none⟩ = some (.slice ao len cap) := by simp
  gi_wp2_with (refine ⟨trivial, ?_⟩; gi_at_call 49; refine (callsIn_wide.2 (all_any ao len cap _)).mono ?_)
  rintro e W0 ⟨rfl, rfl⟩
  rw [World.size_alloc]
  obtain ⟨W0, hW0⟩ : ∃ W0, (w.alloc (.cells #[.slice none 0 0] 31)).alloc (.cells #[.slice ao len cap] 60) = W0 := ⟨_, rfl⟩
  rw [hW0] at b0 hB hz hc ⊢
  have HA := Lib.hid (And.intro b0 (And.intro hB (And.intro hz hc)))
  clear b0 hB hc hW0
  gi_wp2
  refine wpIn_rangeY hn1 (gf := 104) (lb := #[.pointer (some ⟨w.heap.size + 1, 0, none⟩)]) rfl (enters_of Tryz.func104 (by kernel_rfl) rfl)
    (vals1 (n - 1) (by omega) (butX (w.heap.size + 2) w.heap.size) (w.heap.size + 1) len cap ao zs hreach W0 (fun k hk => by have := hk.1; omega) HA.out.2.2.2 (HL.out.more HA.out.2.1) ?hap) KS.trans (ks_put (by omega)) (fun _ => rfl)
    (NsI w) (fun _ _ _ => False) ?hI ?hIx ?h0
    (fun x a' W => ∃ Bx, ObAt W Bx 0 x ∧ a' = { tmps := #[.slice ao len cap, undef, .slice none 0 0, .pointer (some ⟨w.heap.size, 0, none⟩), .pointer (some ⟨Bx, 0, none⟩), .slice ao len cap, .func (.func 104) #[] #[.pointer (some ⟨w.heap.size + 1, 0, none⟩)], .agg #[.string (bs x.o.n), .int .i64 x.o.k, .string (bs x.o.d), .int .i64 x.o.m, .slice x.a x.o.l.length x.c], undef, undef, undef, undef, undef, undef], defers := [] })
    ?hAx ?assign ?body ?done ?stop
  case hap =>
    intro hp a e
    obtain ⟨b, off, e', hbl, _⟩ := HL.out.at hp
    rw [e] at e'
    obtain rfl := Option.some.inj e'
    exact ⟨by simp only; omega, by simp only; omega⟩
  case hI => exact NsI.own (by omega)
  case hIx => intro c s A B row hs; exact hs.elim
  case hAx =>
    rintro x a' _ A B row ⟨Bx, h1, rfl⟩ hg hr
    exact ⟨Bx, obat_keep h1 hg (fun r e => (hr r e).2), rfl⟩
  case h0 => exact ⟨⟨_, HA.out.1, World.ownsRow_nil _ _ _ _, trivial⟩, by omega, HA.out.2.1⟩
  case assign =>
    rintro l pre x W K ⟨⟨v, x1, x2, _⟩, hz1', hB1⟩ hH hK
    have HK := Lib.hid hK
    have HP := Lib.hid (And.intro x1 (And.intro x2 hB1))
    clear hK x1 x2 hB1
    simp only [ov]
    gi_wp2
    exact HK.out _ _ ((KeepsOthers.alloc _ _).from _) (KS.of_below (m := W.heap.size) (Below.new W _) (fun k hk => by have := hk.1; omega)) ⟨⟨v, HP.out.1.alloc _, HP.out.2.1.alloc _, trivial⟩, by simp; omega, HP.out.2.2.alloc HP.out.2.2.size _⟩ ⟨W.heap.size, ObAt.new W x _, rfl⟩
  case body =>
    rintro l pre x a' W ⟨⟨v, x1, x2, _⟩, hz1', hB1⟩ hH ⟨Bx, hx, rfl⟩
    have c2 := x1.cell
    have hpl := hH.length_le
    have hlen := HL.out.hlen
    rw [List.length_append, List.length_cons, List.length_nil] at hpl
    obtain ⟨va, vc, rfl⟩ := row_slice x2
    obtain ⟨y0, _, _, _, _⟩ := hx.var
    have HN := Lib.hid (it_new W x.o.n)
    have hpb : pre.length ≤ 1000000 := by omega
    have HH := Lib.hid hB1
    clear hx hH hpl hlen hB1
    rw [hz]
    gi_wp2_with (gi_at_builtin; go_loud (refine wpListIn_append_own _ rfl _ _ 31 rfl (w.heap.size + 2) 9 i0 (.string { data := #[] }) 1 16 Tryz.underlying31 hi hz0 hz1 hz2 rfl (by decide) (.slice va pre.length vc) pre.length (tcl (nmsL (obs pre))) rfl (x2.alloc (.cells #[.string (bs x.o.n)] 9)) ⟨W.heap.size, 0, none⟩ 1 1 [.string (bs x.o.n)] rfl rfl HN.out (by simp [Value.oneCell']) (by unfold maxLen; omega) (by omega) (by simp; omega) ?_; intro v' w5 hown' hgrow _; obtain ⟨g', cap', rfl⟩ := ownsRow_succ hown'; obtain ⟨hv1, hv2, hr2, hk2, hb2, hks⟩ := names_round x1 x2 hz1' hown' hgrow; have hc1 := hv1.cell; have hf1 := hv1.frozen))
    refine ⟨hk2.from _, hks, ⟨⟨_, hv2, ?_, trivial⟩, Nat.le_trans hz1' hks.1, HH.out.trans hb2⟩⟩
    rw [obs_append, List.length_append]
    show World.ownsRow _ _ _ _ _ _ (tcl (nmsL (obs pre ++ [x.o])))
    rw [nms_snoc, tcl_append]
    exact hr2
  case done =>
    rintro D ys W hD rfl ⟨⟨v, x1, x2, _⟩, hz1', hB1⟩ hK
    have c2 := x1.cell
    obtain ⟨va, vc, rfl⟩ := row_slice x2
    have hle := HL.out.hlen
    have hfit := HL.out.hrows
    have HX := Lib.hid (And.intro x2 (And.intro hB1 hK))
    clear x1 x2 hB1 hK
    gi_wp2
    refine ⟨by simp, .inl ⟨_, _, rfl, run_takeDeferred HX.out.2.2, ?_⟩⟩
    refine ⟨.slice va len vc, by simp [results, Tryz.results24, go_sem], va, vc, rfl, ?_, HX.out.2.1.trans (belowK_b (w := w) (Nat.le_refl _) W D _ _ (by omega) HX.out.2.2 rfl rfl)⟩
    have hr := ownsRow_putObj HX.out.1 (.deferred none) HX.out.2.2 rfl
    have hT : OwnT (w.heap.size + 2) (W.putObj D (.deferred none)) (.slice va ys.length vc) (nmsL (obs ys)) := by
      unfold OwnT
      rw [nms_length, obs_length]
      exact hr
    rw [← hle]
    refine hT.txs (by rw [nms_length, obs_length]) (fun y hy => ?_)
    obtain ⟨o, ho, rfl⟩ := List.mem_map.1 hy
    obtain ⟨z, hz', rfl⟩ := obs_mem ho
    exact (hfit z hz').hn
  case stop =>
    rintro D c pre W _ _ h _
    exact h.elim
section
variable {w : World} {ao : Option Addr} {k0 cap : Nat} {zs : List Ov} {l : List Ob} {c : Int}
theorem Names_w (hL : SO w ao k0 cap zs l) : Calls Tryz.prog 24 #[.slice ao k0 cap] w (NmP (nmsL l) k0 w) := by
  obtain rfl := hL.e
  exact (callsIn_wide (n := 3)).1 (names_in 3 (by omega) ao k0 cap zs hL.le2 w hL.o)

set_option maxRecDepth 100000 in
set_option maxHeartbeats 4000000 in
theorem RNames_w (hL : SO w ao k0 cap zs l) : Calls Tryz.prog 25 #[.slice ao k0 cap] w (NmP (nmsL l) k0 w) := by
  obtain ⟨i0, hi, hz0, hz1, hz2⟩ := info_parts infoS
  have hk22 := hL.le
  have hke := hL.len
  have L := Lib.hid hL
  have HKE := Lib.hid hke
  clear hL hke
  go_enter Tryz.func25, Tryz.ntmps25
  go_wp2
  go_loopw [3, 4] (fun v u wr => ∃ (k : Nat) (va : Option Addr) (vc : Nat), k ≤ k0 ∧ u = .int .i64 k ∧ v = .slice va k vc ∧ Hid (wr.ownsRow w.heap.size 9 1 (.slice va k vc) k (tcl (nmsL (l.take k)))) ∧ Hid (Below w.heap.size w wr)) (fun _ u _ => k0 - (intOf u).toNat)
  case atStart => exact ⟨0, none, 0, Nat.zero_le _, rfl, rfl, World.ownsRow_nil _ _ _ _, Below.refl _ _⟩
  case round =>
    obtain ⟨k, va, vc, hk, rfl, rfl, HR, HB⟩ := hrel
    by_cases hlt : k < k0
    · obtain ⟨y, hy⟩ : ∃ y, l[k]? = some y := ⟨_, List.getElem?_eq_getElem (by rw [HKE.out]; exact hlt)⟩
      obtain ⟨b, off, x, rfl, hx, _, hc⟩ := (L.out.more HB.out).cell hy
      obtain ⟨q0, _, _, _, _⟩ := hc
      rw [hx] at q0
      have hd1 : decide ((k : Int) < (k0 : Int)) = true := decide_eq_true (by omega)
      have HT := Lib.hid (show l.take (k + 1) = l.take k ++ [y] from take_next l k y hy)
      have HN := Lib.hid (it_new wr y.n)
      have hsz := HB.out.size
      clear hx hy
      go_wp2_with (at_builtin; go_loud (refine wpList_append_own _ rfl _ _ 31 rfl w.heap.size 9 i0 (.string { data := #[] }) 1 16 Tryz.underlying31 hi hz0 hz1 hz2 rfl (by decide) (.slice va k vc) k (tcl (nmsL (l.take k))) rfl (HR.out.alloc (.cells #[.string (bs y.n)] 9)) ⟨wr.heap.size, 0, none⟩ 1 1 [.string (bs y.n)] rfl rfl HN.out (by simp [Value.oneCell']) (by unfold maxLen; omega) (by omega) (by simp; omega) ?_; intro v' w5 hown' hgrow _; obtain ⟨g', cap', rfl⟩ := ownsRow_succ hown'; have HF := Lib.hid (And.intro hown' (app_below (HB.out.alloc hsz (.cells #[.string (bs y.n)] 9)) (HR.out.alloc (.cells #[.string (bs y.n)] 9)) ⟨hown', hgrow⟩)); clear hown' hgrow))
      go_roundw
      case rel => exact ⟨k + 1, some ⟨g', 0, none⟩, cap', by omega, by simp, rfl, by rw [HT.out, nms_snoc, tcl_append]; exact HF.out.1, HF.out.2⟩
      case measure => simp [intOf]; omega
    · obtain rfl : k = k0 := by omega
      have hd1 : decide ((k : Int) < (k : Int)) = false := decide_eq_false (by omega)
      have HF := Lib.hid (show Txs wr va k vc (nmsL l) by
        have hr := HR.out
        rw [List.take_of_length_le (Nat.le_of_eq HKE.out)] at hr
        have hT : OwnT w.heap.size wr (.slice va k vc) (nmsL l) := by
          unfold OwnT
          rw [nms_length, HKE.out]
          exact hr
        refine hT.txs (by rw [nms_length, HKE.out]) (fun y hy => ?_)
        obtain ⟨o, ho, rfl⟩ := List.mem_map.1 hy
        have := (L.out.s.b o ho).n
        omega)
      go_wp2
      go_ret
      exact ⟨va, vc, rfl, HF.out, HB.out⟩
end

end Go.Proofs.YtnbpfbmhheimbaaGreatDoor
