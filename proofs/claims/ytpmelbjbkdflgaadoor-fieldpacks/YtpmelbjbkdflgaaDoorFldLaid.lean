/- What the listed variables give the walks: the three sentinels and errors.errorType. -/
import Derived.Test.YtpmelbjbkdflgaaDoorRows
import Derived.Test.YtpmelbjbkdflgaaDoorFldSent
import Derived.ProofKit
import Derived.LaidMore
import Derived.OpenShut
import Derived.ChangeOld
import Derived.ChangeMaps5
import Derived.ChangeSlices
import Derived.Stop.Joined
import Derived.Stop.LaidTwo
import Derived.LaidHandle
import Derived.LaidLaws
import Derived.ChangeSame
namespace Go.Proofs.YtpmelbjbkdflgaaDoor
open Go.ChangeShapes Go.WideShapes Go.ChangeAt Go.RowKit

theorem own : ownKnob Tryd.prog.godebug = none := by kernel_rfl
theorem laidOut : laidOutB Tryd.prog = true := by kernel_rfl

/-- What the rows list. -/
def laid1 : List (String × DataW Unit) := [("errors.errorType", Rows.laid_errors_errorType), ("plimsoll/field.errWidth", Rows.laid_plimsoll_field_errWidth), ("plimsoll/field.errFew", Rows.laid_plimsoll_field_errFew), ("plimsoll/field.errGreat", Rows.laid_plimsoll_field_errGreat)]

theorem etG : Tryd.prog.globalNamed "errors.errorType" = some 3 := by kernel_rfl
theorem wG : Tryd.prog.globalNamed "plimsoll/field.errWidth" = some 1 := by kernel_rfl
theorem fG : Tryd.prog.globalNamed "plimsoll/field.errFew" = some 2 := by kernel_rfl
theorem gG : Tryd.prog.globalNamed "plimsoll/field.errGreat" = some 0 := by kernel_rfl
theorem wT : (Tryd.prog.globals[1]?).map (·.type) = some 47 := by kernel_rfl
theorem fT : (Tryd.prog.globals[2]?).map (·.type) = some 47 := by kernel_rfl
theorem gT : (Tryd.prog.globals[0]?).map (·.type) = some 47 := by kernel_rfl
theorem rtT : (Tryd.prog.cutTypes.find? (·.1 == "internal/reflectlite.rtype")).map (·.2) = some 103 := by kernel_rfl
theorem oneRow : ((List.range 150).filter fun t => Tryd.prog.rowNamed t [101, 114, 114, 111, 114]) = [47] := by kernel_rfl
theorem typesN : Tryd.prog.types.size = 150 := by kernel_rfl
theorem star : "*errors.errorString" = "*" ++ "errors.errorString" := by decide
theorem rowErr (u : TypeId) (h : Tryd.prog.typeName? 3 u = some "*errors.errorString") : u = 118 :=
  typeName_ptr_named (nm := "errors.errorString") (by rw [← star]; kernel_rfl) (by kernel_rfl) (by decide) u (by rw [← star]; exact h)
theorem cellsErr : Tryd.prog.cellsOf 138 = 1 := by kernel_rfl
theorem cells9 : Tryd.prog.cellsOf 9 = 1 := by kernel_rfl

theorem laidMet_rest {P : Program} {x : String × DataW Unit} {r : List (String × DataW Unit)} {W : World} (h : laidMet P (x :: r) W) : laidMet P r W := by
  obtain ⟨n, d⟩ := x
  obtain ⟨ps, ⟨g, t, cs, fuel, p, q, _, _, _, _, hr, rfl⟩, hnd, hrows⟩ := h
  exact ⟨q, hr, (List.nodup_append.1 hnd).2.1, fun b off hm => hrows b off (List.mem_append_right _ hm)⟩

theorem sent_of_laid {W : World} (h : laidMetH Tryd.prog laid1 W) : ∃ s, Sent s W := by
  have h' : laidMet Tryd.prog [("plimsoll/field.errWidth", Rows.laid_plimsoll_field_errWidth), ("plimsoll/field.errFew", Rows.laid_plimsoll_field_errFew), ("plimsoll/field.errGreat", Rows.laid_plimsoll_field_errGreat)] W ∧ handlesMet Tryd.prog [("errors.errorType", Rows.laid_errors_errorType)] W := h
  have ht : W.cell? ⟨3, 0, none⟩ = some (.iface 103 (.agg #[.pointer (some ⟨4, 47, none⟩)])) := by
    obtain ⟨name, u, ty, e1, e2, e3, e4, e5⟩ := h'.2 _ (List.mem_singleton.2 rfl)
    have en : name = [101, 114, 114, 111, 114] := (Option.some.inj e1).symm
    subst en
    obtain rfl := Option.some.inj (rtT.symm.trans e2)
    have hm : ty ∈ (List.range 150).filter fun t => Tryd.prog.rowNamed t [101, 114, 114, 111, 114] := List.mem_filter.2 ⟨List.mem_range.2 (by rw [← typesN]; exact e3), e4⟩
    rw [oneRow] at hm
    obtain rfl := List.mem_singleton.1 hm
    have hh : typeHandle Tryd.prog 47 = .pointer (some ⟨4, 47, none⟩) := by kernel_rfl
    rw [hh] at e5
    simpa using World.var?_cell etG e5 0
  obtain ⟨aw, af, sw, sf, c0, c1, t0, t1, vw, vf, cw, xw, _, cf, xf, _, nwf, bw, bf⟩ := laid_sentinels2 h'.1 wG wT fG fT Tryd.underlying47 rowErr Tryd.underlying118 Tryd.underlying138 rfl rfl Tryd.underlying9 cellsErr cells9
  obtain ⟨af', ag, sf', sg, c2, c3, t2, t3, vf', vg, _, _, _, cg, xg, _, nfg, _, bg⟩ := laid_sentinels2 (laidMet_rest h'.1) fG fT gG gT Tryd.underlying47 rowErr Tryd.underlying118 Tryd.underlying138 rfl rfl Tryd.underlying9 cellsErr cells9
  obtain rfl : af = af' := by
    have e := Option.some.inj (vf.symm.trans vf')
    simpa using e
  refine ⟨⟨aw, af, ag⟩, by simpa using World.var?_cell wG vw 0, by simpa using World.var?_cell fG vf 0, by simpa using World.var?_cell gG vg 0, ht, ⟨_, _, bw⟩, ⟨_, _, bf⟩, ⟨_, _, bg⟩, nwf, ?_, nfg⟩
  intro e
  have e2 : aw = ag := e
  rw [e2, cg] at cw
  have e3 : sg = sw := by simpa using cw
  rw [← e3, xg] at xw
  exact absurd xw (by decide)

theorem door_met (os : Os) (args : Array Value) : laidMetH Tryd.prog laid1 ((World.doorLaid Tryd.prog 400 os).forCall (fun _ _ => 0) ⟨#[], args, []⟩).memory :=
  laidMetH_of_parts (laidMet_of_run' 8 (by kernel_rfl) (by kernel_rfl)) (by kernel_rfl)

theorem nat_of_u64 {x : Int} (h : (Lit.int .u64 x).wf = true) : ∃ n : Nat, x = n ∧ n < 18446744073709551616 := by
  have hb := bounds_u64 h
  obtain ⟨n, rfl⟩ := Int.eq_ofNat_of_zero_le hb.1
  exact ⟨n, rfl, by omega⟩

end Go.Proofs.YtpmelbjbkdflgaaDoor
