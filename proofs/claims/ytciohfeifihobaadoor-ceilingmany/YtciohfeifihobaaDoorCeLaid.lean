/- What the listed variables give the walks: errors.errorType and the three sentinels. -/
import Derived.Test.YtciohfeifihobaaDoorRows
import Derived.Test.YtciohfeifihobaaDoorCeEnv
import Derived.Test.YtciohfeifihobaaDoorLabIn
import Derived.Stop.LaidTwo
import Derived.LaidHandle
namespace Go.Proofs.YtciohfeifihobaaDoor
open Go.ChangeShapes Go.WideShapes Go.ChangeAt Go.RowKit Go.Joins

/-- What the rows list. -/
def laid12 : List (String × DataW Unit) := [("errors.errorType", Rows.laid_errors_errorType), ("plimsoll/ceiling.errNone", Rows.laid_plimsoll_ceiling_errNone), ("plimsoll/ceiling.errAbove", Rows.laid_plimsoll_ceiling_errAbove), ("plimsoll/ceiling.errDown", Rows.laid_plimsoll_ceiling_errDown)]
def laid12s : List (String × DataW Unit) := [("plimsoll/ceiling.errNone", Rows.laid_plimsoll_ceiling_errNone), ("plimsoll/ceiling.errAbove", Rows.laid_plimsoll_ceiling_errAbove), ("plimsoll/ceiling.errDown", Rows.laid_plimsoll_ceiling_errDown)]
theorem nG : Tryd.prog.globalNamed "plimsoll/ceiling.errNone" = some 0 := by kernel_rfl
theorem aG : Tryd.prog.globalNamed "plimsoll/ceiling.errAbove" = some 1 := by kernel_rfl
theorem dG : Tryd.prog.globalNamed "plimsoll/ceiling.errDown" = some 2 := by kernel_rfl
theorem nT : (Tryd.prog.globals[0]?).map (·.type) = some 44 := by kernel_rfl
theorem aT : (Tryd.prog.globals[1]?).map (·.type) = some 44 := by kernel_rfl
theorem dT : (Tryd.prog.globals[2]?).map (·.type) = some 44 := by kernel_rfl
theorem star : "*errors.errorString" = "*" ++ "errors.errorString" := by decide
theorem rowErr (u : TypeId) (h : Tryd.prog.typeName? 3 u = some "*errors.errorString") : u = 116 :=
  typeName_ptr_named (nm := "errors.errorString") (by rw [← star]; kernel_rfl) (by kernel_rfl) (by decide) u (by rw [← star]; exact h)
theorem cellsErr : Tryd.prog.cellsOf 138 = 1 := by kernel_rfl
theorem cells9 : Tryd.prog.cellsOf 9 = 1 := by kernel_rfl
theorem laidMet_rest {P : Program} {x : String × DataW Unit} {r : List (String × DataW Unit)} {W : World} (h : laidMet P (x :: r) W) : laidMet P r W := by
  obtain ⟨n, d⟩ := x
  obtain ⟨ps, ⟨g, t, cs, fuel, p, q, _, _, _, _, hr, rfl⟩, hnd, hrows⟩ := h
  exact ⟨q, hr, (List.nodup_append.1 hnd).2.1, fun b off hm => hrows b off (List.mem_append_right _ hm)⟩
theorem sent_of_laid12 {W : World} (h : laidMet Tryd.prog laid12s W) : ∃ s, Sent s W := by
  obtain ⟨aw, af, sw, sf, c0, c1, t0, t1, vw, vf, cw, xw, _, cf, xf, _, nwf, bw, bf⟩ := laid_sentinels2 h nG nT aG aT Tryd.underlying44 rowErr Tryd.underlying116 Tryd.underlying138 rfl rfl Tryd.underlying9 cellsErr cells9
  obtain ⟨af', ag, sf', sg, c2, c3, t2, t3, vf', vg, _, _, _, cg, xg, _, nfg, _, bg⟩ := laid_sentinels2 (laidMet_rest h) aG aT dG dT Tryd.underlying44 rowErr Tryd.underlying116 Tryd.underlying138 rfl rfl Tryd.underlying9 cellsErr cells9
  obtain rfl : af = af' := by
    have e := Option.some.inj (vf.symm.trans vf')
    simpa using e
  refine ⟨⟨aw, af, ag⟩, by simpa using World.var?_cell nG vw 0, by simpa using World.var?_cell aG vf 0, by simpa using World.var?_cell dG vg 0, ⟨_, _, bw⟩, ⟨_, _, bf⟩, ⟨_, _, bg⟩, nwf, ?_, nfg⟩
  intro e
  have e2 : aw = ag := e
  rw [e2, cg] at cw
  have e3 : sg = sw := by simpa using cw
  rw [← e3, xg] at xw
  exact absurd xw (by decide)
theorem ce_of_laid12 {W : World} (h : laidMetH Tryd.prog laid12 W) : Ce W := by
  have h' : laidMet Tryd.prog laid12s W ∧ handlesMet Tryd.prog [("errors.errorType", Rows.laid_errors_errorType)] W := h
  have hh : laidMetH Tryd.prog laid1 W := ⟨laidMet_nil _ _, h'.2⟩
  exact ⟨errT_of_laid hh, sent_of_laid12 h'.1⟩
theorem door_met12 (os : Os) (args : Array Value) : laidMetH Tryd.prog laid12 ((World.doorLaid Tryd.prog 400 os).forCall (fun _ _ => 0) ⟨#[], args, []⟩).memory :=
  laidMetH_of_parts (laidMet_of_run' 8 (by kernel_rfl) (by kernel_rfl)) (by kernel_rfl)
end Go.Proofs.YtciohfeifihobaaDoor
