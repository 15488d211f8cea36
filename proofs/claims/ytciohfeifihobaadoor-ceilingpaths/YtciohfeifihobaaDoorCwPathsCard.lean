/- CeilingPaths: for every label, labels and ceiling the call returns true and each argument reads as before; the listed variables start as the program's text lays them. -/
import Derived.Test.YtciohfeifihobaaDoorCwPaths
import Derived.Test.YtciohfeifihobaaDoorCeLaid
import Derived.Test.YtciohfeifihobaaDoorLabIn
import Derived.Test.YtciohfeifihobaaDoorCeTop
import Derived.Test.YtciohfeifihobaaDoorTie
import Derived.Test.YtciohfeifihobaaDoorCards
import Derived.SevenTiedAt
namespace Go.Proofs.YtciohfeifihobaaDoor
open Go.ChangeShapes Go.WideShapes Go.ChangeAt Go.RowKit Go.Proofs.Cats Go.Proofs.Cel

set_option maxRecDepth 100000 in
theorem ceilingPaths_lifted (os : Os) (started : os.Started) (H2 : Type) (enc : TypeId × Value → H2) :
    ReturnsInHanded {} Tryd.checked os 4 .any (fun w args => (Rows.ceilingPathsSpec.pre enc Tryd.prog Tryd.f4 [] false w args ∧ laidMetH Tryd.prog laid12 w) ∧ sizedMet enc Tryd.prog Tryd.f4 (OpenSpec.ofChange Rows.ceilingPathsSpec) false w args)
      (Rows.ceilingPathsSpec.post enc Tryd.prog Tryd.f4 false true false false) := by
  refine returnsInHanded_of_change_and (C := Tryd.checked) (X := fun w _ => laidMetH Tryd.prog laid12 w) (fun _ _ _ hh h => h.of_heap hh) own started (by kernel_rfl) Tryd.func4
    (ChangeSpec.witness_shaped (enc := enc) (C := Tryd.checked) (os := os) (X := fun w _ => laidMetH Tryd.prog laid12 w) false (World.doorLaid Tryd.prog 400 os) #[.agg #[.int .i64 0, .int .u64 0, .int .i64 0], .slice none 0 0, .agg #[.int .i64 0, .int .u64 0, .int .i64 0]] 8 rfl (World.shaped_of_RefB (by kernel_rfl) (by kernel_rfl)) (by kernel_rfl) (by kernel_rfl) (by kernel_rfl) (door_met12 os _)) ?_
  intro W base args ds gs before hval0 hW _ hsz hL _
  have hval : ∀ (j : Nat) t v, Tryd.f4.params[j]? = some t → args[j]? = some v → Value.okWide Tryd.prog W .any base t v := hval0
  have hW' := hW
  obtain ⟨p, q, hA0, hV, rfl, hfz, hnd⟩ := hW
  have hA : DataW.TrodAll enc Tryd.prog W 0 (fun _ => true) true Tryd.f4.params.toList args.toList ds p := hA0
  rw [Tryd.params4] at hA hval
  obtain ⟨v0, vs0, d0, ds0, p0, q0, hargs, rfl, rfl, h0, r0⟩ := trodAll_cons hA
  obtain ⟨v1, vs1, d1, ds1, p1, q1, rfl, rfl, rfl, h1, r1⟩ := trodAll_cons r0
  obtain ⟨v2, vs2, d2, ds2, p2, q2, rfl, rfl, rfl, h2, r2⟩ := trodAll_cons r1
  obtain ⟨rfl, rfl, rfl⟩ := trodAll_nil r2
  obtain rfl : args = #[v0, v1, v2] := by cases args; simp_all
  obtain ⟨rfl, rfl⟩ := trodVars_none hV
  have hg := ce_of_laid12 hL
  obtain ⟨x0, w0, rfl, rfl, rfl⟩ := open_lab (hval 0 24 v0 rfl rfl) h0
  obtain ⟨a1, len1, cap1, x1, rfl, y1⟩ := open_labs (hval 1 34 v1 rfl rfl) h1
  have k1 := h1
  have lt1 : ∀ x ∈ p1, x.block < W.heap.size := by obtain ⟨m, hm⟩ := k1; exact DataW.trod_lt m _ _ _ hm
  obtain ⟨x2, w2, rfl, rfl, rfl⟩ := open_lab (hval 2 24 v2 rfl rfl) h2
  clear hA0 hval0
  refine (ceilingPaths_w api x0 x2 w0.fits w2.fits W y1 hg).mono fun e W' ⟨he, bel⟩ => ?_
  subst he
  exact ⟨_, rfl, _, _, _, [], _, [], hW', trodAll_mk1 (shut_bool Tryd.underlying4 _), trodAll_cons_mk (shut_lab w0) (trodAll_cons_mk (Below.trod laidOut (by kernel_rfl) (of_decide_eq_true (by kernel_rfl)) k1 bel lt1) (trodAll_cons_mk (shut_lab w2) (trodAll_mk0))), rfl, bel.frame _, fun h => by cases h⟩

theorem ceilingPaths_holds : Rows.ceilingPathsRow.holds Tryd.pinned (OpenSpec.ofChange Rows.ceilingPathsSpec) :=
  OpenClaim.holds_of_wide 4 Tryd.f4 rfl rfl rfl rfl rfl rfl rfl ⟨rfl, rfl, rfl, rfl, rfl⟩ rfl rfl rfl rfl rfl (by kernel_rfl) Tryd.func4 (by kernel_rfl)
    (of_decide_eq_true (by kernel_rfl)) (by unfold Func.isWrapper; first | (rw [if_pos (by decide +kernel)]; kernel_rfl) | (rw [if_neg (by decide +kernel)]; exact ⟨rfl, rfl⟩))
    (fun os started H2 enc _ => ceilingPaths_lifted os started H2 enc)

theorem ceilingPaths_card : Rows.CeilingPathsCardSaid :=
  Claim7.holds_tied_plain_at .later [] [.handle, .sentinel, .sentinel, .sentinel] true (true, "06706505af30d943aaa084147d087c59924ad486c6db2a9de0a9d07b1e512516") true
    ceilingPaths_holds (fun _ h => by cases h) (by kernel_rfl) (fun _ h => by cases h) ceilingPaths_row_tie rfl ⟨rfl, rfl⟩ (by kernel_rfl) rfl
    (fun f fn hf hfn => by
      obtain rfl : f = 4 := Option.some.inj ((show Tryd.prog.funcNamed Rows.ceilingPathsRow.func = some 4 by kernel_rfl).symm.trans hf) |>.symm
      obtain rfl : fn = Tryd.f4 := (Option.some.inj (Tryd.func4.symm.trans hfn)).symm
      exact ⟨by kernel_rfl, fun j t ht => by
        rw [Tryd.params4] at ht
        have hm : t ∈ [24, 34, 24] := by simpa using Array.mem_of_getElem? ht
        have hall : ([24, 34, 24].all fun u => !Tryd.prog.wantsStandIn u) = true := by kernel_rfl
        exact (show Tryd.prog.wantsStandIn t = false by simpa using List.all_eq_true.1 hall t hm)⟩)
    (by kernel_rfl)
end Go.Proofs.YtciohfeifihobaaDoor
