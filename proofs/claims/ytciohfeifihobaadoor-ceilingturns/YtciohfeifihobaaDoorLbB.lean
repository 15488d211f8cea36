/- Merged texts: LabFoldJ, LabFoldM, LabToldJ, LabToldM, LabJoin, LabMeet, LabLeast, LabFacts, LabMem, RefLess, LabShown -/
import Derived.Test.YtciohfeifihobaaDoorLbA
import Derived.Deep.RegionHeld3
/- The fold over judged labels: joins. -/
namespace Go.Proofs.YtciohfeifihobaaDoor
open Go.RowKit Go.Proofs.Cats Go.Shelf

attribute [local go_sem] Oper.semAt_some

/-- The labels of what the rounds were handed. -/
def labsOf (pre : List FLab) : List Lab := pre.map (·.1)
/-- What is made of some labels. -/
def madeJ (s : Lab) (zs : List Lab) : Lab := zs.foldl Lab.join s
theorem madeJ_snoc (s : Lab) (pre : List FLab) (x : FLab) : madeJ s (labsOf (pre ++ [x])) = (madeJ s (labsOf pre)).join x.1 := by
  simp [madeJ, labsOf, List.map_append, List.foldl_append]
theorem madeJ_fits (s : Lab) (hs : s.fits) : ∀ pre : List FLab, (madeJ s (labsOf pre)).fits
  | [] => hs
  | x :: pre => by
    show (madeJ (s.join x.1) (labsOf pre)).fits
    exact madeJ_fits _ (hs.join x.2) pre

/-- The fold's word between two rounds. -/
def OfJI (n : Nat) (s : Lab) (fv : Value) (w : World) (pre : List FLab) (W : World) : Prop :=
  ((labsOf pre).all Lab.right = true ∧ FoldB n W (madeJ s (labsOf pre)) .nilIface fv) ∧ Below n w W
/-- .. when a round has left. -/
def OfJX (n : Nat) (fv : Value) (w : World) (c : Code) (pre : List FLab) (W : World) : Prop :=
  (c = .exit 0 ∧ (labsOf pre).all Lab.right = false ∧ ∃ m x : Lab, x.right = false ∧ FoldB n W m (errL x) fv) ∧ Below n w W
/-- What the fold tells. -/
def OfJP (s : Lab) (zs : List Lab) (w : World) (e : Ending) (W' : World) : Prop :=
  ((zs.all Lab.right = true ∧ e = .returned (.tuple #[.agg #[.int .i64 (madeJ s zs).l, .int .u64 (madeJ s zs).c, .int .i64 (madeJ s zs).i], .nilIface])) ∨
   (zs.all Lab.right = false ∧ ∃ m x : Lab, x.right = false ∧ e = .returned (.tuple #[.agg #[.int .i64 m.l, .int .u64 m.c, .int .i64 m.i], errL x]))) ∧ Below w.heap.size w W'

set_option maxHeartbeats 400000 in
theorem joins_any (w : World) :
    Calls Tryd.prog 42 #[] w fun e w' => e = .returned (.agg #[.int .i64 0, .int .u64 0, .int .i64 7, .func (.func 57) #[] #[]]) ∧ Below w.heap.size w w' := by
  go_enter Tryd.func42, Tryd.ntmps42
  go_wp2_with fail
  refine (bottom_at _).mono ?_
  rintro e w1 ⟨rfl, rfl⟩
  go_wp2
  exact bodyPost_ret (v := .agg #[.int .i64 0, .int .u64 0, .int .i64 7, .func (.func 57) #[] #[]]) (by simp [results, Tryd.results42, go_sem]) rfl ⟨rfl, ((Below.new _ _).alloc (by simp) _)⟩

set_option maxRecDepth 100000 in
set_option maxHeartbeats 2000000 in
theorem ofJ_in (n : Nat) (hn : 3 ≤ n) (s : Lab) (hs : s.fits) (a : Option Addr) (len cap : Nat) (zs : List Lab) (hreach : zs.length * 24 ≤ 140737488351232) (w : World) (hI : Labs w.heap.size w (.slice a len cap) zs) :
    CallsIn Fence.wide n Tryd.prog 58 #[.agg #[.int .i64 s.l, .int .u64 s.c, .int .i64 s.i, .func (.func 57) #[] #[]], .slice a len cap] w (OfJP s zs w) := by
  have h1 : 1 ≤ n := by omega
  have hmx : Tryd.prog.follows .mixedOrders = true := by kernel_rfl
  refine callsIn_of_wp_marks Tryd.func58 rfl trivial ?_ rfl
  simp only [Tryd.ntmps58, List.size_toArray, List.length_cons, List.length_nil, Nat.reduceAdd, Nat.reduceSub, Array.replicate_succ, Array.replicate_zero, List.push_toArray, List.append_toArray, List.nil_append, List.cons_append]
  gi_wp2
  refine wpIn_scope_wide ?_
  gi_wp2
  refine wpIn_label ?_
  gi_wp2_with (refine ⟨trivial, ?_⟩; gi_at_call 64; refine (judged_in (n - 1) _ _ _ _).mono ?_; rintro e w' ⟨rfl, rfl⟩)
  obtain ⟨W0, hW0⟩ : ∃ W0, (((((w.alloc (.cells #[.int .i64 s.l, .int .u64 s.c, .int .i64 s.i, .func (.func 57) #[] #[]] 64)).alloc (.cells #[.int .i64 0, .int .u64 0, .int .i64 0] 24)).alloc (.cells #[.int .i64 s.l, .int .u64 s.c, .int .i64 s.i] 24)).alloc (.cells #[.nilIface] 44)).alloc (.cells #[.slice a len cap] 34)) = W0 := ⟨_, rfl⟩
  have hB0 : Below w.heap.size w W0 := by
    rw [← hW0]; exact (((((Below.refl _ w).alloc (Nat.le_refl _) _).alloc (by simp) _).alloc (by simp; omega) _).alloc (by simp; omega) _).alloc (by simp; omega) _
  have hF0 : FoldB w.heap.size W0 s .nilIface (.func (.func 57) #[] #[]) := by
    rw [← hW0]; exact foldB_new _ _ _ _
  have hS0 : W0.cell? ⟨w.heap.size + 1 + 1 + 1 + 1, 0, none⟩ = some (.slice a len cap) := by rw [← hW0]; exact World.cell?_alloc_at _ _ _ _ (by simp)
  have hz0 : w.heap.size + 5 = W0.heap.size := by rw [← hW0]; simp
  rw [hW0]
  have HZ := Lib.hid hz0
  clear hW0 hz0
  refine wpIn_rangeFunc_ownH rfl h1 (gf := 67) (lb := #[.pointer (some ⟨w.heap.size + 1 + 1 + 1 + 1, 0, none⟩)]) rfl trivial (enters_of Tryd.func67 (by kernel_rfl) rfl)
    (judged_stops (n - 1) (by omega) (w.heap.size + 1 + 1 + 1 + 1) w.heap.size _ zs hreach W0 (by rw [← HZ.out]; omega) hB0.size hS0 (hI.below hB0)) belowK_t (belowK_b hB0.size) (Below.refl _ _) (fun _ => rfl)
    (OfJI w.heap.size s (.func (.func 57) #[] #[]) w) (OfJX w.heap.size (.func (.func 57) #[] #[]) w) ?hI ?hIx ?h0
    (fun x a' W => ∃ Bx, w.heap.size + 1 + 1 + 1 < Bx ∧ LabAt W Bx 0 x.1 ∧ a' = { tmps := #[.agg #[.int .i64 s.l, .int .u64 s.c, .int .i64 s.i, .func (.func 57) #[] #[]], .slice a len cap, .pointer (some ⟨w.heap.size, 0, none⟩), undef, .pointer (some ⟨w.heap.size + 1, 0, none⟩), .nilIface, .pointer (some ⟨w.heap.size + 1 + 1, 0, none⟩), .pointer (some ⟨w.heap.size + 1 + 1 + 1, 0, none⟩), .pointer (some ⟨Bx, 0, none⟩), errL x.1, .pointer (some ⟨w.heap.size, 0, none⟩), .agg #[.int .i64 s.l, .int .u64 s.c, .int .i64 s.i], .slice a len cap, .func (.func 67) #[] #[.pointer (some ⟨w.heap.size + 1 + 1 + 1 + 1, 0, none⟩)], .agg #[.int .i64 x.1.l, .int .u64 x.1.c, .int .i64 x.1.i], errL x.1, undef, undef, undef, undef, undef, undef, undef, undef, undef, undef, undef, undef], defers := [] })
    ?hAx ?assign ?body ?done ?stop
  case hI =>
    exact OwnFrom.and (Own.from (fun s A B row hs hg hr => ⟨hs.1, hs.2.kept hg hr⟩) _) (ownFrom_below (Nat.le_refl _) hB0.size)
  case hIx =>
    intro c s A B row hs hg hr
    obtain ⟨⟨hc, ha, m, x, hx, hf⟩, hb⟩ := hs
    exact ⟨⟨hc, ha, m, x, hx, hf.kept hg (fun r e => (hr r e).2)⟩, ownFrom_below (β := List FLab) (n₀ := w.heap.size) (w₀ := w) (Nat.le_refl _) hB0.size s A B row hb hg hr⟩
  case hAx =>
    rintro x a' _ A B row ⟨Bx, hBx, hl, rfl⟩ hg hr
    exact ⟨Bx, hBx, ⟨cellK hl.1 hg (fun r e => (hr r e).2), cellK hl.2.1 hg (fun r e => (hr r e).2), cellK hl.2.2 hg (fun r e => (hr r e).2)⟩, rfl⟩
  case h0 => exact ⟨⟨rfl, hF0⟩, hB0⟩
  case assign =>
    rintro l pre x W K ⟨⟨hall, hF⟩, hB⟩ hK
    have hlt := World.block_lt_of_cell? W _ hF.e
    have HK := Lib.hid hK
    have HF := Lib.hid hF
    have HA := Lib.hid hall
    clear hK hF hall
    gi_wp2
    exact HK.out _ _ ((KeepsOthers.alloc _ _).from _) ((Below.refl _ W).alloc hB.size _) ⟨⟨HA.out, HF.out.below (Below.new _ _)⟩, hB.alloc hB.size _⟩ ⟨W.heap.size, hlt, ⟨by simp, by simp, by simp⟩, rfl⟩
  case body =>
    rintro l pre x a' W hl ⟨r, hr⟩ ⟨⟨hall, hF⟩, hB⟩ ⟨Bx, hBx, ⟨x0, x1, x2⟩, rfl⟩ hlt
    have HA := Lib.hid hall
    have HF := Lib.hid hF
    have HR := Lib.hid hr
    obtain ⟨m, hm⟩ : ∃ m, madeJ s (labsOf pre) = m := ⟨_, rfl⟩
    have hmf : m.fits := by rw [← hm]; exact madeJ_fits s hs pre
    rw [hm] at hF HF
    have HM := Lib.hid hm
    have f0 := hF.f
    have m0 := hF.m0
    have m1 := hF.m1
    have m2 := hF.m2
    have e0 := hF.e
    have fe := hF.fe
    have hd : 1 ≤ n - 1 - 1 := by omega
    clear hall hr hm hF
    by_cases hx : x.1.right = true
    · have hxe : errL x.1 = .nilIface := errL_yes _ hx
      have HX := Lib.hid hx
      clear hx
      gi_wp2_with (refine ⟨trivial, ?_⟩; gi_at_call 57; refine (CallsIn.inRound l (callsIn_wide.2 (joinP_any m x.1 hmf x.2 W))).mono ?_; rintro e w1 ⟨rfl, hb1⟩; have gm0 := (HF.out.below hb1).m0; have gm1 := (HF.out.below hb1).m1; have gm2 := (HF.out.below hb1).m2; have gf0 := (HF.out.below hb1).fm0; have gf1 := (HF.out.below hb1).fm1; have gf2 := (HF.out.below hb1).fm2)
      have hbb : Below w.heap.size W w1 := hb1.mono hB.size
      have hB3 := ((hbb.setCell (p := ⟨w.heap.size + 1 + 1, 0, none⟩) (by simp; omega) (.int .i64 (m.join x.1).l)).setCell (p := ⟨w.heap.size + 1 + 1, 1, none⟩) (by simp; omega) (.int .u64 (m.join x.1).c)).setCell (p := ⟨w.heap.size + 1 + 1, 2, none⟩) (by simp; omega) (.int .i64 (m.join x.1).i)
      refine ⟨((((keeps_below hb1).trans (KeepsOthers.setCell _ _ _)).trans (KeepsOthers.setCell _ _ _)).trans (KeepsOthers.setCell _ _ _)).from _, hB3, ⟨?_, ?_⟩, hB.trans hB3⟩
      · unfold labsOf at *
        rw [List.map_append, List.all_append, HA.out]
        simpa using HX.out
      · rw [madeJ_snoc, HM.out]
        exact (HF.out.below hb1).set _
    · have hxe : errL x.1 = .iface 87 (.agg #[.int .i64 x.1.l, .int .u64 x.1.c, .int .i64 x.1.i]) := errL_no _ (by simpa using hx)
      have HX := Lib.hid (Bool.eq_false_iff.2 hx)
      have HE := Lib.hid hxe
      clear hx
      gi_wp2
      refine ⟨(KeepsOthers.setCell _ _ _).from _, ⟨rfl, ?_, m, x.1, HX.out, ?_⟩, hB.setCell (p := ⟨w.heap.size + 1 + 1 + 1, 0, none⟩) (by simp; omega) _⟩
      · unfold labsOf at *
        rw [List.map_append, List.all_append, HA.out]
        simpa using HX.out
      · rw [HE.out]
        exact HF.out.err _
  case done =>
    rintro D ys W hD hys ⟨⟨hall, hF⟩, hB⟩ hK
    replace hys : labsOf ys = zs := hys
    rw [hys] at hall hF
    clear hys
    have HA := Lib.hid hall
    clear hall
    have m0 := hF.m0
    have m1 := hF.m1
    have m2 := hF.m2
    have e0 := hF.e
    have r0 := hF.r0
    have r1 := hF.r1
    have r2 := hF.r2
    have fr0 := hF.fr0
    have fr1 := hF.fr1
    have fr2 := hF.fr2
    have HK := Lib.hid hK
    clear hF hK
    gi_wp2
    refine wpIn_wide.2 ?_
    go_region_held3 (fun w' => w'.cell? ⟨w.heap.size + 1 + 1, 0, none⟩ = some (.int .i64 (madeJ s zs).l) ∧ w'.cell? ⟨w.heap.size + 1 + 1, 1, none⟩ = some (.int .u64 (madeJ s zs).c) ∧ w'.cell? ⟨w.heap.size + 1 + 1, 2, none⟩ = some (.int .i64 (madeJ s zs).i) ∧ w'.cell? ⟨w.heap.size + 1 + 1 + 1, 0, none⟩ = some .nilIface) (go_keep) (fail)
    gi_wp2
    rw [Exit.noGoto_ret]
    have hK' := ((((KeepsOthers.setCell W ⟨w.heap.size + 1, 0, none⟩ (.int .i64 (madeJ s zs).l)).trans (KeepsOthers.setCell _ ⟨w.heap.size + 1, 1, none⟩ (.int .u64 (madeJ s zs).c))).trans (KeepsOthers.setCell _ ⟨w.heap.size + 1, 2, none⟩ (.int .i64 (madeJ s zs).i))).trans (KeepsOthers.drew _)).same D _ HK.out rfl
    have c0 : ((((W.setCell ⟨w.heap.size + 1, 0, none⟩ (.int .i64 (madeJ s zs).l)).setCell ⟨w.heap.size + 1, 1, none⟩ (.int .u64 (madeJ s zs).c)).setCell ⟨w.heap.size + 1, 2, none⟩ (.int .i64 (madeJ s zs).i)).drew.putObj D (.deferred none)).cell? ⟨w.heap.size + 1, 0, none⟩ = some (.int .i64 (madeJ s zs).l) := cellP hK' (setO (x := .int .i64 (madeJ s zs).i) (b := ⟨w.heap.size + 1, 2, none⟩) (setO (x := .int .u64 (madeJ s zs).c) (b := ⟨w.heap.size + 1, 1, none⟩) (setS (.int .i64 (madeJ s zs).l) r0) (ne_off (by omega))) (ne_off (by omega)))
    have c1 : ((((W.setCell ⟨w.heap.size + 1, 0, none⟩ (.int .i64 (madeJ s zs).l)).setCell ⟨w.heap.size + 1, 1, none⟩ (.int .u64 (madeJ s zs).c)).setCell ⟨w.heap.size + 1, 2, none⟩ (.int .i64 (madeJ s zs).i)).drew.putObj D (.deferred none)).cell? ⟨w.heap.size + 1, 1, none⟩ = some (.int .u64 (madeJ s zs).c) := cellP hK' (setO (x := .int .i64 (madeJ s zs).i) (b := ⟨w.heap.size + 1, 2, none⟩) (setS (.int .u64 (madeJ s zs).c) (setO (x := .int .i64 (madeJ s zs).l) (b := ⟨w.heap.size + 1, 0, none⟩) r1 (ne_off (by omega)))) (ne_off (by omega)))
    have c2 : ((((W.setCell ⟨w.heap.size + 1, 0, none⟩ (.int .i64 (madeJ s zs).l)).setCell ⟨w.heap.size + 1, 1, none⟩ (.int .u64 (madeJ s zs).c)).setCell ⟨w.heap.size + 1, 2, none⟩ (.int .i64 (madeJ s zs).i)).drew.putObj D (.deferred none)).cell? ⟨w.heap.size + 1, 2, none⟩ = some (.int .i64 (madeJ s zs).i) := cellP hK' (setS (.int .i64 (madeJ s zs).i) (setO (x := .int .u64 (madeJ s zs).c) (b := ⟨w.heap.size + 1, 1, none⟩) (setO (x := .int .i64 (madeJ s zs).l) (b := ⟨w.heap.size + 1, 0, none⟩) r2 (ne_off (by omega))) (ne_off (by omega))))
    have hB3 := (((hB.setCell (p := ⟨w.heap.size + 1, 0, none⟩) (by simp) (.int .i64 (madeJ s zs).l)).setCell (p := ⟨w.heap.size + 1, 1, none⟩) (by simp) (.int .u64 (madeJ s zs).c)).setCell (p := ⟨w.heap.size + 1, 2, none⟩) (by simp) (.int .i64 (madeJ s zs).i)).drew
    refine ⟨by simp, .inl ⟨_, _, rfl, run_takeDeferred hK', ?_⟩⟩
    refine ⟨.tuple #[.agg #[.int .i64 (madeJ s zs).l, .int .u64 (madeJ s zs).c, .int .i64 (madeJ s zs).i], .nilIface], ?_, .inl ⟨HA.out, rfl⟩, hB3.trans (belowK_b (w := w) (Nat.le_refl _) _ D _ _ (by have := HZ.out; omega) hK' rfl rfl)⟩
    generalize ((((W.setCell ⟨w.heap.size + 1, 0, none⟩ (.int .i64 (madeJ s zs).l)).setCell ⟨w.heap.size + 1, 1, none⟩ (.int .u64 (madeJ s zs).c)).setCell ⟨w.heap.size + 1, 2, none⟩ (.int .i64 (madeJ s zs).i)).drew.putObj D (.deferred none)) = WF at c0 c1 c2 ⊢
    clear hK' hB3
    simp [results, Tryd.results58, go_sem, c0, c1, c2]
  case stop =>
    rintro D c pre W hD hpre ⟨⟨rfl, hall, m, x, hx, hF⟩, hB⟩ hK
    have hz : zs.all Lab.right = false := by
      obtain ⟨t, rfl⟩ := hpre
      rw [List.all_append]
      replace hall : (pre.map (·.1)).all Lab.right = false := hall
      rw [hall, Bool.false_and]
    have HZ2 := Lib.hid hz
    have HX := Lib.hid hx
    clear hz hall hpre hx
    have m0 := hF.m0
    have m1 := hF.m1
    have m2 := hF.m2
    have e0 := hF.e
    have r0 := hF.r0
    have r1 := hF.r1
    have r2 := hF.r2
    have fr0 := hF.fr0
    have fr1 := hF.fr1
    have fr2 := hF.fr2
    have HK := Lib.hid hK
    clear hF hK
    gi_wp2
    refine wpIn_wide.2 ?_
    go_region_held3 (fun w' => w'.cell? ⟨w.heap.size + 1 + 1, 0, none⟩ = some (.int .i64 m.l) ∧ w'.cell? ⟨w.heap.size + 1 + 1, 1, none⟩ = some (.int .u64 m.c) ∧ w'.cell? ⟨w.heap.size + 1 + 1, 2, none⟩ = some (.int .i64 m.i) ∧ w'.cell? ⟨w.heap.size + 1 + 1 + 1, 0, none⟩ = some (errL x)) (go_keep) (fail)
    gi_wp2
    rw [Exit.noGoto_ret]
    have hK' := ((((KeepsOthers.setCell W ⟨w.heap.size + 1, 0, none⟩ (.int .i64 m.l)).trans (KeepsOthers.setCell _ ⟨w.heap.size + 1, 1, none⟩ (.int .u64 m.c))).trans (KeepsOthers.setCell _ ⟨w.heap.size + 1, 2, none⟩ (.int .i64 m.i))).trans (KeepsOthers.drew _)).same D _ HK.out rfl
    have c0 : ((((W.setCell ⟨w.heap.size + 1, 0, none⟩ (.int .i64 m.l)).setCell ⟨w.heap.size + 1, 1, none⟩ (.int .u64 m.c)).setCell ⟨w.heap.size + 1, 2, none⟩ (.int .i64 m.i)).drew.putObj D (.deferred none)).cell? ⟨w.heap.size + 1, 0, none⟩ = some (.int .i64 m.l) := cellP hK' (setO (x := .int .i64 m.i) (b := ⟨w.heap.size + 1, 2, none⟩) (setO (x := .int .u64 m.c) (b := ⟨w.heap.size + 1, 1, none⟩) (setS (.int .i64 m.l) r0) (ne_off (by omega))) (ne_off (by omega)))
    have c1 : ((((W.setCell ⟨w.heap.size + 1, 0, none⟩ (.int .i64 m.l)).setCell ⟨w.heap.size + 1, 1, none⟩ (.int .u64 m.c)).setCell ⟨w.heap.size + 1, 2, none⟩ (.int .i64 m.i)).drew.putObj D (.deferred none)).cell? ⟨w.heap.size + 1, 1, none⟩ = some (.int .u64 m.c) := cellP hK' (setO (x := .int .i64 m.i) (b := ⟨w.heap.size + 1, 2, none⟩) (setS (.int .u64 m.c) (setO (x := .int .i64 m.l) (b := ⟨w.heap.size + 1, 0, none⟩) r1 (ne_off (by omega)))) (ne_off (by omega)))
    have c2 : ((((W.setCell ⟨w.heap.size + 1, 0, none⟩ (.int .i64 m.l)).setCell ⟨w.heap.size + 1, 1, none⟩ (.int .u64 m.c)).setCell ⟨w.heap.size + 1, 2, none⟩ (.int .i64 m.i)).drew.putObj D (.deferred none)).cell? ⟨w.heap.size + 1, 2, none⟩ = some (.int .i64 m.i) := cellP hK' (setS (.int .i64 m.i) (setO (x := .int .u64 m.c) (b := ⟨w.heap.size + 1, 1, none⟩) (setO (x := .int .i64 m.l) (b := ⟨w.heap.size + 1, 0, none⟩) r2 (ne_off (by omega))) (ne_off (by omega))))
    have hB3 := (((hB.setCell (p := ⟨w.heap.size + 1, 0, none⟩) (by simp) (.int .i64 m.l)).setCell (p := ⟨w.heap.size + 1, 1, none⟩) (by simp) (.int .u64 m.c)).setCell (p := ⟨w.heap.size + 1, 2, none⟩) (by simp) (.int .i64 m.i)).drew
    refine ⟨by simp, .inl ⟨_, _, rfl, run_takeDeferred hK', ?_⟩⟩
    refine ⟨.tuple #[.agg #[.int .i64 m.l, .int .u64 m.c, .int .i64 m.i], (errL x)], ?_, .inr ⟨HZ2.out, m, x, HX.out, rfl⟩, hB3.trans (belowK_b (w := w) (Nat.le_refl _) _ D _ _ (by have := HZ.out; omega) hK' rfl rfl)⟩
    generalize ((((W.setCell ⟨w.heap.size + 1, 0, none⟩ (.int .i64 m.l)).setCell ⟨w.heap.size + 1, 1, none⟩ (.int .u64 m.c)).setCell ⟨w.heap.size + 1, 2, none⟩ (.int .i64 m.i)).drew.putObj D (.deferred none)) = WF at c0 c1 c2 ⊢
    clear hK' hB3
    simp [results, Tryd.results58, go_sem, c0, c1, c2]

end Go.Proofs.YtciohfeifihobaaDoor

/- The fold over judged labels: meets. -/
namespace Go.Proofs.YtciohfeifihobaaDoor
open Go.RowKit Go.Proofs.Cats Go.Shelf

attribute [local go_sem] Oper.semAt_some

/-- What is made of some labels. -/
def madeM (s : Lab) (zs : List Lab) : Lab := zs.foldl Lab.meet s
theorem madeM_snoc (s : Lab) (pre : List FLab) (x : FLab) : madeM s (labsOf (pre ++ [x])) = (madeM s (labsOf pre)).meet x.1 := by
  simp [madeM, labsOf, List.map_append, List.foldl_append]
theorem madeM_fits (s : Lab) (hs : s.fits) : ∀ pre : List FLab, (madeM s (labsOf pre)).fits
  | [] => hs
  | x :: pre => by
    show (madeM (s.meet x.1) (labsOf pre)).fits
    exact madeM_fits _ (hs.meet x.2) pre

/-- The fold's word between two rounds. -/
def OfMI (n : Nat) (s : Lab) (fv : Value) (w : World) (pre : List FLab) (W : World) : Prop :=
  ((labsOf pre).all Lab.right = true ∧ FoldB n W (madeM s (labsOf pre)) .nilIface fv) ∧ Below n w W
/-- .. when a round has left. -/
def OfMX (n : Nat) (fv : Value) (w : World) (c : Code) (pre : List FLab) (W : World) : Prop :=
  (c = .exit 0 ∧ (labsOf pre).all Lab.right = false ∧ ∃ m x : Lab, x.right = false ∧ FoldB n W m (errL x) fv) ∧ Below n w W
/-- What the fold tells. -/
def OfMP (s : Lab) (zs : List Lab) (w : World) (e : Ending) (W' : World) : Prop :=
  ((zs.all Lab.right = true ∧ e = .returned (.tuple #[.agg #[.int .i64 (madeM s zs).l, .int .u64 (madeM s zs).c, .int .i64 (madeM s zs).i], .nilIface])) ∨
   (zs.all Lab.right = false ∧ ∃ m x : Lab, x.right = false ∧ e = .returned (.tuple #[.agg #[.int .i64 m.l, .int .u64 m.c, .int .i64 m.i], errL x]))) ∧ Below w.heap.size w W'

end Go.Proofs.YtciohfeifihobaaDoor

/- What a fold tells: joins. -/
namespace Go.Proofs.YtciohfeifihobaaDoor
open Go.RowKit Go.Proofs.Cats Go.Shelf

/-- errors.errorType holds error's own type. -/
def ErrT (w : World) : Prop := w.cell? ⟨3, 0, none⟩ = some (.iface 95 (.agg #[.pointer (some ⟨4, 44, none⟩)]))
theorem ErrT.lt {w : World} (h : ErrT w) : 3 < w.heap.size := World.block_lt_of_cell? w _ h
theorem ErrT.below {n : Nat} {A B : World} (h : ErrT A) (hn : 3 < n) (hb : Below n A B) : ErrT B := (hb.cell (p := ⟨3, 0, none⟩) hn).trans h
theorem ErrT.more {A B : World} (h : ErrT A) (hb : Below A.heap.size A B) : ErrT B := h.below h.lt hb
theorem as_nil_any (t : Value) (w : World) : Calls Tryd.prog 39 #[.nilIface, t] w fun e w' => e = .returned (.bool false) ∧ Below w.heap.size w w' :=
  (as_nil t w).mono fun _ _ ⟨he, hw⟩ => ⟨he, hw ▸ Below.refl _ _⟩
def toldE (zs : List Lab) : Int := if zs.all Lab.right then 0 else 20
theorem toldE_yes (zs : List Lab) (h : zs.all Lab.right = true) : toldE zs = 0 := by unfold toldE; rw [h]; rfl
theorem toldE_no (zs : List Lab) (h : zs.all Lab.right = false) : toldE zs = 20 := by unfold toldE; rw [h]; rfl
/-- What is told of some labels. -/
def toldJ (s : Lab) (zs : List Lab) : Lab := if zs.all Lab.right then madeJ s zs else Lab.zero
theorem toldJ_yes (s : Lab) (zs : List Lab) (h : zs.all Lab.right = true) : toldJ s zs = madeJ s zs := by unfold toldJ; rw [h]; rfl
theorem toldJ_no (s : Lab) (zs : List Lab) (h : zs.all Lab.right = false) : toldJ s zs = Lab.zero := by unfold toldJ; rw [h]; rfl

theorem ofJ_any (s : Lab) (hs : s.fits) (a : Option Addr) (len cap : Nat) (zs : List Lab) (hreach : zs.length * 24 ≤ 140737488351232) (w : World) (hI : Labs w.heap.size w (.slice a len cap) zs) :
    Calls Tryd.prog 58 #[.agg #[.int .i64 s.l, .int .u64 s.c, .int .i64 s.i, .func (.func 57) #[] #[]], .slice a len cap] w (OfJP s zs w) :=
  (callsIn_wide (n := 3)).1 (ofJ_in 3 (by omega) s hs a len cap zs hreach w hI)

set_option maxRecDepth 100000 in
set_option maxHeartbeats 1000000 in
theorem toldJ_any (s : Lab) (hs : s.fits) (a : Option Addr) (len cap : Nat) (zs : List Lab) (hreach : zs.length * 24 ≤ 140737488351232) (w : World) (hI : Labs w.heap.size w (.slice a len cap) zs) (hg : ErrT w) :
    Calls Tryd.prog 43 #[.agg #[.int .i64 s.l, .int .u64 s.c, .int .i64 s.i, .func (.func 57) #[] #[]], .slice a len cap] w fun e w' =>
      e = .returned (.tuple #[.agg #[.int .i64 (toldJ s zs).l, .int .u64 (toldJ s zs).c, .int .i64 (toldJ s zs).i], .int .i64 (toldE zs)]) ∧ Below w.heap.size w w' := by
  have hB2 : Below w.heap.size w ((w.alloc (.cells #[.int .i64 s.l, .int .u64 s.c, .int .i64 s.i, .func (.func 57) #[] #[]] 64)).alloc (.cells #[.int .i64 0, .int .u64 0, .int .i64 0] 24)) := (Below.new _ _).alloc (by simp) _
  have HG := Lib.hid (hg.below hg.lt hB2)
  have HI := Lib.hid ((hI.below hB2).mono (show w.heap.size ≤ ((w.alloc (.cells #[.int .i64 s.l, .int .u64 s.c, .int .i64 s.i, .func (.func 57) #[] #[]] 64)).alloc (.cells #[.int .i64 0, .int .u64 0, .int .i64 0] 24)).heap.size by simp; omega))
  clear hI hg
  cases hz : zs.all Lab.right
  · rw [toldJ_no s zs hz, toldE_no zs hz]
    have C := Lib.hid (ofJ_any s hs a len cap zs hreach _ HI.out)
    have HZ := Lib.hid hz
    clear hz HI
    go_enter Tryd.func43, Tryd.ntmps43
    go_wp2_with fail
    refine C.out.mono ?_
    rintro e w1 ⟨⟨hz, rfl⟩ | ⟨hz, m, x, hx, rfl⟩, hb1⟩
    · exact absurd hz (by rw [HZ.out]; simp)
    have hxe := errL_no x hx
    have r0 : w1.cell? ⟨w.heap.size + 1, 0, none⟩ = some (.int .i64 0) := cell_later hb1 (by simp)
    have r1 : w1.cell? ⟨w.heap.size + 1, 1, none⟩ = some (.int .u64 0) := cell_later hb1 (by simp)
    have r2 : w1.cell? ⟨w.heap.size + 1, 2, none⟩ = some (.int .i64 0) := cell_later hb1 (by simp)
    have f0 : w1.frozen? ⟨w.heap.size + 1, 0, none⟩ = false := (hb1.frozen (p := ⟨w.heap.size + 1, 0, none⟩) (by simp)).trans (by simp)
    have f1 : w1.frozen? ⟨w.heap.size + 1, 1, none⟩ = false := (hb1.frozen (p := ⟨w.heap.size + 1, 1, none⟩) (by simp)).trans (by simp)
    have f2 : w1.frozen? ⟨w.heap.size + 1, 2, none⟩ = false := (hb1.frozen (p := ⟨w.heap.size + 1, 2, none⟩) (by simp)).trans (by simp)
    have hsz : w.heap.size + 1 < w1.heap.size := by have := hb1.size; simp at this; omega
    have HB := Lib.hid (below_more hB2 hb1)
    have t0 : ((w1.alloc (.cells #[.int .i64 m.l, .int .u64 m.c, .int .i64 m.i] 24)).alloc (.cells #[.int .i64 0, .int .u64 0, .int .i64 0] 87)).cell? ⟨w1.heap.size + 1, 0, none⟩ = some (.int .i64 0) := by simp
    have t1 : ((w1.alloc (.cells #[.int .i64 m.l, .int .u64 m.c, .int .i64 m.i] 24)).alloc (.cells #[.int .i64 0, .int .u64 0, .int .i64 0] 87)).cell? ⟨w1.heap.size + 1, 1, none⟩ = some (.int .u64 0) := by simp
    have t2 : ((w1.alloc (.cells #[.int .i64 m.l, .int .u64 m.c, .int .i64 m.i] 24)).alloc (.cells #[.int .i64 0, .int .u64 0, .int .i64 0] 87)).cell? ⟨w1.heap.size + 1, 2, none⟩ = some (.int .i64 0) := by simp
    have hB4 : Below w1.heap.size w1 ((w1.alloc (.cells #[.int .i64 m.l, .int .u64 m.c, .int .i64 m.i] 24)).alloc (.cells #[.int .i64 0, .int .u64 0, .int .i64 0] 87)) := (Below.new _ _).alloc (by simp) _
    have CA := Lib.hid (as_hit x.l x.c x.i (w1.heap.size + 1) _ _ _ _ ((HG.out.more hb1).more hB4) t0 t1 t2 (by simp) (by simp) (by simp))
    have HE := Lib.hid hxe
    have H4 := Lib.hid hB4
    have HR := Lib.hid (And.intro r0 (And.intro r1 (And.intro r2 (And.intro f0 (And.intro f1 f2)))))
    clear hz hx hb1 HG C t0 t1 t2 hB4 r0 r1 r2 f0 f1 f2
    go_wp2_with fail
    refine CA.out.mono ?_
    rintro e w2 ⟨rfl, hb2⟩
    obtain ⟨r0, r1, r2, f0, f1, f2⟩ := HR.out
    have q0 := (hb2.cell (p := ⟨w.heap.size + 1, 0, none⟩) (by simp; omega)).trans ((H4.out.cell (p := ⟨w.heap.size + 1, 0, none⟩) hsz).trans r0)
    have q1 := (hb2.cell (p := ⟨w.heap.size + 1, 1, none⟩) (by simp; omega)).trans ((H4.out.cell (p := ⟨w.heap.size + 1, 1, none⟩) hsz).trans r1)
    have q2 := (hb2.cell (p := ⟨w.heap.size + 1, 2, none⟩) (by simp; omega)).trans ((H4.out.cell (p := ⟨w.heap.size + 1, 2, none⟩) hsz).trans r2)
    have p0 := (hb2.frozen (p := ⟨w.heap.size + 1, 0, none⟩) (by simp; omega)).trans ((H4.out.frozen (p := ⟨w.heap.size + 1, 0, none⟩) hsz).trans f0)
    have p1 := (hb2.frozen (p := ⟨w.heap.size + 1, 1, none⟩) (by simp; omega)).trans ((H4.out.frozen (p := ⟨w.heap.size + 1, 1, none⟩) hsz).trans f1)
    have p2 := (hb2.frozen (p := ⟨w.heap.size + 1, 2, none⟩) (by simp; omega)).trans ((H4.out.frozen (p := ⟨w.heap.size + 1, 2, none⟩) hsz).trans f2)
    have H5 := Lib.hid ((HB.out.trans ((H4.out).mono (by omega))).trans (hb2.mono (by omega)))
    clear HR CA H4 hb2 r0 r1 r2 f0 f1 f2
    go_wp2
    refine bodyPost_ret (v := .tuple #[.agg #[.int .i64 0, .int .u64 0, .int .i64 0], .int .i64 20]) ?_ rfl ⟨rfl, ((H5.out.setCell (p := ⟨w.heap.size + 1, 0, none⟩) (by simp) _).setCell (p := ⟨w.heap.size + 1, 1, none⟩) (by simp) _).setCell (p := ⟨w.heap.size + 1, 2, none⟩) (by simp) _⟩
    have c0 := setO (x := .int .i64 0) (b := ⟨w.heap.size + 1, 2, none⟩) (setO (x := .int .u64 0) (b := ⟨w.heap.size + 1, 1, none⟩) (setS (.int .i64 0) q0) (ne_off (by omega))) (ne_off (by omega))
    have c1 := setO (x := .int .i64 0) (b := ⟨w.heap.size + 1, 2, none⟩) (setS (.int .u64 0) (setO (x := .int .i64 0) (b := ⟨w.heap.size + 1, 0, none⟩) q1 (ne_off (by omega)))) (ne_off (by omega))
    have c2 := setS (.int .i64 0) (setO (x := .int .u64 0) (b := ⟨w.heap.size + 1, 1, none⟩) (setO (x := .int .i64 0) (b := ⟨w.heap.size + 1, 0, none⟩) q2 (ne_off (by omega))) (ne_off (by omega)))
    generalize ((w2.setCell ⟨w.heap.size + 1, 0, none⟩ (.int .i64 0)).setCell ⟨w.heap.size + 1, 1, none⟩ (.int .u64 0)).setCell ⟨w.heap.size + 1, 2, none⟩ (.int .i64 0) = WF at c0 c1 c2 ⊢
    simp [results, Tryd.results43, go_sem, c0, c1, c2]
  · rw [toldJ_yes s zs hz, toldE_yes zs hz]
    have C := Lib.hid (ofJ_any s hs a len cap zs hreach _ HI.out)
    have HZ := Lib.hid hz
    clear hz HI
    go_enter Tryd.func43, Tryd.ntmps43
    go_wp2_with fail
    refine C.out.mono ?_
    rintro e w1 ⟨⟨hz, rfl⟩ | ⟨hz, m, x, hx, rfl⟩, hb1⟩
    rotate_left
    · exact absurd hz (by rw [HZ.out]; simp)
    have r0 : w1.cell? ⟨w.heap.size + 1, 0, none⟩ = some (.int .i64 0) := cell_later hb1 (by simp)
    have r1 : w1.cell? ⟨w.heap.size + 1, 1, none⟩ = some (.int .u64 0) := cell_later hb1 (by simp)
    have r2 : w1.cell? ⟨w.heap.size + 1, 2, none⟩ = some (.int .i64 0) := cell_later hb1 (by simp)
    have f0 : w1.frozen? ⟨w.heap.size + 1, 0, none⟩ = false := (hb1.frozen (p := ⟨w.heap.size + 1, 0, none⟩) (by simp)).trans (by simp)
    have f1 : w1.frozen? ⟨w.heap.size + 1, 1, none⟩ = false := (hb1.frozen (p := ⟨w.heap.size + 1, 1, none⟩) (by simp)).trans (by simp)
    have f2 : w1.frozen? ⟨w.heap.size + 1, 2, none⟩ = false := (hb1.frozen (p := ⟨w.heap.size + 1, 2, none⟩) (by simp)).trans (by simp)
    have hsz : w.heap.size + 1 < w1.heap.size := by have := hb1.size; simp at this; omega
    have HB := Lib.hid (below_more hB2 hb1)
    have hB4 : Below w1.heap.size w1 ((w1.alloc (.cells #[.int .i64 (madeJ s zs).l, .int .u64 (madeJ s zs).c, .int .i64 (madeJ s zs).i] 24)).alloc (.cells #[.int .i64 0, .int .u64 0, .int .i64 0] 87)) := (Below.new _ _).alloc (by simp) _
    have t0 : ((w1.alloc (.cells #[.int .i64 (madeJ s zs).l, .int .u64 (madeJ s zs).c, .int .i64 (madeJ s zs).i] 24)).alloc (.cells #[.int .i64 0, .int .u64 0, .int .i64 0] 87)).cell? ⟨w1.heap.size, 0, none⟩ = some (.int .i64 (madeJ s zs).l) := by simp
    have t1 : ((w1.alloc (.cells #[.int .i64 (madeJ s zs).l, .int .u64 (madeJ s zs).c, .int .i64 (madeJ s zs).i] 24)).alloc (.cells #[.int .i64 0, .int .u64 0, .int .i64 0] 87)).cell? ⟨w1.heap.size, 1, none⟩ = some (.int .u64 (madeJ s zs).c) := by simp
    have t2 : ((w1.alloc (.cells #[.int .i64 (madeJ s zs).l, .int .u64 (madeJ s zs).c, .int .i64 (madeJ s zs).i] 24)).alloc (.cells #[.int .i64 0, .int .u64 0, .int .i64 0] 87)).cell? ⟨w1.heap.size, 2, none⟩ = some (.int .i64 (madeJ s zs).i) := by simp
    have CA := Lib.hid (as_nil_any (.iface 88 (.pointer (some ⟨w1.heap.size + 1, 0, none⟩))) ((w1.alloc (.cells #[.int .i64 (madeJ s zs).l, .int .u64 (madeJ s zs).c, .int .i64 (madeJ s zs).i] 24)).alloc (.cells #[.int .i64 0, .int .u64 0, .int .i64 0] 87)))
    have H4 := Lib.hid hB4
    have HR := Lib.hid (And.intro r0 (And.intro r1 (And.intro r2 (And.intro f0 (And.intro f1 f2)))))
    have HM := Lib.hid (And.intro t0 (And.intro t1 t2))
    clear hz hb1 HG C t0 t1 t2 hB4 r0 r1 r2 f0 f1 f2
    go_wp2_with fail
    refine CA.out.mono ?_
    rintro e w2 ⟨rfl, hb2⟩
    obtain ⟨r0, r1, r2, f0, f1, f2⟩ := HR.out
    obtain ⟨t0, t1, t2⟩ := HM.out
    have u0 := cell_later hb2 t0
    have u1 := cell_later hb2 t1
    have u2 := cell_later hb2 t2
    have q0 := (hb2.cell (p := ⟨w.heap.size + 1, 0, none⟩) (by simp; omega)).trans ((H4.out.cell (p := ⟨w.heap.size + 1, 0, none⟩) hsz).trans r0)
    have q1 := (hb2.cell (p := ⟨w.heap.size + 1, 1, none⟩) (by simp; omega)).trans ((H4.out.cell (p := ⟨w.heap.size + 1, 1, none⟩) hsz).trans r1)
    have q2 := (hb2.cell (p := ⟨w.heap.size + 1, 2, none⟩) (by simp; omega)).trans ((H4.out.cell (p := ⟨w.heap.size + 1, 2, none⟩) hsz).trans r2)
    have p0 := (hb2.frozen (p := ⟨w.heap.size + 1, 0, none⟩) (by simp; omega)).trans ((H4.out.frozen (p := ⟨w.heap.size + 1, 0, none⟩) hsz).trans f0)
    have p1 := (hb2.frozen (p := ⟨w.heap.size + 1, 1, none⟩) (by simp; omega)).trans ((H4.out.frozen (p := ⟨w.heap.size + 1, 1, none⟩) hsz).trans f1)
    have p2 := (hb2.frozen (p := ⟨w.heap.size + 1, 2, none⟩) (by simp; omega)).trans ((H4.out.frozen (p := ⟨w.heap.size + 1, 2, none⟩) hsz).trans f2)
    have H5 := Lib.hid ((HB.out.trans ((H4.out).mono (by omega))).trans (hb2.mono (by simp; omega)))
    clear HR CA H4 HM hb2 r0 r1 r2 f0 f1 f2 t0 t1 t2
    go_wp2
    refine bodyPost_ret (v := .tuple #[.agg #[.int .i64 (madeJ s zs).l, .int .u64 (madeJ s zs).c, .int .i64 (madeJ s zs).i], .int .i64 0]) ?_ rfl ⟨rfl, ((H5.out.setCell (p := ⟨w.heap.size + 1, 0, none⟩) (by simp) _).setCell (p := ⟨w.heap.size + 1, 1, none⟩) (by simp) _).setCell (p := ⟨w.heap.size + 1, 2, none⟩) (by simp) _⟩
    have c0 := setO (x := .int .i64 (madeJ s zs).i) (b := ⟨w.heap.size + 1, 2, none⟩) (setO (x := .int .u64 (madeJ s zs).c) (b := ⟨w.heap.size + 1, 1, none⟩) (setS (.int .i64 (madeJ s zs).l) q0) (ne_off (by omega))) (ne_off (by omega))
    have c1 := setO (x := .int .i64 (madeJ s zs).i) (b := ⟨w.heap.size + 1, 2, none⟩) (setS (.int .u64 (madeJ s zs).c) (setO (x := .int .i64 (madeJ s zs).l) (b := ⟨w.heap.size + 1, 0, none⟩) q1 (ne_off (by omega)))) (ne_off (by omega))
    have c2 := setS (.int .i64 (madeJ s zs).i) (setO (x := .int .u64 (madeJ s zs).c) (b := ⟨w.heap.size + 1, 1, none⟩) (setO (x := .int .i64 (madeJ s zs).l) (b := ⟨w.heap.size + 1, 0, none⟩) q2 (ne_off (by omega))) (ne_off (by omega)))
    generalize ((w2.setCell ⟨w.heap.size + 1, 0, none⟩ (.int .i64 (madeJ s zs).l)).setCell ⟨w.heap.size + 1, 1, none⟩ (.int .u64 (madeJ s zs).c)).setCell ⟨w.heap.size + 1, 2, none⟩ (.int .i64 (madeJ s zs).i) = WF at c0 c1 c2 ⊢
    simp [results, Tryd.results43, go_sem, c0, c1, c2]

end Go.Proofs.YtciohfeifihobaaDoor

/- What a fold tells: meets. -/
namespace Go.Proofs.YtciohfeifihobaaDoor
open Go.RowKit Go.Proofs.Cats Go.Shelf

/-- What is told of some labels. -/
def toldM (s : Lab) (zs : List Lab) : Lab := if zs.all Lab.right then madeM s zs else Lab.zero
theorem toldM_yes (s : Lab) (zs : List Lab) (h : zs.all Lab.right = true) : toldM s zs = madeM s zs := by unfold toldM; rw [h]; rfl
theorem toldM_no (s : Lab) (zs : List Lab) (h : zs.all Lab.right = false) : toldM s zs = Lab.zero := by unfold toldM; rw [h]; rfl

end Go.Proofs.YtciohfeifihobaaDoor

/- The contracts of label.Join. -/
namespace Go.Proofs.YtciohfeifihobaaDoor
open Go.RowKit Go.Proofs.Cats Go.Shelf

/-- The answer's room: three cells that may be written. -/
def Room3 (b : Nat) (W : World) : Prop := ∃ v0 v1 v2, W.cell? ⟨b, 0, none⟩ = some v0 ∧ W.cell? ⟨b, 1, none⟩ = some v1 ∧ W.cell? ⟨b, 2, none⟩ = some v2 ∧
  W.frozen? ⟨b, 0, none⟩ = false ∧ W.frozen? ⟨b, 1, none⟩ = false ∧ W.frozen? ⟨b, 2, none⟩ = false
/-- What a call of two labels keeps: the answer's room, what lay before, error's type. -/
def Room (w W : World) : Prop := Room3 (w.heap.size + 1 + 1) W ∧ Below w.heap.size w W ∧ ErrT W ∧ 3 < w.heap.size
theorem Room3.below {b : Nat} {W W1 : World} : Room3 b W → Below W.heap.size W W1 → Room3 b W1
  | ⟨v0, v1, v2, h0, h1, h2, f0, f1, f2⟩, hb => ⟨v0, v1, v2, cell_later hb h0, cell_later hb h1, cell_later hb h2,
    (hb.frozen (World.block_lt_of_cell? W _ h0)).trans f0, (hb.frozen (World.block_lt_of_cell? W _ h1)).trans f1, (hb.frozen (World.block_lt_of_cell? W _ h2)).trans f2⟩
theorem Room.below {w W W1 : World} (h : Room w W) (hb : Below W.heap.size W W1) : Room w W1 := ⟨h.1.below hb, below_more h.2.1 hb, h.2.2.1.more hb, h.2.2.2⟩
theorem Room.err {w W : World} (h : Room w W) : ErrT W := h.2.2.1
theorem Room.mid {w W : World} (h : Room w W) : Below w.heap.size w W := h.2.1
theorem Room.drew {w W : World} (h : Room w W) : Room w W.drew := ⟨h.1, h.2.1.drew, h.2.2⟩
theorem set3 {W : World} {n b o : Nat} {v x y z : Value} (h : W.cell? ⟨b, o, none⟩ = some v) (hb : n ≠ b) : (((W.setCell ⟨n, 0, none⟩ x).setCell ⟨n, 1, none⟩ y).setCell ⟨n, 2, none⟩ z).cell? ⟨b, o, none⟩ = some v :=
  setO (setO (setO h (ne_blk hb)) (ne_blk hb)) (ne_blk hb)
theorem Room.set {w W : World} (h : Room w W) (x y z : Value) : Room w (((W.setCell ⟨w.heap.size + 1 + 1, 0, none⟩ x).setCell ⟨w.heap.size + 1 + 1, 1, none⟩ y).setCell ⟨w.heap.size + 1 + 1, 2, none⟩ z) := by
  obtain ⟨⟨v0, v1, v2, h0, h1, h2, f0, f1, f2⟩, hB, hE, hl⟩ := h
  refine ⟨⟨x, y, z, setO (setO (setS _ h0) (ne_off (by omega))) (ne_off (by omega)), setO (setS _ (setO h1 (ne_off (by omega)))) (ne_off (by omega)), setS _ (setO (setO h2 (ne_off (by omega))) (ne_off (by omega))), setF (setF (setF f0)), setF (setF (setF f1)), setF (setF (setF f2))⟩,
    ((hB.setCell (p := ⟨w.heap.size + 1 + 1, 0, none⟩) (by simp; omega) _).setCell (p := ⟨w.heap.size + 1 + 1, 1, none⟩) (by simp; omega) _).setCell (p := ⟨w.heap.size + 1 + 1, 2, none⟩) (by simp; omega) _, set3 hE (by omega), hl⟩
theorem room_new (w : World) (o1 o2 : Obj) (hg : ErrT w) : Room w (((w.alloc o1).alloc o2).alloc (.cells #[.int .i64 0, .int .u64 0, .int .i64 0] 24)) := by
  have hB : Below w.heap.size w (((w.alloc o1).alloc o2).alloc (.cells #[.int .i64 0, .int .u64 0, .int .i64 0] 24)) := (((Below.refl _ w).alloc (Nat.le_refl _) _).alloc (by simp) _).alloc (by simp; omega) _
  exact ⟨⟨_, _, _, World.cell?_alloc_at _ _ _ _ (by simp), World.cell?_alloc_at _ _ _ _ (by simp), World.cell?_alloc_at _ _ _ _ (by simp), by go_simp, by go_simp, by go_simp⟩, hB, hg.more hB, hg.lt⟩

/-- Two labels in one block. -/
def Pair6 (W : World) (b : Nat) (x y : Lab) : Prop := LabAt W b 0 x ∧ LabAt W b 3 y
theorem Pair6.later {W W1 : World} {b : Nat} {x y : Lab} (h : Pair6 W b x y) (hb : Below W.heap.size W W1) : Pair6 W1 b x y :=
  ⟨⟨cell_later hb h.1.1, cell_later hb h.1.2.1, cell_later hb h.1.2.2⟩, ⟨cell_later hb h.2.1, cell_later hb h.2.2.1, cell_later hb h.2.2.2⟩⟩
theorem Pair6.drew {W : World} {b : Nat} {x y : Lab} (h : Pair6 W b x y) : Pair6 W.drew b x y := h
theorem pair6_new (W : World) (x y : Lab) (b : Nat) (h : b = W.heap.size) : Pair6 (W.alloc (.cells #[.int .i64 x.l, .int .u64 x.c, .int .i64 x.i, .int .i64 y.l, .int .u64 y.c, .int .i64 y.i] 24)) b x y :=
  ⟨⟨World.cell?_alloc_at _ _ _ _ h, World.cell?_alloc_at _ _ _ _ h, World.cell?_alloc_at _ _ _ _ h⟩, ⟨World.cell?_alloc_at _ _ _ _ h, World.cell?_alloc_at _ _ _ _ h, World.cell?_alloc_at _ _ _ _ h⟩⟩
theorem two_new (w : World) (x y : Lab) (o : Obj) : LabAt (((w.alloc (.cells #[.int .i64 x.l, .int .u64 x.c, .int .i64 x.i] 24)).alloc (.cells #[.int .i64 y.l, .int .u64 y.c, .int .i64 y.i] 24)).alloc o) w.heap.size 0 x ∧ LabAt (((w.alloc (.cells #[.int .i64 x.l, .int .u64 x.c, .int .i64 x.i] 24)).alloc (.cells #[.int .i64 y.l, .int .u64 y.c, .int .i64 y.i] 24)).alloc o) (w.heap.size + 1) 0 y :=
  ⟨⟨by go_simp, by go_simp, by go_simp⟩, ⟨by go_simp, by go_simp, by go_simp⟩⟩
def twoE (a b : Lab) : Int := if a.right && b.right then 0 else 20
theorem twoE_eq (a b : Lab) : toldE [a, b] = twoE a b := by
  unfold toldE twoE
  simp
theorem labs_pair {W : World} {b : Nat} {x y : Lab} (h : Pair6 W b x y) (hx : x.fits) (hy : y.fits) : Labs W.heap.size W (.slice (some ⟨b, 0, none⟩) 2 2) [x, y] :=
  ⟨_, 2, rfl, fun _ => ⟨b, 0, rfl, World.block_lt_of_cell? W _ h.1.1, fun j z hj => by
    match j with
    | 0 => obtain rfl := Option.some.inj hj; exact ⟨hx, h.1⟩
    | 1 => obtain rfl := Option.some.inj hj; exact ⟨hy, h.2⟩
    | n + 2 => simp at hj⟩⟩
/-- What Join tells of two. -/
def twoJ (a b : Lab) : Lab := if a.right && b.right then a.join b else Lab.zero
theorem twoJ_eq (a b : Lab) (_ha : a.fits) (_hb : b.fits) : toldJ Lab.bot [a, b] = twoJ a b := by
  unfold toldJ twoJ
  cases h : a.right
  · simp [h]
  · cases k : b.right
    · simp [h, k]
    · simp only [List.all_cons, List.all_nil, h, k, Bool.and_true, if_true]
      show (Lab.bot.join a).join b = a.join b
      rw [Lab.bot_join a h]
theorem toldJ_start (a : Option Addr) (len cap : Nat) (zs : List Lab) (hreach : zs.length * 24 ≤ 140737488351232) (w : World) (hI : Labs w.heap.size w (.slice a len cap) zs) (hg : ErrT w) :
    Calls Tryd.prog 43 #[.agg #[.int .i64 0, .int .u64 0, .int .i64 7, .func (.func 57) #[] #[]], .slice a len cap] w fun e w' =>
      e = .returned (.tuple #[.agg #[.int .i64 (toldJ Lab.bot zs).l, .int .u64 (toldJ Lab.bot zs).c, .int .i64 (toldJ Lab.bot zs).i], .int .i64 (toldE zs)]) ∧ Below w.heap.size w w' := by
  have := toldJ_any Lab.bot Lab.fits_bot a len cap zs hreach w hI hg
  exact this

set_option maxRecDepth 100000 in
set_option maxHeartbeats 2000000 in
theorem Join_raw (a b : Lab) (ha : a.fits) (hb : b.fits) (w : World) (hg : ErrT w) :
    Calls Tryd.prog 26 #[.agg #[.int .i64 a.l, .int .u64 a.c, .int .i64 a.i], .agg #[.int .i64 b.l, .int .u64 b.c, .int .i64 b.i]] w fun e w' =>
      e = .returned (.tuple #[.agg #[.int .i64 (toldJ Lab.bot [a, b]).l, .int .u64 (toldJ Lab.bot [a, b]).c, .int .i64 (toldJ Lab.bot [a, b]).i], .int .i64 (toldE [a, b])]) ∧ Below w.heap.size w w' := by
  have hc := Lib.hid (two_new w a b (.cells #[.int .i64 0, .int .u64 0, .int .i64 0] 24))
  have ht := Lib.hid (room_new w (.cells #[.int .i64 a.l, .int .u64 a.c, .int .i64 a.i] 24) (.cells #[.int .i64 b.l, .int .u64 b.c, .int .i64 b.i] 24) hg)
  obtain ⟨T, hT⟩ : ∃ T, toldJ Lab.bot [a, b] = T := ⟨_, rfl⟩
  obtain ⟨E, hE⟩ : ∃ E, toldE [a, b] = E := ⟨_, rfl⟩
  rw [hT, hE]
  have HT := Lib.hid hT
  have HE := Lib.hid hE
  clear hg hT hE
  go_enter Tryd.func26, Tryd.ntmps26
  go_wp2_with fail
  generalize (((w.alloc (.cells #[.int .i64 a.l, .int .u64 a.c, .int .i64 a.i] 24)).alloc (.cells #[.int .i64 b.l, .int .u64 b.c, .int .i64 b.i] 24)).alloc (.cells #[.int .i64 0, .int .u64 0, .int .i64 0] 24)) = W0 at hc ht ⊢
  obtain ⟨⟨a0, a1, a2⟩, ⟨b0, b1, b2⟩⟩ := hc.out
  clear hc
  go_region_held3 (fun w' => w'.cell? ⟨w.heap.size, 0, none⟩ = some (.int .i64 a.l) ∧ w'.cell? ⟨w.heap.size, 1, none⟩ = some (.int .u64 a.c) ∧ w'.cell? ⟨w.heap.size, 2, none⟩ = some (.int .i64 a.i) ∧
      w'.cell? ⟨w.heap.size + 1, 0, none⟩ = some (.int .i64 b.l) ∧ w'.cell? ⟨w.heap.size + 1, 1, none⟩ = some (.int .u64 b.c) ∧ w'.cell? ⟨w.heap.size + 1, 2, none⟩ = some (.int .i64 b.i) ∧ Room w w')
    (first
      | (go_split_ands; with_reducible exact ⟨cell_later hbw (by assumption), cell_later hbw (by assumption), cell_later hbw (by assumption), cell_later hbw (by assumption), cell_later hbw (by assumption), cell_later hbw (by assumption), Room.below (by assumption) hbw⟩)
      | (go_split_ands; with_reducible exact ⟨cell_later (Below.new _ _) (by assumption), cell_later (Below.new _ _) (by assumption), cell_later (Below.new _ _) (by assumption), cell_later (Below.new _ _) (by assumption), cell_later (Below.new _ _) (by assumption), cell_later (Below.new _ _) (by assumption), Room.below (by assumption) (Below.new _ _)⟩)
      | (go_split_ands; with_reducible exact ⟨set3 (by assumption) (by omega), set3 (by assumption) (by omega), set3 (by assumption) (by omega), set3 (by assumption) (by omega), set3 (by assumption) (by omega), set3 (by assumption) (by omega), Room.set (by assumption) _ _ _⟩)
      | (exact ⟨a0, a1, a2, b0, b1, b2, ht.out.drew⟩))
    (first
      | (go_at_call 42; ((with_reducible refine (joins_any _).mono ?_); rintro e w' ⟨rfl, hbw⟩))
      | (go_at_call 43; go_split_ands; (with_reducible refine (toldJ_start (some ⟨_, 0, none⟩) 2 2 [a, b] ?_ _ ?_ ?_).mono ?_)
         · simp
         · first | exact labs_pair (pair6_new _ a b _ (by simp)) ha hb | exact labs_pair ((pair6_new _ a b _ (by simp)).drew.later hbw) ha hb
         · exact Room.err (by assumption)
         rw [HT.out, HE.out]
         rintro e w' ⟨rfl, hbw⟩
         obtain ⟨v0, v1, v2, r0, r1, r2, f0, f1, f2⟩ := (Room.below (by assumption) hbw).1))
  all_goals
    go_split_ands
    have hB := Lib.hid (Room.mid (by assumption))
    have c0 := setO (x := .int .i64 T.i) (b := ⟨w.heap.size + 1 + 1, 2, none⟩) (setO (x := .int .u64 T.c) (b := ⟨w.heap.size + 1 + 1, 1, none⟩) (setS (.int .i64 T.l) r0) (ne_off (by omega))) (ne_off (by omega))
    have c1 := setO (x := .int .i64 T.i) (b := ⟨w.heap.size + 1 + 1, 2, none⟩) (setS (.int .u64 T.c) (setO (x := .int .i64 T.l) (b := ⟨w.heap.size + 1 + 1, 0, none⟩) r1 (ne_off (by omega)))) (ne_off (by omega))
    have c2 := setS (.int .i64 T.i) (setO (x := .int .u64 T.c) (b := ⟨w.heap.size + 1 + 1, 1, none⟩) (setO (x := .int .i64 T.l) (b := ⟨w.heap.size + 1 + 1, 0, none⟩) r2 (ne_off (by omega))) (ne_off (by omega)))
    have HC := Lib.hid (And.intro c0 (And.intro c1 c2))
    clear c0 c1 c2 r0 r1 r2 f0 f1 f2 hbw a0 a1 a2 b0 b1 b2
    clear ht
    go_wp2
    obtain ⟨c0, c1, c2⟩ := HC.out
    refine bodyPost_ret (v := .tuple #[.agg #[.int .i64 T.l, .int .u64 T.c, .int .i64 T.i], .int .i64 E]) ?_ rfl ⟨rfl, hB.out⟩
    clear HC hB
    generalize ((w'.setCell ⟨w.heap.size + 1 + 1, 0, none⟩ (.int .i64 T.l)).setCell ⟨w.heap.size + 1 + 1, 1, none⟩ (.int .u64 T.c)).setCell ⟨w.heap.size + 1 + 1, 2, none⟩ (.int .i64 T.i) = WF at c0 c1 c2 ⊢
    simp [results, Tryd.results26, go_sem, c0, c1, c2]

theorem Join_any (a b : Lab) (ha : a.fits) (hb : b.fits) (w : World) (hg : ErrT w) :
    Calls Tryd.prog 26 #[.agg #[.int .i64 a.l, .int .u64 a.c, .int .i64 a.i], .agg #[.int .i64 b.l, .int .u64 b.c, .int .i64 b.i]] w fun e w' =>
      e = .returned (.tuple #[.agg #[.int .i64 (twoJ a b).l, .int .u64 (twoJ a b).c, .int .i64 (twoJ a b).i], .int .i64 (twoE a b)]) ∧ Below w.heap.size w w' := by
  rw [← twoJ_eq a b ha hb, ← twoE_eq a b]
  exact Join_raw a b ha hb w hg

end Go.Proofs.YtciohfeifihobaaDoor

/- The contracts of label.Meet. -/
namespace Go.Proofs.YtciohfeifihobaaDoor
open Go.RowKit Go.Proofs.Cats Go.Shelf

/-- What Meet tells of two. -/
def twoM (a b : Lab) : Lab := if a.right && b.right then a.meet b else Lab.zero
theorem twoM_eq (a b : Lab) (ha : a.fits) (_hb : b.fits) : toldM Lab.top [a, b] = twoM a b := by
  unfold toldM twoM
  cases h : a.right
  · simp [h]
  · cases k : b.right
    · simp [h, k]
    · simp only [List.all_cons, List.all_nil, h, k, Bool.and_true, if_true]
      show (Lab.top.meet a).meet b = a.meet b
      rw [Lab.top_meet a ha h]
end Go.Proofs.YtciohfeifihobaaDoor

/- The contract of label.Least. -/
namespace Go.Proofs.YtciohfeifihobaaDoor
open Go.RowKit Go.Proofs.Cats Go.Shelf

set_option maxRecDepth 100000 in
set_option maxHeartbeats 1000000 in
theorem least_any (a : Option Addr) (len cap : Nat) (zs : List Lab) (hreach : zs.length * 24 ≤ 140737488351232) (w : World) (hI : Labs w.heap.size w (.slice a len cap) zs) (hg : ErrT w) :
    Calls Tryd.prog 25 #[.slice a len cap] w fun e w' =>
      e = .returned (.tuple #[.agg #[.int .i64 (toldJ Lab.bot zs).l, .int .u64 (toldJ Lab.bot zs).c, .int .i64 (toldJ Lab.bot zs).i], .int .i64 (toldE zs)]) ∧ Below w.heap.size w w' := by
  obtain ⟨T, hT⟩ : ∃ T, toldJ Lab.bot zs = T := ⟨_, rfl⟩
  obtain ⟨E, hE⟩ : ∃ E, toldE zs = E := ⟨_, rfl⟩
  rw [hT, hE]
  have HT := Lib.hid hT
  have HE := Lib.hid hE
  have hB : Below w.heap.size w (w.alloc (.cells #[.int .i64 0, .int .u64 0, .int .i64 0] 24)) := Below.new _ _
  have hR : Room3 w.heap.size (w.alloc (.cells #[.int .i64 0, .int .u64 0, .int .i64 0] 24)) := ⟨_, _, _, World.cell?_alloc_at _ _ _ _ rfl, World.cell?_alloc_at _ _ _ _ rfl, World.cell?_alloc_at _ _ _ _ rfl, by go_simp, by go_simp, by go_simp⟩
  have HI := Lib.hid hI
  clear hT hE hI
  have hg1 := hg.more hB
  go_enter Tryd.func25, Tryd.ntmps25
  go_wp2_with fail
  refine (joins_any _).mono ?_
  rintro e w1 ⟨he, hb⟩
  subst he
  replace hR := hR.below hb
  replace hB := below_more hB hb
  replace hg1 := hg1.more hb
  clear hb
  go_wp2_with fail
  refine (toldJ_start a len cap zs hreach w1 ((HI.out.below hB).mono hB.size) hg1).mono ?_
  rintro e w2 ⟨he, hb⟩
  rw [HT.out, HE.out] at he
  subst he
  replace hR := hR.below hb
  replace hB := below_more hB hb
  clear hb hg1 hg
  obtain ⟨v0, v1, v2, r0, r1, r2, f0, f1, f2⟩ := hR
  have HC := Lib.hid (And.intro (setO (x := .int .i64 T.i) (b := ⟨w.heap.size, 2, none⟩) (setO (x := .int .u64 T.c) (b := ⟨w.heap.size, 1, none⟩) (setS (.int .i64 T.l) r0) (ne_off (by omega))) (ne_off (by omega))) (And.intro (setO (x := .int .i64 T.i) (b := ⟨w.heap.size, 2, none⟩) (setS (.int .u64 T.c) (setO (x := .int .i64 T.l) (b := ⟨w.heap.size, 0, none⟩) r1 (ne_off (by omega)))) (ne_off (by omega))) (setS (.int .i64 T.i) (setO (x := .int .u64 T.c) (b := ⟨w.heap.size, 1, none⟩) (setO (x := .int .i64 T.l) (b := ⟨w.heap.size, 0, none⟩) r2 (ne_off (by omega))) (ne_off (by omega))))))
  have HB := Lib.hid (((hB.setCell (p := ⟨w.heap.size, 0, none⟩) (by simp) (.int .i64 T.l)).setCell (p := ⟨w.heap.size, 1, none⟩) (by simp) (.int .u64 T.c)).setCell (p := ⟨w.heap.size, 2, none⟩) (by simp) (.int .i64 T.i))
  go_wp2
  obtain ⟨c0, c1, c2⟩ := HC.out
  refine bodyPost_ret (v := .tuple #[.agg #[.int .i64 T.l, .int .u64 T.c, .int .i64 T.i], .int .i64 E]) ?_ rfl ⟨rfl, HB.out⟩
  clear HC HB
  generalize ((w2.setCell ⟨w.heap.size, 0, none⟩ (.int .i64 T.l)).setCell ⟨w.heap.size, 1, none⟩ (.int .u64 T.c)).setCell ⟨w.heap.size, 2, none⟩ (.int .i64 T.i) = WF at c0 c1 c2 ⊢
  simp [results, Tryd.results25, go_sem, c0, c1, c2]

end Go.Proofs.YtciohfeifihobaaDoor

/- Plain facts on joins and meets of labels. -/
namespace Go.Proofs.YtciohfeifihobaaDoor
open Go.Proofs.Cats

theorem right2_of (a b : Lab) : (a.right && b.right) = true ↔ a.right = true ∧ b.right = true := by simp
theorem twoE_yes {a b : Lab} (h : (a.right && b.right) = true) : twoE a b = 0 := by unfold twoE; rw [h]; rfl
theorem twoE_no {a b : Lab} (h : (a.right && b.right) = false) : twoE a b = 20 := by unfold twoE; rw [h]; rfl
theorem twoJ_yes {a b : Lab} (h : (a.right && b.right) = true) : twoJ a b = a.join b := by unfold twoJ; rw [h]; rfl
theorem twoJ_no {a b : Lab} (h : (a.right && b.right) = false) : twoJ a b = Lab.zero := by unfold twoJ; rw [h]; rfl
theorem twoM_yes {a b : Lab} (h : (a.right && b.right) = true) : twoM a b = a.meet b := by unfold twoM; rw [h]; rfl
theorem twoM_no {a b : Lab} (h : (a.right && b.right) = false) : twoM a b = Lab.zero := by unfold twoM; rw [h]; rfl
theorem under_not {a b : Lab} (h : (a.right && b.right) = false) : a.under b = false := by unfold Lab.under; rw [h]; rfl
theorem under_both {a b : Lab} (h : (a.right && b.right) = true) : a.under b = a.leq b := by unfold Lab.under; rw [h]; rfl
theorem fits_zero : Lab.zero.fits := by unfold Lab.fits Lab.zero U64; decide
theorem fits_twoJ {a b : Lab} (ha : a.fits) (hb : b.fits) : (twoJ a b).fits := by
  unfold twoJ; split
  · exact ha.join hb
  · exact fits_zero
theorem fits_twoM {a b : Lab} (ha : a.fits) (hb : b.fits) : (twoM a b).fits := by
  unfold twoM; split
  · exact ha.meet hb
  · exact fits_zero
theorem or_eq_iff (a b : Nat) : a ||| b = b ↔ SubN a b :=
  ⟨fun h => h ▸ SubN.or_left a b, fun h => (SubN.or h (SubN.refl b)).antisymm (SubN.or_right a b)⟩
theorem and_eq_iff (a b : Nat) : a &&& b = a ↔ SubN a b :=
  ⟨fun h => h ▸ SubN.and_right a b, fun h => (SubN.and_left a b).antisymm (SubN.and (SubN.refl a) h)⟩
theorem join_same (a b : Lab) (ha : a.fits) (hb : b.fits) : (a.join b).same b = a.leq b := by
  rw [Bool.eq_iff_iff, Lab.same_iff, Lab.leq_iff a b ha hb, ← or_eq_iff]
  constructor
  · intro h
    have h1 := congrArg Lab.l h
    have h2 := congrArg Lab.c h
    have h3 := congrArg Lab.i h
    simp only [Lab.join] at h1 h2 h3
    exact ⟨by omega, h2, by omega⟩
  · rintro ⟨h1, h2, h3⟩
    exact Lab.ext (by simp only [Lab.join]; omega) h2 (by simp only [Lab.join]; omega)
theorem meet_same (a b : Lab) (ha : a.fits) (hb : b.fits) : (a.meet b).same a = a.leq b := by
  rw [Bool.eq_iff_iff, Lab.same_iff, Lab.leq_iff a b ha hb, ← and_eq_iff]
  constructor
  · intro h
    have h1 := congrArg Lab.l h
    have h2 := congrArg Lab.c h
    have h3 := congrArg Lab.i h
    simp only [Lab.meet] at h1 h2 h3
    exact ⟨by omega, h2, by omega⟩
  · rintro ⟨h1, h2, h3⟩
    exact Lab.ext (by simp only [Lab.meet]; omega) h2 (by simp only [Lab.meet]; omega)
theorem under_iff' {a b : Lab} (ha : a.fits) (hb : b.fits) : a.under b = true ↔ a.right = true ∧ b.right = true ∧ a.l ≤ b.l ∧ SubN a.c b.c ∧ b.i ≤ a.i := Lab.under_iff a b ha hb
theorem under_refl (a : Lab) (ha : a.fits) : a.under a = a.right := by
  rw [Bool.eq_iff_iff, under_iff' ha ha]
  exact ⟨fun h => h.1, fun h => ⟨h, h, Int.le_refl _, SubN.refl _, Int.le_refl _⟩⟩
theorem under_antisymm {a b : Lab} (ha : a.fits) (hb : b.fits) (h : a.under b = true) (k : b.under a = true) : a = b := by
  rw [under_iff' ha hb] at h
  rw [under_iff' hb ha] at k
  exact Lab.ext (by omega) (h.2.2.2.1.antisymm k.2.2.2.1) (by omega)
theorem under_trans {a b c : Lab} (ha : a.fits) (hb : b.fits) (hc : c.fits) (h : a.under b = true) (k : b.under c = true) : a.under c = true := by
  rw [under_iff' ha hb] at h
  rw [under_iff' hb hc] at k
  rw [under_iff' ha hc]
  exact ⟨h.1, k.2.1, by omega, h.2.2.2.1.trans k.2.2.2.1, by omega⟩
theorem bot_under {a : Lab} (ha : a.fits) (h : a.right = true) : Lab.bot.under a = true := by
  rw [under_iff' Lab.fits_bot ha]
  have h' := (Lab.right_iff a).1 h
  exact ⟨Lab.bot_right, h, by simp only [Lab.bot]; omega, SubN.zero _, by simp only [Lab.bot]; omega⟩
theorem top_over {a : Lab} (ha : a.fits) (h : a.right = true) : a.under Lab.top = true := by
  rw [under_iff' ha Lab.fits_top]
  have h' := (Lab.right_iff a).1 h
  exact ⟨h, Lab.top_right, by simp only [Lab.top]; omega, SubN.all _ ha, by simp only [Lab.top]; omega⟩
theorem under_joinL {a b : Lab} (ha : a.fits) (hb : b.fits) (h : a.right = true) (k : b.right = true) : a.under (a.join b) = true := by
  rw [under_iff' ha (ha.join hb)]
  exact ⟨h, Lab.right_join h k, by simp only [Lab.join]; omega, SubN.or_left _ _, by simp only [Lab.join]; omega⟩
theorem under_joinR {a b : Lab} (ha : a.fits) (hb : b.fits) (h : a.right = true) (k : b.right = true) : b.under (a.join b) = true := by
  rw [under_iff' hb (ha.join hb)]
  exact ⟨k, Lab.right_join h k, by simp only [Lab.join]; omega, SubN.or_right _ _, by simp only [Lab.join]; omega⟩
theorem join_under {a b c : Lab} (ha : a.fits) (hb : b.fits) (hc : c.fits) (h : a.under c = true) (k : b.under c = true) : (a.join b).under c = true := by
  rw [under_iff' ha hc] at h
  rw [under_iff' hb hc] at k
  rw [under_iff' (ha.join hb) hc]
  exact ⟨Lab.right_join h.1 k.1, h.2.1, by simp only [Lab.join]; omega, SubN.or h.2.2.2.1 k.2.2.2.1, by simp only [Lab.join]; omega⟩
theorem meet_underL {a b : Lab} (ha : a.fits) (hb : b.fits) (h : a.right = true) (k : b.right = true) : (a.meet b).under a = true := by
  rw [under_iff' (ha.meet hb) ha]
  exact ⟨Lab.right_meet h k, h, by simp only [Lab.meet]; omega, SubN.and_left _ _, by simp only [Lab.meet]; omega⟩
theorem meet_underR {a b : Lab} (ha : a.fits) (hb : b.fits) (h : a.right = true) (k : b.right = true) : (a.meet b).under b = true := by
  rw [under_iff' (ha.meet hb) hb]
  exact ⟨Lab.right_meet h k, k, by simp only [Lab.meet]; omega, SubN.and_right _ _, by simp only [Lab.meet]; omega⟩
theorem under_meet {a b c : Lab} (ha : a.fits) (hb : b.fits) (hc : c.fits) (h : c.under a = true) (k : c.under b = true) : c.under (a.meet b) = true := by
  rw [under_iff' hc ha] at h
  rw [under_iff' hc hb] at k
  rw [under_iff' hc (ha.meet hb)]
  exact ⟨h.1, Lab.right_meet h.2.1 k.2.1, by simp only [Lab.meet]; omega, SubN.and h.2.2.2.1 k.2.2.2.1, by simp only [Lab.meet]; omega⟩
theorem join_comm (a b : Lab) : a.join b = b.join a := Lab.ext (by simp only [Lab.join]; omega) (Nat.or_comm _ _) (by simp only [Lab.join]; omega)
theorem meet_comm (a b : Lab) : a.meet b = b.meet a := Lab.ext (by simp only [Lab.meet]; omega) (Nat.and_comm _ _) (by simp only [Lab.meet]; omega)
theorem join_assoc (a b c : Lab) : (a.join b).join c = a.join (b.join c) := Lab.ext (by simp only [Lab.join]; omega) (Nat.or_assoc _ _ _) (by simp only [Lab.join]; omega)
theorem join_meet (a b : Lab) : a.join (a.meet b) = a := by
  refine Lab.ext (by simp only [Lab.join, Lab.meet]; omega) ?_ (by simp only [Lab.join, Lab.meet]; omega)
  show a.c ||| (a.c &&& b.c) = a.c
  rw [Nat.or_comm]
  exact (or_eq_iff _ _).2 (SubN.and_left _ _)
theorem same_self (a : Lab) : a.same a = true := (Lab.same_iff a a).2 rfl

end Go.Proofs.YtciohfeifihobaaDoor

/- Label variables in memory, any number of them. -/
namespace Go.Proofs.YtciohfeifihobaaDoor
open Go.RowKit Go.Proofs.Cats Go.Shelf

/-- In W the listed blocks hold the listed labels; what lay in w lies as it lay; error's type is there. -/
def LabsAt (w : World) (L : List (Nat × Lab)) (W : World) : Prop := (∀ p ∈ L, LabAt W p.1 0 p.2) ∧ Below w.heap.size w W ∧ ErrT W
theorem LabsAt.later {w W W1 : World} {L : List (Nat × Lab)} (h : LabsAt w L W) (hb : Below W.heap.size W W1) : LabsAt w L W1 :=
  ⟨fun p hp => ⟨cell_later hb (h.1 p hp).1, cell_later hb (h.1 p hp).2.1, cell_later hb (h.1 p hp).2.2⟩, below_more h.2.1 hb, h.2.2.more hb⟩
theorem LabsAt.drew {w W : World} {L : List (Nat × Lab)} (h : LabsAt w L W) : LabsAt w L W.drew := ⟨h.1, h.2.1.drew, h.2.2⟩
theorem LabsAt.below {w W : World} {L : List (Nat × Lab)} (h : LabsAt w L W) : Below w.heap.size w W := h.2.1
theorem LabsAt.err {w W : World} {L : List (Nat × Lab)} (h : LabsAt w L W) : ErrT W := h.2.2
theorem labsAt_nil {w W : World} (hB : Below w.heap.size w W) (hg : ErrT W) : LabsAt w [] W := ⟨(fun _ h => by cases h), hB, hg⟩
theorem labsAt_cons {w W : World} {L : List (Nat × Lab)} {b : Nat} {x : Lab} (h0 : W.cell? ⟨b, 0, none⟩ = some (.int .i64 x.l)) (h1 : W.cell? ⟨b, 1, none⟩ = some (.int .u64 x.c)) (h2 : W.cell? ⟨b, 2, none⟩ = some (.int .i64 x.i)) (h : LabsAt w L W) : LabsAt w ((b, x) :: L) W :=
  ⟨fun p hp => by
    rcases List.mem_cons.1 hp with rfl | hp
    · exact ⟨h0, h1, h2⟩
    · exact h.1 p hp, h.2⟩
theorem labsAt_head {w W : World} {L : List (Nat × Lab)} {b : Nat} {x : Lab} (h : LabsAt w ((b, x) :: L) W) :
    W.cell? ⟨b, 0, none⟩ = some (.int .i64 x.l) ∧ W.cell? ⟨b, 1, none⟩ = some (.int .u64 x.c) ∧ W.cell? ⟨b, 2, none⟩ = some (.int .i64 x.i) ∧ LabsAt w L W :=
  ⟨(h.1 _ (List.mem_cons_self ..)).1, (h.1 _ (List.mem_cons_self ..)).2.1, (h.1 _ (List.mem_cons_self ..)).2.2, fun p hp => h.1 p (List.mem_cons_of_mem _ hp), h.2⟩

end Go.Proofs.YtciohfeifihobaaDoor

/- The contracts of the document's own Has, Without, Less, Sub, for what needs no more of categories. -/
namespace Go.Proofs.YtciohfeifihobaaDoor
open Go.RowKit Go.Proofs.Cats

/-- Is i in s? -/
def hasB (s : Nat) (i : Int) : Bool := okC i && s.testBit i.toNat
theorem hasB_ok (s k : Nat) (hk : k < 64) : hasB s (k : Int) = s.testBit k := by
  have h : okC (k : Int) = true := (okC_iff _).2 (by omega)
  simp [hasB, h]
theorem hasB_no (s : Nat) (i : Int) (h : okC i = false) : hasB s i = false := by simp [hasB, h]
theorem pow_u64 (k : Nat) (hk : k < 64) : U64 (2 ^ k) := Nat.pow_lt_pow_right (m := k) (n := 64) (by omega) hk
theorem testBit_without (s k i : Nat) (hs : U64 s) (hk : k < 64) : (lessN s (2 ^ k)).testBit i = (s.testBit i && !decide (k = i)) := by
  rw [lessN_testBit s _ i hs (pow_u64 k hk), Nat.testBit_two_pow]
def withoutV (s : Nat) (i : Int) : Nat := if okC i then lessN s (2 ^ i.toNat) else 0
def withoutE (i : Int) : Int := if okC i then 0 else 10
theorem withoutV_one (s k : Nat) (hk : k < 64) : withoutV s (k : Int) = lessN s (2 ^ k) := by
  have h : okC (k : Int) = true := (okC_iff _).2 (by omega)
  simp [withoutV, h]

theorem testBit_rem (s k : Nat) : (((s : Int) / 2 ^ k).tmod 2 == 1) = s.testBit k := by
  have e1 : ((s : Int) / 2 ^ k) = ((s / 2 ^ k : Nat) : Int) := by simp
  rw [e1, Nat.testBit_eq_decide_div_mod_eq, Bool.eq_iff_iff, beq_iff_eq, decide_eq_true_iff]
  generalize s / 2 ^ k = q
  rw [Int.tmod_eq_emod_of_nonneg (by omega)]
  omega

set_option maxHeartbeats 400000 in
theorem refHas_any (s : Nat) (i : Int) (w : World) :
    Calls Tryd.prog 49 #[.int .u64 s, .int .i64 i] w fun e W' => e = .returned (.bool (hasB s i)) ∧ w = W' := by
  by_cases h0 : i < 0
  · have ev : hasB s i = false := hasB_no s i (by simp [okC, Int.not_le.2 h0])
    have h0' : ¬ 0 ≤ i := by omega
    rw [ev]
    clear ev
    go_enter Tryd.func49, Tryd.ntmps49
    go_wp2
    go_ret
    exact ⟨rfl, rfl⟩
  · by_cases h1 : 64 ≤ i
    · have ev : hasB s i = false := hasB_no s i (by simp [okC, Int.not_lt.2 h1])
      have h0' : 0 ≤ i := by omega
      have h1' : ¬ i < 64 := by omega
      rw [ev]
      clear ev
      go_enter Tryd.func49, Tryd.ntmps49
      go_wp2
      go_ret
      exact ⟨rfl, rfl⟩
    · obtain ⟨k, rfl⟩ := Int.eq_ofNat_of_zero_le (Int.not_lt.1 h0)
      have hk : k < 64 := by omega
      rw [hasB_ok s k hk, ← testBit_rem]
      clear h0 h1
      go_enter Tryd.func49, Tryd.ntmps49
      go_wp2
      go_ret
      exact ⟨rfl, rfl⟩


theorem wrap_pow (k : Nat) (hk : k < 64) : IntKind.u64.wrap ((2 : Int) ^ k) = ((2 ^ k : Nat) : Int) := by
  have hp := pow_u64 k hk
  unfold U64 at hp
  have e1 : ((2 : Int) ^ k) = ((2 ^ k : Nat) : Int) := by simp
  rw [IntKind.wrap_u64, e1]
  generalize 2 ^ k = q at *
  omega
theorem less_pow_not (s k : Nat) (hs : U64 s) (hk : k < 64) (h : s.testBit k = false) : lessN s (2 ^ k) = s := by
  apply Nat.eq_of_testBit_eq
  intro i
  rw [testBit_without s k i hs hk]
  by_cases e : k = i
  · subst e; simp [h]
  · simp [e]
theorem less_pow_has (s k : Nat) (hs : U64 s) (hk : k < 64) (h : s.testBit k = true) : lessN s (2 ^ k) + 2 ^ k = s := by
  have h1 := less_add s (2 ^ k) hs (pow_u64 k hk)
  have h2 : lessN s (lessN s (2 ^ k)) = 2 ^ k := by
    apply Nat.eq_of_testBit_eq
    intro i
    rw [less_less s _ hs (pow_u64 k hk), Nat.testBit_two_pow]
    by_cases e : k = i
    · subst e; simp [h]
    · simp [e]
  rw [h2] at h1
  exact h1
theorem sub_pow_int (s k : Nat) (hs : U64 s) (hk : k < 64) (h : s.testBit k = true) : IntKind.u64.wrap ((s : Int) - IntKind.u64.wrap (2 ^ k)) = ((lessN s (2 ^ k) : Nat) : Int) := by
  have h1 := less_pow_has s k hs hk h
  unfold U64 at hs
  rw [wrap_pow k hk, IntKind.wrap_u64]
  generalize lessN s (2 ^ k) = L at *
  generalize 2 ^ k = q at *
  omega

set_option maxHeartbeats 400000 in
theorem refWithout_any (s : Nat) (hs : U64 s) (i : Int) (w : World) :
    Calls Tryd.prog 50 #[.int .u64 s, .int .i64 i] w fun e W' => e = .returned (.tuple #[.int .u64 (withoutV s i : Nat), .int .i64 (withoutE i)]) ∧ w = W' := by
  by_cases h0 : i < 0
  · have hi : okC i = false := by simp [okC, Int.not_le.2 h0]
    rw [show withoutV s i = 0 by simp [withoutV, hi], show withoutE i = 10 by simp [withoutE, hi]]
    clear hi
    go_enter Tryd.func50, Tryd.ntmps50
    go_wp2
    go_ret2
    exact ⟨rfl, rfl⟩
  · by_cases h1 : 64 ≤ i
    · have hi : okC i = false := by simp [okC, Int.not_lt.2 h1]
      rw [show withoutV s i = 0 by simp [withoutV, hi], show withoutE i = 10 by simp [withoutE, hi]]
      clear hi
      go_enter Tryd.func50, Tryd.ntmps50
      go_wp2
      go_ret2
      exact ⟨rfl, rfl⟩
    · obtain ⟨k, rfl⟩ := Int.eq_ofNat_of_zero_le (Int.not_lt.1 h0)
      have hk : k < 64 := by omega
      rw [withoutV_one s k hk, show withoutE (k : Int) = 0 by simp [withoutE, (okC_iff (k : Int)).2 (by omega)]]
      have e2 := Lib.hid (hasB_ok s k hk)
      cases ht : s.testBit k
      · rw [less_pow_not s k hs hk ht]
        have HT := Lib.hid ht
        clear ht
        go_enter Tryd.func50, Tryd.ntmps50
        go_wp2_with fail
        refine (refHas_any s k w).mono ?_
        rintro e w1 ⟨he, rfl⟩
        rw [e2.out, HT.out] at he
        subst he
        go_wp2
        go_ret2
        exact ⟨rfl, rfl⟩
      · rw [← sub_pow_int s k hs hk ht]
        have HT := Lib.hid ht
        clear ht
        go_enter Tryd.func50, Tryd.ntmps50
        go_wp2_with fail
        refine (refHas_any s k w).mono ?_
        rintro e w1 ⟨he, rfl⟩
        rw [e2.out, HT.out] at he
        subst he
        go_wp2
        go_ret2
        exact ⟨rfl, rfl⟩

/-- Of the first j bits. -/
theorem less_mod_succ (a b j : Nat) (ha : U64 a) (hb : U64 b) (hj : j < 64) :
    lessN a (b % 2 ^ (j + 1)) = if b.testBit j then lessN (lessN a (b % 2 ^ j)) (2 ^ j) else lessN a (b % 2 ^ j) := by
  have hm : ∀ n, U64 (b % 2 ^ n) := fun n => Nat.lt_of_le_of_lt (Nat.mod_le _ _) hb
  apply Nat.eq_of_testBit_eq
  intro i
  cases ht : b.testBit j
  · rw [if_neg (by simp), lessN_testBit a _ i ha (hm _), lessN_testBit a _ i ha (hm _), Nat.testBit_mod_two_pow, Nat.testBit_mod_two_pow]
    by_cases e : i = j
    · subst e; simp [ht]
    · have : decide (i < j + 1) = decide (i < j) := by simp; omega
      rw [this]
  · rw [if_pos rfl, testBit_without _ j i (ha.less _) hj, lessN_testBit a _ i ha (hm _), lessN_testBit a _ i ha (hm _), Nat.testBit_mod_two_pow, Nat.testBit_mod_two_pow]
    by_cases e : i = j
    · subst e; simp [ht]
    · have : decide (i < j + 1) = decide (i < j) := by simp; omega
      have e' : ¬ j = i := fun h => e h.symm
      rw [this]
      simp [e']

theorem mod64 (b : Nat) (hb : U64 b) : b % 2 ^ 64 = b := Nat.mod_eq_of_lt hb

set_option maxHeartbeats 1000000 in
theorem refLess_any (a b : Nat) (ha : U64 a) (hb : U64 b) (w : World) :
    Calls Tryd.prog 36 #[.int .u64 a, .int .u64 b] w fun e W' => e = .returned (.int .u64 (lessN a b : Nat)) ∧ w = W' := by
  go_enter Tryd.func36, Tryd.ntmps36
  go_wp2
  go_loop [0, 5] (fun x i => ∃ j : Nat, j ≤ 64 ∧ i = .int .i64 j ∧ x = .int .u64 (lessN a (b % 2 ^ j) : Nat)) (fun _ i => 64 - (intOf i).toNat)
  case atStart =>
    refine ⟨0, by omega, rfl, ?_⟩
    have : lessN a (b % 2 ^ 0) = a := by
      apply Nat.eq_of_testBit_eq
      intro i
      rw [lessN_testBit a _ i ha (by unfold U64; omega)]
      simp [Nat.mod_one]
    rw [this]
  case round =>
    obtain ⟨j, hj, rfl, rfl⟩ := hrel
    by_cases hlt : j < 64
    · have e2 := Lib.hid (hasB_ok b j hlt)
      have hs := Lib.hid (less_mod_succ a b j ha hb hlt)
      have hx : U64 (lessN a (b % 2 ^ j)) := ha.less _
      have e3 := Lib.hid (withoutV_one (lessN a (b % 2 ^ j)) j hlt)
      generalize lessN a (b % 2 ^ j) = X at *
      cases ht : b.testBit j
      · have HT := Lib.hid ht
        clear ht
        go_wp2_with (go_at_call 49; refine (refHas_any b j _).mono ?_; rintro e w' ⟨he, rfl⟩; rw [e2.out, HT.out] at he; subst he)
        go_round
        case rel => exact ⟨j + 1, by omega, by go_num, by rw [hs.out, HT.out]; rfl⟩
        case measure => simp [intOf]; omega
      · have HT := Lib.hid ht
        clear ht
        go_wp2_with (first | (go_at_call 49; refine (refHas_any b j _).mono ?_; rintro e w' ⟨he, rfl⟩; rw [e2.out, HT.out] at he; subst he) | (go_at_call 50; refine (refWithout_any X hx j _).mono ?_; rintro e w' ⟨he, rfl⟩; rw [e3.out] at he; subst he))
        go_round
        case rel => exact ⟨j + 1, by omega, by go_num, by rw [hs.out, HT.out]; rfl⟩
        case measure => simp [intOf]; omega
    · obtain rfl : j = 64 := by omega
      have hm := Lib.hid (mod64 b hb)
      go_wp2
      go_ret
      refine ⟨?_, rfl⟩
      conv => rhs; rw [← hm.out]
      rfl

/-- None of the first j bits of a is missing in b. -/
def NoneLeft (a b j : Nat) : Prop := ∀ i, i < j → a.testBit i = true → b.testBit i = true

theorem less_zero_of (a b : Nat) (ha : U64 a) (hb : U64 b) (h : NoneLeft a b 64) : (lessN a b == 0) = true := by
  rw [beq_iff_eq]
  refine less_eq_zero a b ha hb fun i hi => ?_
  by_cases hl : i < 64
  · exact h i hl hi
  · have : a.testBit i = false := Nat.testBit_lt_two_pow (Nat.lt_of_lt_of_le (show a < 2 ^ 64 from ha) (Nat.pow_le_pow_right (by omega) (by omega)))
    rw [this] at hi
    cases hi
theorem less_not_zero (a b i : Nat) (ha : U64 a) (hb : U64 b) (h1 : a.testBit i = true) (h2 : b.testBit i = false) : (lessN a b == 0) = false := by
  rw [beq_eq_false_iff_ne]
  intro h
  have := lessN_testBit a b i ha hb
  rw [h, h1, h2] at this
  simp at this

set_option maxHeartbeats 1000000 in
theorem refSub_any (a b : Nat) (ha : U64 a) (hb : U64 b) (w : World) :
    Calls Tryd.prog 47 #[.int .u64 a, .int .u64 b] w fun e W' => e = .returned (.bool (lessN a b == 0)) ∧ w = W' := by
  go_enter Tryd.func47, Tryd.ntmps47
  go_wp2
  go_loop [5] (fun i => ∃ j : Nat, j ≤ 64 ∧ i = .int .i64 j ∧ NoneLeft a b j) (fun i => 64 - (intOf i).toNat)
  case atStart => exact ⟨0, by omega, rfl, fun i h => by omega⟩
  case round =>
    obtain ⟨j, hj, rfl, hn⟩ := hrel
    by_cases hlt : j < 64
    · have e1 := Lib.hid (hasB_ok a j hlt)
      have e2 := Lib.hid (hasB_ok b j hlt)
      have HN := Lib.hid hn
      clear hn
      cases h1 : a.testBit j
      · have H1 := Lib.hid h1
        clear h1
        go_wp2_with (go_at_call 49; refine (refHas_any a j _).mono ?_; rintro e w' ⟨he, rfl⟩; rw [e1.out, H1.out] at he; subst he)
        go_round
        case rel => exact ⟨j + 1, by omega, by go_num, fun i hi h => by
          by_cases e : i = j
          · subst e; rw [H1.out] at h; cases h
          · exact HN.out i (by omega) h⟩
        case measure => simp [intOf]; omega
      · have H1 := Lib.hid h1
        clear h1
        cases h2 : b.testBit j
        · have H2 := Lib.hid h2
          clear h2
          go_wp2_with fail
          refine (refHas_any a j _).mono ?_
          rintro e w' ⟨he, rfl⟩
          rw [e1.out, H1.out] at he
          subst he
          go_wp2_with fail
          refine (refHas_any b j _).mono ?_
          rintro e w' ⟨he, rfl⟩
          rw [e2.out, H2.out] at he
          subst he
          go_wp2
          go_ret
          exact ⟨by rw [less_not_zero a b j ha hb H1.out H2.out]; rfl, rfl⟩
        · have H2 := Lib.hid h2
          clear h2
          go_wp2_with fail
          refine (refHas_any a j _).mono ?_
          rintro e w' ⟨he, rfl⟩
          rw [e1.out, H1.out] at he
          subst he
          go_wp2_with fail
          refine (refHas_any b j _).mono ?_
          rintro e w' ⟨he, rfl⟩
          rw [e2.out, H2.out] at he
          subst he
          go_wp2
          go_round
          case rel => exact ⟨j + 1, by omega, by go_num, fun i hi h => by
            by_cases e : i = j
            · subst e; exact H2.out
            · exact HN.out i (by omega) h⟩
          case measure => simp [intOf]; omega
    · obtain rfl : j = 64 := by omega
      have HN := Lib.hid (less_zero_of a b ha hb hn)
      clear hn
      go_wp2
      go_ret
      exact ⟨by rw [HN.out]; rfl, rfl⟩

end Go.Proofs.YtciohfeifihobaaDoor

/- What the statements' head shows of label; how labels lie in memory when a law begins. -/
namespace Go.Proofs.YtciohfeifihobaaDoor
open Go.RowKit Go.Proofs.Cats Go.Shelf

theorem one_at (w : World) (x : Lab) (hg : ErrT w) : Below w.heap.size w (w.alloc (.cells #[.int .i64 x.l, .int .u64 x.c, .int .i64 x.i] 24)) ∧ ErrT (w.alloc (.cells #[.int .i64 x.l, .int .u64 x.c, .int .i64 x.i] 24)) ∧ (w.alloc (.cells #[.int .i64 x.l, .int .u64 x.c, .int .i64 x.i] 24)).cell? ⟨w.heap.size, 0, none⟩ = some (.int .i64 x.l) ∧ (w.alloc (.cells #[.int .i64 x.l, .int .u64 x.c, .int .i64 x.i] 24)).cell? ⟨w.heap.size, 1, none⟩ = some (.int .u64 x.c) ∧ (w.alloc (.cells #[.int .i64 x.l, .int .u64 x.c, .int .i64 x.i] 24)).cell? ⟨w.heap.size, 2, none⟩ = some (.int .i64 x.i) := by
  have hB : Below w.heap.size w (w.alloc (.cells #[.int .i64 x.l, .int .u64 x.c, .int .i64 x.i] 24)) := ((Below.refl _ w).alloc (Nat.le_refl _) _)
  refine ⟨hB, hg.more hB, ?_, ?_, ?_⟩ <;> go_simp
theorem two_at (w : World) (x y : Lab) (hg : ErrT w) : Below w.heap.size w ((w.alloc (.cells #[.int .i64 x.l, .int .u64 x.c, .int .i64 x.i] 24)).alloc (.cells #[.int .i64 y.l, .int .u64 y.c, .int .i64 y.i] 24)) ∧ ErrT ((w.alloc (.cells #[.int .i64 x.l, .int .u64 x.c, .int .i64 x.i] 24)).alloc (.cells #[.int .i64 y.l, .int .u64 y.c, .int .i64 y.i] 24)) ∧ ((w.alloc (.cells #[.int .i64 x.l, .int .u64 x.c, .int .i64 x.i] 24)).alloc (.cells #[.int .i64 y.l, .int .u64 y.c, .int .i64 y.i] 24)).cell? ⟨w.heap.size, 0, none⟩ = some (.int .i64 x.l) ∧ ((w.alloc (.cells #[.int .i64 x.l, .int .u64 x.c, .int .i64 x.i] 24)).alloc (.cells #[.int .i64 y.l, .int .u64 y.c, .int .i64 y.i] 24)).cell? ⟨w.heap.size, 1, none⟩ = some (.int .u64 x.c) ∧ ((w.alloc (.cells #[.int .i64 x.l, .int .u64 x.c, .int .i64 x.i] 24)).alloc (.cells #[.int .i64 y.l, .int .u64 y.c, .int .i64 y.i] 24)).cell? ⟨w.heap.size, 2, none⟩ = some (.int .i64 x.i) ∧ ((w.alloc (.cells #[.int .i64 x.l, .int .u64 x.c, .int .i64 x.i] 24)).alloc (.cells #[.int .i64 y.l, .int .u64 y.c, .int .i64 y.i] 24)).cell? ⟨w.heap.size + 1, 0, none⟩ = some (.int .i64 y.l) ∧ ((w.alloc (.cells #[.int .i64 x.l, .int .u64 x.c, .int .i64 x.i] 24)).alloc (.cells #[.int .i64 y.l, .int .u64 y.c, .int .i64 y.i] 24)).cell? ⟨w.heap.size + 1, 1, none⟩ = some (.int .u64 y.c) ∧ ((w.alloc (.cells #[.int .i64 x.l, .int .u64 x.c, .int .i64 x.i] 24)).alloc (.cells #[.int .i64 y.l, .int .u64 y.c, .int .i64 y.i] 24)).cell? ⟨w.heap.size + 1, 2, none⟩ = some (.int .i64 y.i) := by
  have hB : Below w.heap.size w ((w.alloc (.cells #[.int .i64 x.l, .int .u64 x.c, .int .i64 x.i] 24)).alloc (.cells #[.int .i64 y.l, .int .u64 y.c, .int .i64 y.i] 24)) := (((Below.refl _ w).alloc (Nat.le_refl _) _).alloc (by simp) _)
  refine ⟨hB, hg.more hB, ?_, ?_, ?_, ?_, ?_, ?_⟩ <;> go_simp
theorem three_at (w : World) (x y z : Lab) (hg : ErrT w) : Below w.heap.size w (((w.alloc (.cells #[.int .i64 x.l, .int .u64 x.c, .int .i64 x.i] 24)).alloc (.cells #[.int .i64 y.l, .int .u64 y.c, .int .i64 y.i] 24)).alloc (.cells #[.int .i64 z.l, .int .u64 z.c, .int .i64 z.i] 24)) ∧ ErrT (((w.alloc (.cells #[.int .i64 x.l, .int .u64 x.c, .int .i64 x.i] 24)).alloc (.cells #[.int .i64 y.l, .int .u64 y.c, .int .i64 y.i] 24)).alloc (.cells #[.int .i64 z.l, .int .u64 z.c, .int .i64 z.i] 24)) ∧ (((w.alloc (.cells #[.int .i64 x.l, .int .u64 x.c, .int .i64 x.i] 24)).alloc (.cells #[.int .i64 y.l, .int .u64 y.c, .int .i64 y.i] 24)).alloc (.cells #[.int .i64 z.l, .int .u64 z.c, .int .i64 z.i] 24)).cell? ⟨w.heap.size, 0, none⟩ = some (.int .i64 x.l) ∧ (((w.alloc (.cells #[.int .i64 x.l, .int .u64 x.c, .int .i64 x.i] 24)).alloc (.cells #[.int .i64 y.l, .int .u64 y.c, .int .i64 y.i] 24)).alloc (.cells #[.int .i64 z.l, .int .u64 z.c, .int .i64 z.i] 24)).cell? ⟨w.heap.size, 1, none⟩ = some (.int .u64 x.c) ∧ (((w.alloc (.cells #[.int .i64 x.l, .int .u64 x.c, .int .i64 x.i] 24)).alloc (.cells #[.int .i64 y.l, .int .u64 y.c, .int .i64 y.i] 24)).alloc (.cells #[.int .i64 z.l, .int .u64 z.c, .int .i64 z.i] 24)).cell? ⟨w.heap.size, 2, none⟩ = some (.int .i64 x.i) ∧ (((w.alloc (.cells #[.int .i64 x.l, .int .u64 x.c, .int .i64 x.i] 24)).alloc (.cells #[.int .i64 y.l, .int .u64 y.c, .int .i64 y.i] 24)).alloc (.cells #[.int .i64 z.l, .int .u64 z.c, .int .i64 z.i] 24)).cell? ⟨w.heap.size + 1, 0, none⟩ = some (.int .i64 y.l) ∧ (((w.alloc (.cells #[.int .i64 x.l, .int .u64 x.c, .int .i64 x.i] 24)).alloc (.cells #[.int .i64 y.l, .int .u64 y.c, .int .i64 y.i] 24)).alloc (.cells #[.int .i64 z.l, .int .u64 z.c, .int .i64 z.i] 24)).cell? ⟨w.heap.size + 1, 1, none⟩ = some (.int .u64 y.c) ∧ (((w.alloc (.cells #[.int .i64 x.l, .int .u64 x.c, .int .i64 x.i] 24)).alloc (.cells #[.int .i64 y.l, .int .u64 y.c, .int .i64 y.i] 24)).alloc (.cells #[.int .i64 z.l, .int .u64 z.c, .int .i64 z.i] 24)).cell? ⟨w.heap.size + 1, 2, none⟩ = some (.int .i64 y.i) ∧ (((w.alloc (.cells #[.int .i64 x.l, .int .u64 x.c, .int .i64 x.i] 24)).alloc (.cells #[.int .i64 y.l, .int .u64 y.c, .int .i64 y.i] 24)).alloc (.cells #[.int .i64 z.l, .int .u64 z.c, .int .i64 z.i] 24)).cell? ⟨w.heap.size + 1 + 1, 0, none⟩ = some (.int .i64 z.l) ∧ (((w.alloc (.cells #[.int .i64 x.l, .int .u64 x.c, .int .i64 x.i] 24)).alloc (.cells #[.int .i64 y.l, .int .u64 y.c, .int .i64 y.i] 24)).alloc (.cells #[.int .i64 z.l, .int .u64 z.c, .int .i64 z.i] 24)).cell? ⟨w.heap.size + 1 + 1, 1, none⟩ = some (.int .u64 z.c) ∧ (((w.alloc (.cells #[.int .i64 x.l, .int .u64 x.c, .int .i64 x.i] 24)).alloc (.cells #[.int .i64 y.l, .int .u64 y.c, .int .i64 y.i] 24)).alloc (.cells #[.int .i64 z.l, .int .u64 z.c, .int .i64 z.i] 24)).cell? ⟨w.heap.size + 1 + 1, 2, none⟩ = some (.int .i64 z.i) := by
  have hB : Below w.heap.size w (((w.alloc (.cells #[.int .i64 x.l, .int .u64 x.c, .int .i64 x.i] 24)).alloc (.cells #[.int .i64 y.l, .int .u64 y.c, .int .i64 y.i] 24)).alloc (.cells #[.int .i64 z.l, .int .u64 z.c, .int .i64 z.i] 24)) := ((((Below.refl _ w).alloc (Nat.le_refl _) _).alloc (by simp) _).alloc (by simp; omega) _)
  refine ⟨hB, hg.more hB, ?_, ?_, ?_, ?_, ?_, ?_, ?_, ?_, ?_⟩ <;> go_simp

theorem shownJ (w : World) (hg : ErrT w) : Calls Tryd.prog 26 #[.agg #[.int .i64 3, .int .u64 1, .int .i64 5], .agg #[.int .i64 2, .int .u64 2, .int .i64 6]] w fun e w' =>
    e = .returned (.tuple #[.agg #[.int .i64 3, .int .u64 3, .int .i64 5], .int .i64 0]) ∧ Below w.heap.size w w' := Join_any ⟨3, 1, 5⟩ ⟨2, 2, 6⟩ (by unfold Lab.fits U64; decide) (by unfold Lab.fits U64; decide) w hg
theorem shownE (w : World) (hg : ErrT w) : Calls Tryd.prog 26 #[.agg #[.int .i64 3, .int .u64 1, .int .i64 5], .agg #[.int .i64 16, .int .u64 0, .int .i64 0]] w fun e w' =>
    e = .returned (.tuple #[.agg #[.int .i64 0, .int .u64 0, .int .i64 0], .int .i64 20]) ∧ Below w.heap.size w w' := Join_any ⟨3, 1, 5⟩ ⟨16, 0, 0⟩ (by unfold Lab.fits U64; decide) (by unfold Lab.fits U64; decide) w hg
theorem shownU (w : World) : Calls Tryd.prog 24 #[.agg #[.int .i64 2, .int .u64 2, .int .i64 6], .agg #[.int .i64 3, .int .u64 3, .int .i64 5]] w fun e w' =>
    e = .returned (.bool true) ∧ Below w.heap.size w w' := by
  have := Under_any ⟨2, 2, 6⟩ ⟨3, 3, 5⟩ (by unfold Lab.fits U64; decide) (by unfold Lab.fits U64; decide) w
  rw [show Lab.under ⟨2, 2, 6⟩ ⟨3, 3, 5⟩ = true by decide +kernel] at this
  exact this
theorem shownN (w : World) : Calls Tryd.prog 24 #[.agg #[.int .i64 3, .int .u64 1, .int .i64 5], .agg #[.int .i64 2, .int .u64 2, .int .i64 6]] w fun e w' =>
    e = .returned (.bool false) ∧ Below w.heap.size w w' := by
  have := Under_any ⟨3, 1, 5⟩ ⟨2, 2, 6⟩ (by unfold Lab.fits U64; decide) (by unfold Lab.fits U64; decide) w
  rw [show Lab.under ⟨3, 1, 5⟩ ⟨2, 2, 6⟩ = false by decide +kernel] at this
  exact this

end Go.Proofs.YtciohfeifihobaaDoor
