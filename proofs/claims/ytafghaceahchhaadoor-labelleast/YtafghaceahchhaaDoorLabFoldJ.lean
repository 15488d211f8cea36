/- The fold over judged labels: joins. -/
import Derived.Test.YtafghaceahchhaaDoorLabBase
namespace Go.Proofs.YtafghaceahchhaaDoor
open Go.RowKit Go.Proofs.Cats Go.Shelf

attribute [local go_sem] Oper.semAt_some

/-- The labels of what the rounds were handed. -/
def labsOf (pre : List FLab) : List Lab := pre.map (·.1)
/-- What is made of some labels. -/
def madeJ (s : Lab) (zs : List Lab) : Lab := zs.foldl Lab.join s
theorem madeJ_snoc (s : Lab) (pre : List FLab) (x : FLab) : madeJ s (labsOf (pre ++ [x])) = (madeJ s (labsOf pre)).join x.1 := by
  simp [madeJ, labsOf, List.map_append, List.foldl_append]
theorem madeJ_fits (s : Lab) (hs : s.fits) : ∀ pre : List FLab, (madeJ s (labsOf pre)).fits
  | [] => hs
  | x :: pre => by
    show (madeJ (s.join x.1) (labsOf pre)).fits
    exact madeJ_fits _ (hs.join x.2) pre

/-- The fold's word between two rounds. -/
def OfJI (n : Nat) (s : Lab) (fv : Value) (w : World) (pre : List FLab) (W : World) : Prop :=
  ((labsOf pre).all Lab.right = true ∧ FoldB n W (madeJ s (labsOf pre)) .nilIface fv) ∧ Below n w W
/-- .. when a round has left. -/
def OfJX (n : Nat) (fv : Value) (w : World) (c : Code) (pre : List FLab) (W : World) : Prop :=
  (c = .exit 0 ∧ (labsOf pre).all Lab.right = false ∧ ∃ m x : Lab, x.right = false ∧ FoldB n W m (errL x) fv) ∧ Below n w W
/-- What the fold tells. -/
def OfJP (s : Lab) (zs : List Lab) (w : World) (e : Ending) (W' : World) : Prop :=
  ((zs.all Lab.right = true ∧ e = .returned (.tuple #[.agg #[.int .i64 (madeJ s zs).l, .int .u64 (madeJ s zs).c, .int .i64 (madeJ s zs).i], .nilIface])) ∨
   (zs.all Lab.right = false ∧ ∃ m x : Lab, x.right = false ∧ e = .returned (.tuple #[.agg #[.int .i64 m.l, .int .u64 m.c, .int .i64 m.i], errL x]))) ∧ Below w.heap.size w W'

set_option maxHeartbeats 400000 in
theorem joins_any (w : World) :
    Calls Tryd.prog 28 #[] w fun e w' => e = .returned (.agg #[.int .i64 0, .int .u64 0, .int .i64 7, .func (.func 36) #[] #[]]) ∧ Below w.heap.size w w' := by
  go_enter Tryd.func28, Tryd.ntmps28
  go_wp2_with fail
  refine (bottom_at _).mono ?_
  rintro e w1 ⟨rfl, rfl⟩
  go_wp2
  exact bodyPost_ret (v := .agg #[.int .i64 0, .int .u64 0, .int .i64 7, .func (.func 36) #[] #[]]) (by simp [results, Tryd.results28, go_sem]) rfl ⟨rfl, ((Below.new _ _).alloc (by simp) _)⟩

set_option maxRecDepth 100000 in
set_option maxHeartbeats 2000000 in
theorem ofJ_in (n : Nat) (hn : 3 ≤ n) (s : Lab) (hs : s.fits) (a : Option Addr) (len cap : Nat) (zs : List Lab) (hreach : zs.length * 24 ≤ 140737488351232) (w : World) (hI : Labs w.heap.size w (.slice a len cap) zs) :
    CallsIn Fence.wide n Tryd.prog 37 #[.agg #[.int .i64 s.l, .int .u64 s.c, .int .i64 s.i, .func (.func 36) #[] #[]], .slice a len cap] w (OfJP s zs w) := by
  have h1 : 1 ≤ n := by omega
  have hmx : Tryd.prog.follows .mixedOrders = true := by kernel_rfl
  refine callsIn_of_wp_marks Tryd.func37 rfl trivial ?_ rfl
  simp only [Tryd.ntmps37, List.size_toArray, List.length_cons, List.length_nil, Nat.reduceAdd, Nat.reduceSub, Array.replicate_succ, Array.replicate_zero, List.push_toArray, List.append_toArray, List.nil_append, List.cons_append]
  gi_wp2
  refine wpIn_scope_wide ?_
  gi_wp2
  refine wpIn_label ?_
  gi_wp2_with (refine ⟨trivial, ?_⟩; gi_at_call 43; refine (judged_in (n - 1) _ _ _ _).mono ?_; rintro e w' ⟨rfl, rfl⟩)
  obtain ⟨W0, hW0⟩ : ∃ W0, (((((w.alloc (.cells #[.int .i64 s.l, .int .u64 s.c, .int .i64 s.i, .func (.func 36) #[] #[]] 39)).alloc (.cells #[.int .i64 0, .int .u64 0, .int .i64 0] 24)).alloc (.cells #[.int .i64 s.l, .int .u64 s.c, .int .i64 s.i] 24)).alloc (.cells #[.nilIface] 44)).alloc (.cells #[.slice a len cap] 33)) = W0 := ⟨_, rfl⟩
  have hB0 : Below w.heap.size w W0 := by
    rw [← hW0]; exact (((((Below.refl _ w).alloc (Nat.le_refl _) _).alloc (by simp) _).alloc (by simp; omega) _).alloc (by simp; omega) _).alloc (by simp; omega) _
  have hF0 : FoldB w.heap.size W0 s .nilIface (.func (.func 36) #[] #[]) := by
    rw [← hW0]; exact foldB_new _ _ _ _
  have hS0 : W0.cell? ⟨w.heap.size + 1 + 1 + 1 + 1, 0, none⟩ = some (.slice a len cap) := by rw [← hW0]; exact World.cell?_alloc_at _ _ _ _ (by simp)
  have hz0 : w.heap.size + 5 = W0.heap.size := by rw [← hW0]; simp
  rw [hW0]
  have HZ := Lib.hid hz0
  clear hW0 hz0
  refine wpIn_rangeFunc_ownH rfl h1 (gf := 49) (lb := #[.pointer (some ⟨w.heap.size + 1 + 1 + 1 + 1, 0, none⟩)]) rfl trivial (enters_of Tryd.func49 (by kernel_rfl) rfl)
    (judged_stops (n - 1) (by omega) (w.heap.size + 1 + 1 + 1 + 1) w.heap.size _ zs hreach W0 (by rw [← HZ.out]; omega) hB0.size hS0 (hI.below hB0)) belowK_t (belowK_b hB0.size) (Below.refl _ _) (fun _ => rfl)
    (OfJI w.heap.size s (.func (.func 36) #[] #[]) w) (OfJX w.heap.size (.func (.func 36) #[] #[]) w) ?hI ?hIx ?h0
    (fun x a' W => ∃ Bx, w.heap.size + 1 + 1 + 1 < Bx ∧ LabAt W Bx 0 x.1 ∧ a' = { tmps := #[.agg #[.int .i64 s.l, .int .u64 s.c, .int .i64 s.i, .func (.func 36) #[] #[]], .slice a len cap, .pointer (some ⟨w.heap.size, 0, none⟩), undef, .pointer (some ⟨w.heap.size + 1, 0, none⟩), .nilIface, .pointer (some ⟨w.heap.size + 1 + 1, 0, none⟩), .pointer (some ⟨w.heap.size + 1 + 1 + 1, 0, none⟩), .pointer (some ⟨Bx, 0, none⟩), errL x.1, .pointer (some ⟨w.heap.size, 0, none⟩), .agg #[.int .i64 s.l, .int .u64 s.c, .int .i64 s.i], .slice a len cap, .func (.func 49) #[] #[.pointer (some ⟨w.heap.size + 1 + 1 + 1 + 1, 0, none⟩)], .agg #[.int .i64 x.1.l, .int .u64 x.1.c, .int .i64 x.1.i], errL x.1, undef, undef, undef, undef, undef, undef, undef, undef, undef, undef, undef, undef], defers := [] })
    ?hAx ?assign ?body ?done ?stop
  case hI =>
    exact OwnFrom.and (Own.from (fun s A B row hs hg hr => ⟨hs.1, hs.2.kept hg hr⟩) _) (ownFrom_below (Nat.le_refl _) hB0.size)
  case hIx =>
    intro c s A B row hs hg hr
    obtain ⟨⟨hc, ha, m, x, hx, hf⟩, hb⟩ := hs
    exact ⟨⟨hc, ha, m, x, hx, hf.kept hg (fun r e => (hr r e).2)⟩, ownFrom_below (β := List FLab) (n₀ := w.heap.size) (w₀ := w) (Nat.le_refl _) hB0.size s A B row hb hg hr⟩
  case hAx =>
    rintro x a' _ A B row ⟨Bx, hBx, hl, rfl⟩ hg hr
    exact ⟨Bx, hBx, ⟨cellK hl.1 hg (fun r e => (hr r e).2), cellK hl.2.1 hg (fun r e => (hr r e).2), cellK hl.2.2 hg (fun r e => (hr r e).2)⟩, rfl⟩
  case h0 => exact ⟨⟨rfl, hF0⟩, hB0⟩
  case assign =>
    rintro l pre x W K ⟨⟨hall, hF⟩, hB⟩ hK
    have hlt := World.block_lt_of_cell? W _ hF.e
    have HK := Lib.hid hK
    have HF := Lib.hid hF
    have HA := Lib.hid hall
    clear hK hF hall
    gi_wp2
    exact HK.out _ _ ((KeepsOthers.alloc _ _).from _) ((Below.refl _ W).alloc hB.size _) ⟨⟨HA.out, HF.out.below (Below.new _ _)⟩, hB.alloc hB.size _⟩ ⟨W.heap.size, hlt, ⟨by simp, by simp, by simp⟩, rfl⟩
  case body =>
    rintro l pre x a' W hl ⟨r, hr⟩ ⟨⟨hall, hF⟩, hB⟩ ⟨Bx, hBx, ⟨x0, x1, x2⟩, rfl⟩ hlt
    have HA := Lib.hid hall
    have HF := Lib.hid hF
    have HR := Lib.hid hr
    obtain ⟨m, hm⟩ : ∃ m, madeJ s (labsOf pre) = m := ⟨_, rfl⟩
    have hmf : m.fits := by rw [← hm]; exact madeJ_fits s hs pre
    rw [hm] at hF HF
    have HM := Lib.hid hm
    have f0 := hF.f
    have m0 := hF.m0
    have m1 := hF.m1
    have m2 := hF.m2
    have e0 := hF.e
    have fe := hF.fe
    have hd : 1 ≤ n - 1 - 1 := by omega
    clear hall hr hm hF
    by_cases hx : x.1.right = true
    · have hxe : errL x.1 = .nilIface := errL_yes _ hx
      have HX := Lib.hid hx
      clear hx
      gi_wp2_with (refine ⟨trivial, ?_⟩; gi_at_call 36; refine (CallsIn.inRound l (callsIn_wide.2 (joinP_any m x.1 hmf x.2 W))).mono ?_; rintro e w1 ⟨rfl, hb1⟩; have gm0 := (HF.out.below hb1).m0; have gm1 := (HF.out.below hb1).m1; have gm2 := (HF.out.below hb1).m2; have gf0 := (HF.out.below hb1).fm0; have gf1 := (HF.out.below hb1).fm1; have gf2 := (HF.out.below hb1).fm2)
      have hbb : Below w.heap.size W w1 := hb1.mono hB.size
      have hB3 := ((hbb.setCell (p := ⟨w.heap.size + 1 + 1, 0, none⟩) (by simp; omega) (.int .i64 (m.join x.1).l)).setCell (p := ⟨w.heap.size + 1 + 1, 1, none⟩) (by simp; omega) (.int .u64 (m.join x.1).c)).setCell (p := ⟨w.heap.size + 1 + 1, 2, none⟩) (by simp; omega) (.int .i64 (m.join x.1).i)
      refine ⟨((((keeps_below hb1).trans (KeepsOthers.setCell _ _ _)).trans (KeepsOthers.setCell _ _ _)).trans (KeepsOthers.setCell _ _ _)).from _, hB3, ⟨?_, ?_⟩, hB.trans hB3⟩
      · unfold labsOf at *
        rw [List.map_append, List.all_append, HA.out]
        simpa using HX.out
      · rw [madeJ_snoc, HM.out]
        exact (HF.out.below hb1).set _
    · have hxe : errL x.1 = .iface 52 (.agg #[.int .i64 x.1.l, .int .u64 x.1.c, .int .i64 x.1.i]) := errL_no _ (by simpa using hx)
      have HX := Lib.hid (Bool.eq_false_iff.2 hx)
      have HE := Lib.hid hxe
      clear hx
      gi_wp2
      refine ⟨(KeepsOthers.setCell _ _ _).from _, ⟨rfl, ?_, m, x.1, HX.out, ?_⟩, hB.setCell (p := ⟨w.heap.size + 1 + 1 + 1, 0, none⟩) (by simp; omega) _⟩
      · unfold labsOf at *
        rw [List.map_append, List.all_append, HA.out]
        simpa using HX.out
      · rw [HE.out]
        exact HF.out.err _
  case done =>
    rintro D ys W hD hys ⟨⟨hall, hF⟩, hB⟩ hK
    replace hys : labsOf ys = zs := hys
    rw [hys] at hall hF
    clear hys
    have HA := Lib.hid hall
    clear hall
    have m0 := hF.m0
    have m1 := hF.m1
    have m2 := hF.m2
    have e0 := hF.e
    have r0 := hF.r0
    have r1 := hF.r1
    have r2 := hF.r2
    have fr0 := hF.fr0
    have fr1 := hF.fr1
    have fr2 := hF.fr2
    have HK := Lib.hid hK
    clear hF hK
    gi_wp2
    refine wpIn_wide.2 ?_
    go_region_held3 (fun w' => w'.cell? ⟨w.heap.size + 1 + 1, 0, none⟩ = some (.int .i64 (madeJ s zs).l) ∧ w'.cell? ⟨w.heap.size + 1 + 1, 1, none⟩ = some (.int .u64 (madeJ s zs).c) ∧ w'.cell? ⟨w.heap.size + 1 + 1, 2, none⟩ = some (.int .i64 (madeJ s zs).i) ∧ w'.cell? ⟨w.heap.size + 1 + 1 + 1, 0, none⟩ = some .nilIface) (go_keep) (fail)
    gi_wp2
    rw [Exit.noGoto_ret]
    have hK' := ((((KeepsOthers.setCell W ⟨w.heap.size + 1, 0, none⟩ (.int .i64 (madeJ s zs).l)).trans (KeepsOthers.setCell _ ⟨w.heap.size + 1, 1, none⟩ (.int .u64 (madeJ s zs).c))).trans (KeepsOthers.setCell _ ⟨w.heap.size + 1, 2, none⟩ (.int .i64 (madeJ s zs).i))).trans (KeepsOthers.drew _)).same D _ HK.out rfl
    have c0 : ((((W.setCell ⟨w.heap.size + 1, 0, none⟩ (.int .i64 (madeJ s zs).l)).setCell ⟨w.heap.size + 1, 1, none⟩ (.int .u64 (madeJ s zs).c)).setCell ⟨w.heap.size + 1, 2, none⟩ (.int .i64 (madeJ s zs).i)).drew.putObj D (.deferred none)).cell? ⟨w.heap.size + 1, 0, none⟩ = some (.int .i64 (madeJ s zs).l) := cellP hK' (setO (x := .int .i64 (madeJ s zs).i) (b := ⟨w.heap.size + 1, 2, none⟩) (setO (x := .int .u64 (madeJ s zs).c) (b := ⟨w.heap.size + 1, 1, none⟩) (setS (.int .i64 (madeJ s zs).l) r0) (ne_off (by omega))) (ne_off (by omega)))
    have c1 : ((((W.setCell ⟨w.heap.size + 1, 0, none⟩ (.int .i64 (madeJ s zs).l)).setCell ⟨w.heap.size + 1, 1, none⟩ (.int .u64 (madeJ s zs).c)).setCell ⟨w.heap.size + 1, 2, none⟩ (.int .i64 (madeJ s zs).i)).drew.putObj D (.deferred none)).cell? ⟨w.heap.size + 1, 1, none⟩ = some (.int .u64 (madeJ s zs).c) := cellP hK' (setO (x := .int .i64 (madeJ s zs).i) (b := ⟨w.heap.size + 1, 2, none⟩) (setS (.int .u64 (madeJ s zs).c) (setO (x := .int .i64 (madeJ s zs).l) (b := ⟨w.heap.size + 1, 0, none⟩) r1 (ne_off (by omega)))) (ne_off (by omega)))
    have c2 : ((((W.setCell ⟨w.heap.size + 1, 0, none⟩ (.int .i64 (madeJ s zs).l)).setCell ⟨w.heap.size + 1, 1, none⟩ (.int .u64 (madeJ s zs).c)).setCell ⟨w.heap.size + 1, 2, none⟩ (.int .i64 (madeJ s zs).i)).drew.putObj D (.deferred none)).cell? ⟨w.heap.size + 1, 2, none⟩ = some (.int .i64 (madeJ s zs).i) := cellP hK' (setS (.int .i64 (madeJ s zs).i) (setO (x := .int .u64 (madeJ s zs).c) (b := ⟨w.heap.size + 1, 1, none⟩) (setO (x := .int .i64 (madeJ s zs).l) (b := ⟨w.heap.size + 1, 0, none⟩) r2 (ne_off (by omega))) (ne_off (by omega))))
    have hB3 := (((hB.setCell (p := ⟨w.heap.size + 1, 0, none⟩) (by simp) (.int .i64 (madeJ s zs).l)).setCell (p := ⟨w.heap.size + 1, 1, none⟩) (by simp) (.int .u64 (madeJ s zs).c)).setCell (p := ⟨w.heap.size + 1, 2, none⟩) (by simp) (.int .i64 (madeJ s zs).i)).drew
    refine ⟨by simp, .inl ⟨_, _, rfl, run_takeDeferred hK', ?_⟩⟩
    refine ⟨.tuple #[.agg #[.int .i64 (madeJ s zs).l, .int .u64 (madeJ s zs).c, .int .i64 (madeJ s zs).i], .nilIface], ?_, .inl ⟨HA.out, rfl⟩, hB3.trans (belowK_b (w := w) (Nat.le_refl _) _ D _ _ (by have := HZ.out; omega) hK' rfl rfl)⟩
    generalize ((((W.setCell ⟨w.heap.size + 1, 0, none⟩ (.int .i64 (madeJ s zs).l)).setCell ⟨w.heap.size + 1, 1, none⟩ (.int .u64 (madeJ s zs).c)).setCell ⟨w.heap.size + 1, 2, none⟩ (.int .i64 (madeJ s zs).i)).drew.putObj D (.deferred none)) = WF at c0 c1 c2 ⊢
    clear hK' hB3
    simp [results, Tryd.results37, go_sem, c0, c1, c2]
  case stop =>
    rintro D c pre W hD hpre ⟨⟨rfl, hall, m, x, hx, hF⟩, hB⟩ hK
    have hz : zs.all Lab.right = false := by
      obtain ⟨t, rfl⟩ := hpre
      rw [List.all_append]
      replace hall : (pre.map (·.1)).all Lab.right = false := hall
      rw [hall, Bool.false_and]
    have HZ2 := Lib.hid hz
    have HX := Lib.hid hx
    clear hz hall hpre hx
    have m0 := hF.m0
    have m1 := hF.m1
    have m2 := hF.m2
    have e0 := hF.e
    have r0 := hF.r0
    have r1 := hF.r1
    have r2 := hF.r2
    have fr0 := hF.fr0
    have fr1 := hF.fr1
    have fr2 := hF.fr2
    have HK := Lib.hid hK
    clear hF hK
    gi_wp2
    refine wpIn_wide.2 ?_
    go_region_held3 (fun w' => w'.cell? ⟨w.heap.size + 1 + 1, 0, none⟩ = some (.int .i64 m.l) ∧ w'.cell? ⟨w.heap.size + 1 + 1, 1, none⟩ = some (.int .u64 m.c) ∧ w'.cell? ⟨w.heap.size + 1 + 1, 2, none⟩ = some (.int .i64 m.i) ∧ w'.cell? ⟨w.heap.size + 1 + 1 + 1, 0, none⟩ = some (errL x)) (go_keep) (fail)
    gi_wp2
    rw [Exit.noGoto_ret]
    have hK' := ((((KeepsOthers.setCell W ⟨w.heap.size + 1, 0, none⟩ (.int .i64 m.l)).trans (KeepsOthers.setCell _ ⟨w.heap.size + 1, 1, none⟩ (.int .u64 m.c))).trans (KeepsOthers.setCell _ ⟨w.heap.size + 1, 2, none⟩ (.int .i64 m.i))).trans (KeepsOthers.drew _)).same D _ HK.out rfl
    have c0 : ((((W.setCell ⟨w.heap.size + 1, 0, none⟩ (.int .i64 m.l)).setCell ⟨w.heap.size + 1, 1, none⟩ (.int .u64 m.c)).setCell ⟨w.heap.size + 1, 2, none⟩ (.int .i64 m.i)).drew.putObj D (.deferred none)).cell? ⟨w.heap.size + 1, 0, none⟩ = some (.int .i64 m.l) := cellP hK' (setO (x := .int .i64 m.i) (b := ⟨w.heap.size + 1, 2, none⟩) (setO (x := .int .u64 m.c) (b := ⟨w.heap.size + 1, 1, none⟩) (setS (.int .i64 m.l) r0) (ne_off (by omega))) (ne_off (by omega)))
    have c1 : ((((W.setCell ⟨w.heap.size + 1, 0, none⟩ (.int .i64 m.l)).setCell ⟨w.heap.size + 1, 1, none⟩ (.int .u64 m.c)).setCell ⟨w.heap.size + 1, 2, none⟩ (.int .i64 m.i)).drew.putObj D (.deferred none)).cell? ⟨w.heap.size + 1, 1, none⟩ = some (.int .u64 m.c) := cellP hK' (setO (x := .int .i64 m.i) (b := ⟨w.heap.size + 1, 2, none⟩) (setS (.int .u64 m.c) (setO (x := .int .i64 m.l) (b := ⟨w.heap.size + 1, 0, none⟩) r1 (ne_off (by omega)))) (ne_off (by omega)))
    have c2 : ((((W.setCell ⟨w.heap.size + 1, 0, none⟩ (.int .i64 m.l)).setCell ⟨w.heap.size + 1, 1, none⟩ (.int .u64 m.c)).setCell ⟨w.heap.size + 1, 2, none⟩ (.int .i64 m.i)).drew.putObj D (.deferred none)).cell? ⟨w.heap.size + 1, 2, none⟩ = some (.int .i64 m.i) := cellP hK' (setS (.int .i64 m.i) (setO (x := .int .u64 m.c) (b := ⟨w.heap.size + 1, 1, none⟩) (setO (x := .int .i64 m.l) (b := ⟨w.heap.size + 1, 0, none⟩) r2 (ne_off (by omega))) (ne_off (by omega))))
    have hB3 := (((hB.setCell (p := ⟨w.heap.size + 1, 0, none⟩) (by simp) (.int .i64 m.l)).setCell (p := ⟨w.heap.size + 1, 1, none⟩) (by simp) (.int .u64 m.c)).setCell (p := ⟨w.heap.size + 1, 2, none⟩) (by simp) (.int .i64 m.i)).drew
    refine ⟨by simp, .inl ⟨_, _, rfl, run_takeDeferred hK', ?_⟩⟩
    refine ⟨.tuple #[.agg #[.int .i64 m.l, .int .u64 m.c, .int .i64 m.i], (errL x)], ?_, .inr ⟨HZ2.out, m, x, HX.out, rfl⟩, hB3.trans (belowK_b (w := w) (Nat.le_refl _) _ D _ _ (by have := HZ.out; omega) hK' rfl rfl)⟩
    generalize ((((W.setCell ⟨w.heap.size + 1, 0, none⟩ (.int .i64 m.l)).setCell ⟨w.heap.size + 1, 1, none⟩ (.int .u64 m.c)).setCell ⟨w.heap.size + 1, 2, none⟩ (.int .i64 m.i)).drew.putObj D (.deferred none)) = WF at c0 c1 c2 ⊢
    clear hK' hB3
    simp [results, Tryd.results37, go_sem, c0, c1, c2]

end Go.Proofs.YtafghaceahchhaaDoor
