/- The document's Float and Gain. -/
import Derived.Test.YtciohfeifihobaaDoorCeRef
namespace Go.Proofs.YtciohfeifihobaaDoor
open Go.RowKit Go.Proofs.Cats Go.Proofs.Cel Go.Shelf

theorem boxZ_new (W : World) : BoxL (W.alloc (.cells #[.int .i64 0, .int .u64 0, .int .i64 0] 24)) W.heap.size Lab.zero := BoxL.new W Lab.zero
theorem four_boxes (w : World) (a b c : Lab) : Below w.heap.size w ((((w.alloc (.cells #[.int .i64 a.l, .int .u64 a.c, .int .i64 a.i] 24)).alloc (.cells #[.int .i64 b.l, .int .u64 b.c, .int .i64 b.i] 24)).alloc (.cells #[.int .i64 c.l, .int .u64 c.c, .int .i64 c.i] 24)).alloc (.cells #[.int .i64 0, .int .u64 0, .int .i64 0] 24)) ∧ BoxL ((((w.alloc (.cells #[.int .i64 a.l, .int .u64 a.c, .int .i64 a.i] 24)).alloc (.cells #[.int .i64 b.l, .int .u64 b.c, .int .i64 b.i] 24)).alloc (.cells #[.int .i64 c.l, .int .u64 c.c, .int .i64 c.i] 24)).alloc (.cells #[.int .i64 0, .int .u64 0, .int .i64 0] 24)) w.heap.size a ∧ BoxL ((((w.alloc (.cells #[.int .i64 a.l, .int .u64 a.c, .int .i64 a.i] 24)).alloc (.cells #[.int .i64 b.l, .int .u64 b.c, .int .i64 b.i] 24)).alloc (.cells #[.int .i64 c.l, .int .u64 c.c, .int .i64 c.i] 24)).alloc (.cells #[.int .i64 0, .int .u64 0, .int .i64 0] 24)) (w.heap.size + 1) b ∧ BoxL ((((w.alloc (.cells #[.int .i64 a.l, .int .u64 a.c, .int .i64 a.i] 24)).alloc (.cells #[.int .i64 b.l, .int .u64 b.c, .int .i64 b.i] 24)).alloc (.cells #[.int .i64 c.l, .int .u64 c.c, .int .i64 c.i] 24)).alloc (.cells #[.int .i64 0, .int .u64 0, .int .i64 0] 24)) (w.heap.size + 1 + 1) c ∧ BoxL ((((w.alloc (.cells #[.int .i64 a.l, .int .u64 a.c, .int .i64 a.i] 24)).alloc (.cells #[.int .i64 b.l, .int .u64 b.c, .int .i64 b.i] 24)).alloc (.cells #[.int .i64 c.l, .int .u64 c.c, .int .i64 c.i] 24)).alloc (.cells #[.int .i64 0, .int .u64 0, .int .i64 0] 24)) (w.heap.size + 1 + 1 + 1) Lab.zero := by
  obtain ⟨h1, h2, h3, h4⟩ := three_boxes w a b c
  have hN := Below.new (((w.alloc (.cells #[.int .i64 a.l, .int .u64 a.c, .int .i64 a.i] 24)).alloc (.cells #[.int .i64 b.l, .int .u64 b.c, .int .i64 b.i] 24)).alloc (.cells #[.int .i64 c.l, .int .u64 c.c, .int .i64 c.i] 24)) (.cells #[.int .i64 0, .int .u64 0, .int .i64 0] 24)
  have h5 := boxZ_new (((w.alloc (.cells #[.int .i64 a.l, .int .u64 a.c, .int .i64 a.i] 24)).alloc (.cells #[.int .i64 b.l, .int .u64 b.c, .int .i64 b.i] 24)).alloc (.cells #[.int .i64 c.l, .int .u64 c.c, .int .i64 c.i] 24))
  rw [World.size_alloc, World.size_alloc, World.size_alloc] at h5
  exact ⟨below_more h1 hN, h2.more hN, h3.more hN, h4.more hN, h5⟩
theorem three_boxZ (w : World) (a b : Lab) : Below w.heap.size w (((w.alloc (.cells #[.int .i64 a.l, .int .u64 a.c, .int .i64 a.i] 24)).alloc (.cells #[.int .i64 b.l, .int .u64 b.c, .int .i64 b.i] 24)).alloc (.cells #[.int .i64 0, .int .u64 0, .int .i64 0] 24)) ∧ BoxL (((w.alloc (.cells #[.int .i64 a.l, .int .u64 a.c, .int .i64 a.i] 24)).alloc (.cells #[.int .i64 b.l, .int .u64 b.c, .int .i64 b.i] 24)).alloc (.cells #[.int .i64 0, .int .u64 0, .int .i64 0] 24)) w.heap.size a ∧ BoxL (((w.alloc (.cells #[.int .i64 a.l, .int .u64 a.c, .int .i64 a.i] 24)).alloc (.cells #[.int .i64 b.l, .int .u64 b.c, .int .i64 b.i] 24)).alloc (.cells #[.int .i64 0, .int .u64 0, .int .i64 0] 24)) (w.heap.size + 1) b ∧ BoxL (((w.alloc (.cells #[.int .i64 a.l, .int .u64 a.c, .int .i64 a.i] 24)).alloc (.cells #[.int .i64 b.l, .int .u64 b.c, .int .i64 b.i] 24)).alloc (.cells #[.int .i64 0, .int .u64 0, .int .i64 0] 24)) (w.heap.size + 1 + 1) Lab.zero := by
  obtain ⟨h1, h2, h3⟩ := two_boxes w a b
  have hN := Below.new ((w.alloc (.cells #[.int .i64 a.l, .int .u64 a.c, .int .i64 a.i] 24)).alloc (.cells #[.int .i64 b.l, .int .u64 b.c, .int .i64 b.i] 24)) (.cells #[.int .i64 0, .int .u64 0, .int .i64 0] 24)
  have h5 := boxZ_new ((w.alloc (.cells #[.int .i64 a.l, .int .u64 a.c, .int .i64 a.i] 24)).alloc (.cells #[.int .i64 b.l, .int .u64 b.c, .int .i64 b.i] 24))
  rw [World.size_alloc, World.size_alloc] at h5
  exact ⟨below_more h1 hN, h2.more hN, h3.more hN, h5⟩
/-- What the walk of Float carries. -/
structure FlS (w W : World) (high x : Lab) (X : Nat) : Prop where
  b : Below w.heap.size w W
  h : BoxL W (w.heap.size + 1 + 1) high
  r : BoxL W (w.heap.size + 1 + 1 + 1) Lab.zero
  x : BoxL W X x
  e : Ce W
theorem FlS.more {w W W' : World} {high x : Lab} {X : Nat} (k : FlS w W high x X) (hb : Below W.heap.size W W') : FlS w W' high x X := ⟨below_more k.b hb, k.h.more hb, k.r.more hb, k.x.more hb, k.e.more hb⟩

set_option maxRecDepth 100000 in
set_option maxHeartbeats 4000000 in
theorem RFloat_w {cur a high x : Lab} {c : Int} {w : World} (hc : cur.fits) (ha : a.fits) (hh : high.fits) (h : floatL cur a high = (c, x)) (hs : Ce w) :
    Calls Tryd.prog 13 #[.agg #[.int .i64 cur.l, .int .u64 cur.c, .int .i64 cur.i], .agg #[.int .i64 a.l, .int .u64 a.c, .int .i64 a.i], .agg #[.int .i64 high.l, .int .u64 high.c, .int .i64 high.i]] w (LaP c x w) := by
  obtain ⟨hB, h1, h2, h3, h4⟩ := four_boxes w cur a high
  obtain ⟨y, hy⟩ : ∃ y, twoJ cur a = y := ⟨_, rfl⟩
  have hyf : y.fits := hy ▸ fits_twoJ hc ha
  have HF := Lib.hid (And.intro hyf hh)
  have HB := Lib.hid (And.intro hB (And.intro h3 (And.intro h4 (hs.more hB))))
  obtain ⟨p0, p1, p2⟩ := h1.lab
  obtain ⟨q0, q1, q2⟩ := h2.lab
  cases hr : (cur.right && a.right) with
  | false =>
    have HC := Lib.hid (RJoin_w hc ha hy (twoE_no hr) (hs.more hB))
    rw [float_bad (by rw [hr]; rfl)] at h
    obtain ⟨rfl, rfl⟩ := Prod.mk.inj h
    clear hB h1 h2 h3 h4 hs hr h hc ha hh hy hyf
    go_enter Tryd.func13, Tryd.ntmps13
    go_wp2_with (go_at_call 31; refine HC.out.mono ?_)
    rintro e w1 ⟨rfl, hb1⟩
    have hN := Below.new w1 (.cells #[.int .i64 y.l, .int .u64 y.c, .int .i64 y.i] 24)
    have HS := Lib.hid (FlS.more (FlS.more ⟨HB.out.1, HB.out.2.1, HB.out.2.2.1, HB.out.2.2.1, HB.out.2.2.2⟩ hb1) hN)
    have HX := Lib.hid (BoxL.new w1 y)
    clear hb1 hN
    obtain ⟨z0, z1, z2⟩ := HS.out.r.lab
    obtain ⟨fz0, fz1, fz2⟩ := HS.out.r.frozen
    clear p0 p1 p2 q0 q1 q2
    go_wp2
    have HU := Lib.hid (show Below w.heap.size w ((((w1.alloc (.cells #[.int .i64 y.l, .int .u64 y.c, .int .i64 y.i] 24)).setCell ⟨w.heap.size + 1 + 1 + 1, 0, none⟩ (.int .i64 0)).setCell ⟨w.heap.size + 1 + 1 + 1, 1, none⟩ (.int .u64 0)).setCell ⟨w.heap.size + 1 + 1 + 1, 2, none⟩ (.int .i64 0)) ∧ BoxL ((((w1.alloc (.cells #[.int .i64 y.l, .int .u64 y.c, .int .i64 y.i] 24)).setCell ⟨w.heap.size + 1 + 1 + 1, 0, none⟩ (.int .i64 0)).setCell ⟨w.heap.size + 1 + 1 + 1, 1, none⟩ (.int .u64 0)).setCell ⟨w.heap.size + 1 + 1 + 1, 2, none⟩ (.int .i64 0)) (w.heap.size + 1 + 1 + 1) Lab.zero from ⟨below_set3 HS.out.b (by omega) _ _ _, HS.out.r.set Lab.zero⟩)
    obtain ⟨c0, c1, c2⟩ := HU.out.2.lab
    have hbf := HU.out.1
    clear HU
    refine bodyPost_ret (v := .tuple #[.agg #[.int .i64 0, .int .u64 0, .int .i64 0], .int .i64 20]) ?_ rfl ⟨rfl, hbf⟩
    clear hbf
    generalize ((((w1.alloc (.cells #[.int .i64 y.l, .int .u64 y.c, .int .i64 y.i] 24)).setCell ⟨w.heap.size + 1 + 1 + 1, 0, none⟩ (.int .i64 0)).setCell ⟨w.heap.size + 1 + 1 + 1, 1, none⟩ (.int .u64 0)).setCell ⟨w.heap.size + 1 + 1 + 1, 2, none⟩ (.int .i64 0)) = WF at c0 c1 c2 ⊢
    simp [results, Tryd.results13, go_sem, c0, c1, c2, Lab.zero]
  | true =>
    have HC := Lib.hid (RJoin_w hc ha hy (twoE_yes hr) (hs.more hB))
    have hye : y = cur.join a := hy.symm.trans (twoJ_yes hr)
    cases hr2 : high.right with
    | false =>
      have HR := Lib.hid (fun W => RRight_w (w := W) hr2)
      rw [float_bad (by rw [hr2, Bool.and_false])] at h
      obtain ⟨rfl, rfl⟩ := Prod.mk.inj h
      clear hB h1 h2 h3 h4 hs hr hr2 h hc ha hh hy hyf hye
      go_enter Tryd.func13, Tryd.ntmps13
      go_wp2_with (go_at_call 31; refine HC.out.mono ?_)
      rintro e w1 ⟨rfl, hb1⟩
      have hN := Below.new w1 (.cells #[.int .i64 y.l, .int .u64 y.c, .int .i64 y.i] 24)
      have HS := Lib.hid (FlS.more (FlS.more ⟨HB.out.1, HB.out.2.1, HB.out.2.2.1, HB.out.2.2.1, HB.out.2.2.2⟩ hb1) hN)
      have HX := Lib.hid (BoxL.new w1 y)
      clear hb1 hN
      obtain ⟨g0, g1, g2⟩ := HS.out.h.lab
      clear p0 p1 p2 q0 q1 q2
      go_wp2_with (go_at_call 32; refine (HR.out _).mono ?_)
      rintro e w2 ⟨rfl, hb2⟩
      have HS2 := Lib.hid (FlS.more (X := w1.heap.size) (x := y) ⟨HS.out.b, HS.out.h, HS.out.r, HX.out, HS.out.e⟩ hb2)
      clear hb2 g0 g1 g2
      obtain ⟨z0, z1, z2⟩ := HS2.out.r.lab
      obtain ⟨fz0, fz1, fz2⟩ := HS2.out.r.frozen
      go_wp2
      have HU := Lib.hid (show Below w.heap.size w (((w2.setCell ⟨w.heap.size + 1 + 1 + 1, 0, none⟩ (.int .i64 0)).setCell ⟨w.heap.size + 1 + 1 + 1, 1, none⟩ (.int .u64 0)).setCell ⟨w.heap.size + 1 + 1 + 1, 2, none⟩ (.int .i64 0)) ∧ BoxL (((w2.setCell ⟨w.heap.size + 1 + 1 + 1, 0, none⟩ (.int .i64 0)).setCell ⟨w.heap.size + 1 + 1 + 1, 1, none⟩ (.int .u64 0)).setCell ⟨w.heap.size + 1 + 1 + 1, 2, none⟩ (.int .i64 0)) (w.heap.size + 1 + 1 + 1) Lab.zero from ⟨below_set3 HS2.out.b (by omega) _ _ _, HS2.out.r.set Lab.zero⟩)
      obtain ⟨c0, c1, c2⟩ := HU.out.2.lab
      have hbf := HU.out.1
      clear HU
      refine bodyPost_ret (v := .tuple #[.agg #[.int .i64 0, .int .u64 0, .int .i64 0], .int .i64 20]) ?_ rfl ⟨rfl, hbf⟩
      clear hbf
      generalize (((w2.setCell ⟨w.heap.size + 1 + 1 + 1, 0, none⟩ (.int .i64 0)).setCell ⟨w.heap.size + 1 + 1 + 1, 1, none⟩ (.int .u64 0)).setCell ⟨w.heap.size + 1 + 1 + 1, 2, none⟩ (.int .i64 0)) = WF at c0 c1 c2 ⊢
      simp [results, Tryd.results13, go_sem, c0, c1, c2, Lab.zero]
    | true =>
      have HR := Lib.hid (fun W => RRight_w (w := W) hr2)
      have hall : (cur.right && a.right && high.right) = true := by rw [hr, hr2]; rfl
      cases hu : (cur.join a).under high with
      | false =>
        have HUn := Lib.hid (show y.under high = false by rw [hye]; exact hu)
        rw [float_high hall hu] at h
        obtain ⟨rfl, rfl⟩ := Prod.mk.inj h
        clear hB h1 h2 h3 h4 hs hr hr2 h hc ha hh hy hyf hye hall hu
        go_enter Tryd.func13, Tryd.ntmps13
        go_wp2_with (go_at_call 31; refine HC.out.mono ?_)
        rintro e w1 ⟨rfl, hb1⟩
        have hN := Below.new w1 (.cells #[.int .i64 y.l, .int .u64 y.c, .int .i64 y.i] 24)
        have HS := Lib.hid (FlS.more (FlS.more ⟨HB.out.1, HB.out.2.1, HB.out.2.2.1, HB.out.2.2.1, HB.out.2.2.2⟩ hb1) hN)
        have HX := Lib.hid (BoxL.new w1 y)
        clear hb1 hN
        obtain ⟨g0, g1, g2⟩ := HS.out.h.lab
        clear p0 p1 p2 q0 q1 q2
        go_wp2_with (go_at_call 32; refine (HR.out _).mono ?_)
        rintro e w2 ⟨rfl, hb2⟩
        have HS2 := Lib.hid (FlS.more (X := w1.heap.size) (x := y) ⟨HS.out.b, HS.out.h, HS.out.r, HX.out, HS.out.e⟩ hb2)
        clear hb2 g0 g1 g2
        obtain ⟨g0, g1, g2⟩ := HS2.out.h.lab
        obtain ⟨x0, x1, x2⟩ := HS2.out.x.lab
        go_wp2_with (go_at_call 33; refine (RUnder_w HF.out.1 HF.out.2 HUn.out HS2.out.e).mono ?_)
        rintro e w3 ⟨rfl, hb3⟩
        have HS3 := Lib.hid (HS2.out.more hb3)
        clear hb3 g0 g1 g2 x0 x1 x2
        obtain ⟨z0, z1, z2⟩ := HS3.out.r.lab
        obtain ⟨fz0, fz1, fz2⟩ := HS3.out.r.frozen
        go_wp2
        have HU := Lib.hid (show Below w.heap.size w (((w3.setCell ⟨w.heap.size + 1 + 1 + 1, 0, none⟩ (.int .i64 0)).setCell ⟨w.heap.size + 1 + 1 + 1, 1, none⟩ (.int .u64 0)).setCell ⟨w.heap.size + 1 + 1 + 1, 2, none⟩ (.int .i64 0)) ∧ BoxL (((w3.setCell ⟨w.heap.size + 1 + 1 + 1, 0, none⟩ (.int .i64 0)).setCell ⟨w.heap.size + 1 + 1 + 1, 1, none⟩ (.int .u64 0)).setCell ⟨w.heap.size + 1 + 1 + 1, 2, none⟩ (.int .i64 0)) (w.heap.size + 1 + 1 + 1) Lab.zero from ⟨below_set3 HS3.out.b (by omega) _ _ _, HS3.out.r.set Lab.zero⟩)
        obtain ⟨c0, c1, c2⟩ := HU.out.2.lab
        have hbf := HU.out.1
        clear HU
        refine bodyPost_ret (v := .tuple #[.agg #[.int .i64 0, .int .u64 0, .int .i64 0], .int .i64 120]) ?_ rfl ⟨rfl, hbf⟩
        clear hbf
        generalize (((w3.setCell ⟨w.heap.size + 1 + 1 + 1, 0, none⟩ (.int .i64 0)).setCell ⟨w.heap.size + 1 + 1 + 1, 1, none⟩ (.int .u64 0)).setCell ⟨w.heap.size + 1 + 1 + 1, 2, none⟩ (.int .i64 0)) = WF at c0 c1 c2 ⊢
        simp [results, Tryd.results13, go_sem, c0, c1, c2, Lab.zero]
      | true =>
        have HUn := Lib.hid (show y.under high = true by rw [hye]; exact hu)
        rw [float_ok hall hu, ← hye] at h
        obtain ⟨rfl, rfl⟩ := Prod.mk.inj h
        clear hB h1 h2 h3 h4 hs hr hr2 h hc ha hh hy hyf hye hall hu
        go_enter Tryd.func13, Tryd.ntmps13
        go_wp2_with (go_at_call 31; refine HC.out.mono ?_)
        rintro e w1 ⟨rfl, hb1⟩
        have hN := Below.new w1 (.cells #[.int .i64 y.l, .int .u64 y.c, .int .i64 y.i] 24)
        have HS := Lib.hid (FlS.more (FlS.more ⟨HB.out.1, HB.out.2.1, HB.out.2.2.1, HB.out.2.2.1, HB.out.2.2.2⟩ hb1) hN)
        have HX := Lib.hid (BoxL.new w1 y)
        clear hb1 hN
        obtain ⟨g0, g1, g2⟩ := HS.out.h.lab
        clear p0 p1 p2 q0 q1 q2
        go_wp2_with (go_at_call 32; refine (HR.out _).mono ?_)
        rintro e w2 ⟨rfl, hb2⟩
        have HS2 := Lib.hid (FlS.more (X := w1.heap.size) (x := y) ⟨HS.out.b, HS.out.h, HS.out.r, HX.out, HS.out.e⟩ hb2)
        clear hb2 g0 g1 g2
        obtain ⟨g0, g1, g2⟩ := HS2.out.h.lab
        obtain ⟨x0, x1, x2⟩ := HS2.out.x.lab
        go_wp2_with (go_at_call 33; refine (RUnder_w HF.out.1 HF.out.2 HUn.out HS2.out.e).mono ?_)
        rintro e w3 ⟨rfl, hb3⟩
        have HS3 := Lib.hid (HS2.out.more hb3)
        clear hb3 g0 g1 g2 x0 x1 x2
        obtain ⟨z0, z1, z2⟩ := HS3.out.r.lab
        obtain ⟨fz0, fz1, fz2⟩ := HS3.out.r.frozen
        obtain ⟨x0, x1, x2⟩ := HS3.out.x.lab
        go_wp2
        have HU := Lib.hid (show Below w.heap.size w (((w3.setCell ⟨w.heap.size + 1 + 1 + 1, 0, none⟩ (.int .i64 y.l)).setCell ⟨w.heap.size + 1 + 1 + 1, 1, none⟩ (.int .u64 y.c)).setCell ⟨w.heap.size + 1 + 1 + 1, 2, none⟩ (.int .i64 y.i)) ∧ BoxL (((w3.setCell ⟨w.heap.size + 1 + 1 + 1, 0, none⟩ (.int .i64 y.l)).setCell ⟨w.heap.size + 1 + 1 + 1, 1, none⟩ (.int .u64 y.c)).setCell ⟨w.heap.size + 1 + 1 + 1, 2, none⟩ (.int .i64 y.i)) (w.heap.size + 1 + 1 + 1) y from ⟨below_set3 HS3.out.b (by omega) _ _ _, HS3.out.r.set y⟩)
        obtain ⟨c0, c1, c2⟩ := HU.out.2.lab
        have hbf := HU.out.1
        clear HU
        refine bodyPost_ret (v := .tuple #[.agg #[.int .i64 y.l, .int .u64 y.c, .int .i64 y.i], .int .i64 0]) ?_ rfl ⟨rfl, hbf⟩
        clear hbf
        generalize (((w3.setCell ⟨w.heap.size + 1 + 1 + 1, 0, none⟩ (.int .i64 y.l)).setCell ⟨w.heap.size + 1 + 1 + 1, 1, none⟩ (.int .u64 y.c)).setCell ⟨w.heap.size + 1 + 1 + 1, 2, none⟩ (.int .i64 y.i)) = WF at c0 c1 c2 ⊢
        simp [results, Tryd.results13, go_sem, c0, c1, c2]

end Go.Proofs.YtciohfeifihobaaDoor
