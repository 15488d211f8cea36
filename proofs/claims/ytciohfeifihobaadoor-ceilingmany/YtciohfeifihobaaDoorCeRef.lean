/- The document's own answers: Reads, Writes, Send, Gain, Float. -/
import Derived.Test.YtciohfeifihobaaDoorCeEnv
namespace Go.Proofs.YtciohfeifihobaaDoor
open Go.RowKit Go.Proofs.Cats Go.Proofs.Cel Go.Shelf

set_option maxHeartbeats 1000000 in
theorem RReads_w {cur a : Lab} {r : Bool} {w : World} (hc : cur.fits) (ha : a.fits) (h : readsL cur a = r) (hs : Ce w) :
    Calls Tryd.prog 19 #[.agg #[.int .i64 cur.l, .int .u64 cur.c, .int .i64 cur.i], .agg #[.int .i64 a.l, .int .u64 a.c, .int .i64 a.i]] w (BoolP r w) := by
  have hB := (Below.new w (.cells #[.int .i64 cur.l, .int .u64 cur.c, .int .i64 cur.i] 24)).alloc (by simp) (.cells #[.int .i64 a.l, .int .u64 a.c, .int .i64 a.i] 24)
  have HC := Lib.hid (RUnder_w ha hc h (hs.more hB))
  have HB := Lib.hid hB
  clear hB hc ha h hs
  go_enter Tryd.func19, Tryd.ntmps19
  go_wp2_with (go_at_call 33; refine HC.out.mono ?_)
  rintro e w1 ⟨rfl, hb1⟩
  have HB1 := Lib.hid (below_more HB.out hb1)
  clear hb1
  go_wp2
  go_ret
  exact ⟨rfl, HB1.out⟩

theorem neqW (a b : Lab) (w : World) : (binOp .neq 24 (.agg #[.int .i64 a.l, .int .u64 a.c, .int .i64 a.i]) (.agg #[.int .i64 b.l, .int .u64 b.c, .int .i64 b.i])).run Tryd.prog w = .ok (.bool (!(a.same b))) w := by
  have h := eqInL a b w
  go_simp
/-- Two labels, each in a block of its own. -/
theorem two_boxes (w : World) (a b : Lab) : Below w.heap.size w ((w.alloc (.cells #[.int .i64 a.l, .int .u64 a.c, .int .i64 a.i] 24)).alloc (.cells #[.int .i64 b.l, .int .u64 b.c, .int .i64 b.i] 24)) ∧ BoxL ((w.alloc (.cells #[.int .i64 a.l, .int .u64 a.c, .int .i64 a.i] 24)).alloc (.cells #[.int .i64 b.l, .int .u64 b.c, .int .i64 b.i] 24)) w.heap.size a ∧ BoxL ((w.alloc (.cells #[.int .i64 a.l, .int .u64 a.c, .int .i64 a.i] 24)).alloc (.cells #[.int .i64 b.l, .int .u64 b.c, .int .i64 b.i] 24)) (w.heap.size + 1) b := by
  have hN := Below.new (w.alloc (.cells #[.int .i64 a.l, .int .u64 a.c, .int .i64 a.i] 24)) (.cells #[.int .i64 b.l, .int .u64 b.c, .int .i64 b.i] 24)
  have h2 := BoxL.new (w.alloc (.cells #[.int .i64 a.l, .int .u64 a.c, .int .i64 a.i] 24)) b
  rw [World.size_alloc] at h2
  exact ⟨below_more (Below.new w _) hN, (BoxL.new w a).more hN, h2⟩
theorem three_boxes (w : World) (a b c : Lab) : Below w.heap.size w (((w.alloc (.cells #[.int .i64 a.l, .int .u64 a.c, .int .i64 a.i] 24)).alloc (.cells #[.int .i64 b.l, .int .u64 b.c, .int .i64 b.i] 24)).alloc (.cells #[.int .i64 c.l, .int .u64 c.c, .int .i64 c.i] 24)) ∧ BoxL (((w.alloc (.cells #[.int .i64 a.l, .int .u64 a.c, .int .i64 a.i] 24)).alloc (.cells #[.int .i64 b.l, .int .u64 b.c, .int .i64 b.i] 24)).alloc (.cells #[.int .i64 c.l, .int .u64 c.c, .int .i64 c.i] 24)) w.heap.size a ∧ BoxL (((w.alloc (.cells #[.int .i64 a.l, .int .u64 a.c, .int .i64 a.i] 24)).alloc (.cells #[.int .i64 b.l, .int .u64 b.c, .int .i64 b.i] 24)).alloc (.cells #[.int .i64 c.l, .int .u64 c.c, .int .i64 c.i] 24)) (w.heap.size + 1) b ∧ BoxL (((w.alloc (.cells #[.int .i64 a.l, .int .u64 a.c, .int .i64 a.i] 24)).alloc (.cells #[.int .i64 b.l, .int .u64 b.c, .int .i64 b.i] 24)).alloc (.cells #[.int .i64 c.l, .int .u64 c.c, .int .i64 c.i] 24)) (w.heap.size + 1 + 1) c := by
  obtain ⟨h1, h2, h3⟩ := two_boxes w a b
  have hN := Below.new ((w.alloc (.cells #[.int .i64 a.l, .int .u64 a.c, .int .i64 a.i] 24)).alloc (.cells #[.int .i64 b.l, .int .u64 b.c, .int .i64 b.i] 24)) (.cells #[.int .i64 c.l, .int .u64 c.c, .int .i64 c.i] 24)
  have h4 := BoxL.new ((w.alloc (.cells #[.int .i64 a.l, .int .u64 a.c, .int .i64 a.i] 24)).alloc (.cells #[.int .i64 b.l, .int .u64 b.c, .int .i64 b.i] 24)) c
  rw [World.size_alloc, World.size_alloc] at h4
  exact ⟨below_more h1 hN, h2.more hN, h3.more hN, h4⟩

set_option maxHeartbeats 1000000 in
theorem RWrites_w {cur a : Lab} {r : Bool} {w : World} (h : writesL cur a = r) :
    Calls Tryd.prog 21 #[.agg #[.int .i64 cur.l, .int .u64 cur.c, .int .i64 cur.i], .agg #[.int .i64 a.l, .int .u64 a.c, .int .i64 a.i]] w (BoolP r w) := by
  obtain ⟨hB, h1, h2⟩ := two_boxes w cur a
  have e1 := eqL a cur
  have e2 := eqInL a cur
  unfold writesL at h
  cases hr : a.right with
  | false =>
    have HC := Lib.hid (fun W => RRight_w (w := W) hr)
    rw [hr] at h
    have HB := Lib.hid (And.intro hB h)
    obtain ⟨q0, q1, q2⟩ := h2.lab
    clear hB h1 h2 h hr e1 e2
    go_enter Tryd.func21, Tryd.ntmps21
    go_wp2_with (go_at_call 32; refine (HC.out _).mono ?_)
    rintro e w1 ⟨rfl, hb1⟩
    have HB1 := Lib.hid (below_more HB.out.1 hb1)
    clear hb1
    go_wp2
    go_ret
    exact ⟨by rw [← HB.out.2]; rfl, HB1.out⟩
  | true =>
    have HC := Lib.hid (fun W => RRight_w (w := W) hr)
    rw [hr, Bool.true_and] at h
    rw [h] at e1 e2
    have HB := Lib.hid (And.intro hB (And.intro h1 h2))
    obtain ⟨q0, q1, q2⟩ := h2.lab
    clear hB h1 h2 h hr
    go_enter Tryd.func21, Tryd.ntmps21
    go_wp2_with (go_at_call 32; refine (HC.out _).mono ?_)
    rintro e w1 ⟨rfl, hb1⟩
    have HB1 := Lib.hid (below_more HB.out.1 hb1)
    obtain ⟨p0, p1, p2⟩ := (HB.out.2.1.more hb1).lab
    obtain ⟨r0, r1, r2⟩ := (HB.out.2.2.more hb1).lab
    clear hb1 q0 q1 q2
    go_wp2
    go_ret
    exact ⟨rfl, HB1.out⟩

set_option maxHeartbeats 2000000 in
theorem RSend_w {cur a : Lab} {c : Int} {r : Bool} {w : World} (hc : cur.fits) (ha : a.fits) (h : sendL cur a = (c, r)) (hs : Ce w) :
    Calls Tryd.prog 15 #[.agg #[.int .i64 cur.l, .int .u64 cur.c, .int .i64 cur.i], .agg #[.int .i64 a.l, .int .u64 a.c, .int .i64 a.i]] w (BeP c r w) := by
  obtain ⟨hB, h1, h2⟩ := two_boxes w cur a
  have e1 := neqW cur a
  have HB := Lib.hid (And.intro hB (And.intro h1 (And.intro h2 (hs.more hB))))
  have HF := Lib.hid (And.intro hc ha)
  obtain ⟨q0, q1, q2⟩ := h1.lab
  cases hr : cur.right with
  | false =>
    rw [sendL_bad (by rw [hr]; rfl)] at h
    obtain ⟨rfl, rfl⟩ := Prod.mk.inj h
    have HC := Lib.hid (fun W => RRight_w (w := W) hr)
    clear hB h1 h2 hs hr h hc ha e1
    go_enter Tryd.func15, Tryd.ntmps15
    go_wp2_with (go_at_call 32; refine (HC.out _).mono ?_)
    rintro e w1 ⟨rfl, hb1⟩
    have HB1 := Lib.hid (below_more HB.out.1 hb1)
    clear hb1
    go_wp2
    refine bodyPost_ret (results_tmp2 rfl _ _ _) rfl ⟨rfl, HB1.out⟩
  | true =>
    have HC := Lib.hid (fun W => RRight_w (w := W) hr)
    cases hr2 : a.right with
    | false =>
      rw [sendL_bad (by rw [hr2, Bool.and_false])] at h
      obtain ⟨rfl, rfl⟩ := Prod.mk.inj h
      have HC2 := Lib.hid (fun W => RRight_w (w := W) hr2)
      clear hB h1 h2 hs hr hr2 h hc ha e1
      go_enter Tryd.func15, Tryd.ntmps15
      go_wp2_with (go_at_call 32; refine (HC.out _).mono ?_)
      rintro e w1 ⟨rfl, hb1⟩
      have HB1 := Lib.hid (below_more HB.out.1 hb1)
      obtain ⟨r0, r1, r2⟩ := (HB.out.2.2.1.more hb1).lab
      clear hb1 q0 q1 q2
      go_wp2_with (go_at_call 32; refine (HC2.out _).mono ?_)
      rintro e w2 ⟨rfl, hb2⟩
      have HB2 := Lib.hid (below_more HB1.out hb2)
      clear hb2
      go_wp2
      refine bodyPost_ret (results_tmp2 rfl _ _ _) rfl ⟨rfl, HB2.out⟩
    | true =>
      have HC2 := Lib.hid (fun W => RRight_w (w := W) hr2)
      have hrr : (cur.right && a.right) = true := by rw [hr, hr2]; rfl
      cases hu : cur.under a with
      | false =>
        rw [sendL_down hrr hu] at h
        obtain ⟨rfl, rfl⟩ := Prod.mk.inj h
        have HU := Lib.hid hu
        clear hB h1 h2 hs hr hr2 h hc ha e1 hu hrr
        go_enter Tryd.func15, Tryd.ntmps15
        go_wp2_with (go_at_call 32; refine (HC.out _).mono ?_)
        rintro e w1 ⟨rfl, hb1⟩
        have HB1 := Lib.hid (And.intro (below_more HB.out.1 hb1) (And.intro (HB.out.2.1.more hb1) (And.intro (HB.out.2.2.1.more hb1) (HB.out.2.2.2.more hb1))))
        obtain ⟨r0, r1, r2⟩ := HB1.out.2.2.1.lab
        clear hb1 q0 q1 q2
        go_wp2_with (go_at_call 32; refine (HC2.out _).mono ?_)
        rintro e w2 ⟨rfl, hb2⟩
        have HB2 := Lib.hid (And.intro (below_more HB1.out.1 hb2) (And.intro (HB1.out.2.1.more hb2) (And.intro (HB1.out.2.2.1.more hb2) (HB1.out.2.2.2.more hb2))))
        obtain ⟨p0, p1, p2⟩ := HB2.out.2.1.lab
        obtain ⟨s0, s1, s2⟩ := HB2.out.2.2.1.lab
        clear hb2 r0 r1 r2
        go_wp2_with (go_at_call 33; refine (RUnder_w HF.out.1 HF.out.2 HU.out HB2.out.2.2.2).mono ?_)
        rintro e w3 ⟨rfl, hb3⟩
        have HB3 := Lib.hid (And.intro (below_more HB2.out.1 hb3) (And.intro (HB2.out.2.1.more hb3) (HB2.out.2.2.1.more hb3)))
        clear hb3
        go_wp2
        refine bodyPost_ret (results_tmp2 rfl _ _ _) rfl ⟨rfl, HB3.out.1⟩
      | true =>
        rw [sendL_ok hrr hu] at h
        obtain ⟨rfl, hrb⟩ := Prod.mk.inj h
        rw [hrb] at e1
        have HU := Lib.hid hu
        clear hB h1 h2 hs hr hr2 h hc ha hu hrr hrb
        go_enter Tryd.func15, Tryd.ntmps15
        go_wp2_with (go_at_call 32; refine (HC.out _).mono ?_)
        rintro e w1 ⟨rfl, hb1⟩
        have HB1 := Lib.hid (And.intro (below_more HB.out.1 hb1) (And.intro (HB.out.2.1.more hb1) (And.intro (HB.out.2.2.1.more hb1) (HB.out.2.2.2.more hb1))))
        obtain ⟨r0, r1, r2⟩ := HB1.out.2.2.1.lab
        clear hb1 q0 q1 q2
        go_wp2_with (go_at_call 32; refine (HC2.out _).mono ?_)
        rintro e w2 ⟨rfl, hb2⟩
        have HB2 := Lib.hid (And.intro (below_more HB1.out.1 hb2) (And.intro (HB1.out.2.1.more hb2) (And.intro (HB1.out.2.2.1.more hb2) (HB1.out.2.2.2.more hb2))))
        obtain ⟨p0, p1, p2⟩ := HB2.out.2.1.lab
        obtain ⟨s0, s1, s2⟩ := HB2.out.2.2.1.lab
        clear hb2 r0 r1 r2
        go_wp2_with (go_at_call 33; refine (RUnder_w HF.out.1 HF.out.2 HU.out HB2.out.2.2.2).mono ?_)
        rintro e w3 ⟨rfl, hb3⟩
        have HB3 := Lib.hid (And.intro (below_more HB2.out.1 hb3) (And.intro (HB2.out.2.1.more hb3) (HB2.out.2.2.1.more hb3)))
        clear hb3
        obtain ⟨u0, u1, u2⟩ := HB3.out.2.1.lab
        obtain ⟨v0, v1, v2⟩ := HB3.out.2.2.lab
        clear p0 p1 p2 s0 s1 s2
        go_wp2
        refine bodyPost_ret (results_tmp2 rfl _ _ _) rfl ⟨rfl, HB3.out.1⟩

end Go.Proofs.YtciohfeifihobaaDoor
