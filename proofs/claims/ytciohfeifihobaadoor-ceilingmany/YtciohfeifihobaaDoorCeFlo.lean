/- Reads, Writes, Send. -/
import Derived.Test.YtciohfeifihobaaDoorCeFace
import Derived.Test.YtciohfeifihobaaDoorCeJudge
import Derived.Test.YtciohfeifihobaaDoorCeTold
import Derived.Test.YtciohfeifihobaaDoorCeRef
namespace Go.Proofs.YtciohfeifihobaaDoor
open Go.RowKit Go.Proofs.Cats Go.Proofs.Cel Go.Shelf Go.Sort

/-- A floater, a label, each in a block of its own. -/
structure Fa (w W : World) (cur a : Lab) : Prop where
  b : Below w.heap.size w W
  c : BoxF W w.heap.size cur
  a : BoxL W (w.heap.size + 1) a
theorem Fa.more {w W W' : World} {cur a : Lab} (k : Fa w W cur a) (hb : Below W.heap.size W W') : Fa w W' cur a := ⟨below_more k.b hb, k.c.more hb, k.a.more hb⟩
theorem Fa.of (w : World) (cur a : Lab) : Fa w ((w.alloc (.cells #[.int .i64 cur.l, .int .u64 cur.c, .int .i64 cur.i] 42)).alloc (.cells #[.int .i64 a.l, .int .u64 a.c, .int .i64 a.i] 24)) cur a := by
  refine ⟨(Below.new w _).alloc (by simp) _, (BoxF.new w cur).more (Below.new _ _), ?_⟩
  have := BoxL.new (w.alloc (.cells #[.int .i64 cur.l, .int .u64 cur.c, .int .i64 cur.i] 42)) a
  rwa [World.size_alloc] at this
/-- Two labels, each in a block of its own. -/
structure La (w W : World) (cur a : Lab) : Prop where
  b : Below w.heap.size w W
  c : BoxL W w.heap.size cur
  a : BoxL W (w.heap.size + 1) a
theorem La.more {w W W' : World} {cur a : Lab} (k : La w W cur a) (hb : Below W.heap.size W W') : La w W' cur a := ⟨below_more k.b hb, k.c.more hb, k.a.more hb⟩
theorem La.of (w : World) (cur a : Lab) : La w ((w.alloc (.cells #[.int .i64 cur.l, .int .u64 cur.c, .int .i64 cur.i] 24)).alloc (.cells #[.int .i64 a.l, .int .u64 a.c, .int .i64 a.i] 24)) cur a := by
  obtain ⟨h, h1, h2⟩ := two_boxes w cur a
  exact ⟨h, h1, h2⟩
theorem labs_pr (W : World) {a b : Lab} (ha : a.fits) (hb : b.fits) : Labs (W.alloc (.cells #[.int .i64 a.l, .int .u64 a.c, .int .i64 a.i, .int .i64 b.l, .int .u64 b.c, .int .i64 b.i] 24)).heap.size (W.alloc (.cells #[.int .i64 a.l, .int .u64 a.c, .int .i64 a.i, .int .i64 b.l, .int .u64 b.c, .int .i64 b.i] 24)) (.slice (some ⟨W.heap.size, 0, none⟩) 2 2) [a, b] := by
  refine ⟨_, _, rfl, fun _ => ⟨W.heap.size, 0, rfl, by rw [World.size_alloc]; omega, fun j x hj => ?_⟩⟩
  cases j with
  | zero =>
    obtain rfl : a = x := Option.some.inj hj
    exact ⟨ha, by simp, by simp, by simp⟩
  | succ j =>
    cases j with
    | zero =>
      obtain rfl : b = x := Option.some.inj hj
      exact ⟨hb, by simp, by simp, by simp⟩
    | succ j =>
      cases hj
/-- judge at two labels. -/
theorem judge2_w {s : Sn} {a b : Lab} {r : Bool} {W : World} {Z : Nat} (hZ : W.heap.size = Z) (ha : a.fits) (hb : b.fits) (hr : (a.right && b.right) = r) (hs : Sent s W) :
    Calls Tryd.prog 44 #[.slice (some ⟨Z, 0, none⟩) 2 2] (W.alloc (.cells #[.int .i64 a.l, .int .u64 a.c, .int .i64 a.i, .int .i64 b.l, .int .u64 b.c, .int .i64 b.i] 24)) fun e w' => e = .returned (judgeV s r) ∧ Below W.heap.size W w' := by
  subst hZ
  refine (judgeC_any (s := s) (labs_pr W ha hb) (by simp) (b := r) (by simpa using hr) (hs.more (Below.new _ _))).mono ?_
  rintro e w' ⟨he, h⟩
  exact ⟨he, below_more (Below.new _ _) h⟩
theorem same_flip (a b : Lab) : a.same b = b.same a := by rw [Bool.eq_iff_iff, Lab.same_iff, Lab.same_iff]; exact eq_comm
/-- A truth and an error are told; a label and an error. -/
def BvP (s : Sn) (c : Int) (b : Bool) (w : World) (e : Ending) (w' : World) : Prop := (∃ v, ErrIs s v c ∧ e = .returned (.tuple #[.bool b, v])) ∧ Below w.heap.size w w'
def LvP (s : Sn) (c : Int) (x : Lab) (w : World) (e : Ending) (w' : World) : Prop := (∃ v, ErrIs s v c ∧ e = .returned (.tuple #[.agg #[.int .i64 x.l, .int .u64 x.c, .int .i64 x.i], v])) ∧ Below w.heap.size w w'

set_option maxHeartbeats 1000000 in
theorem floReads_w {cur a : Lab} {r : Bool} {w : World} (hc : cur.fits) (ha : a.fits) (h : readsL cur a = r) :
    Calls Tryd.prog 37 #[.agg #[.int .i64 cur.l, .int .u64 cur.c, .int .i64 cur.i], .agg #[.int .i64 a.l, .int .u64 a.c, .int .i64 a.i]] w (BoolP r w) := by
  have HB := Lib.hid (Fa.of w cur a)
  have HC := Lib.hid (fun W => Under_w (w := W) ha hc h)
  clear hc ha h
  go_enter Tryd.func37, Tryd.ntmps37
  go_wp2_with (go_at_call 24; refine (HC.out _).mono ?_)
  rintro e w1 ⟨rfl, hb1⟩
  have HB1 := Lib.hid (HB.out.more hb1)
  clear hb1
  go_wp2
  go_ret
  exact ⟨rfl, HB1.out.b⟩

set_option maxHeartbeats 1000000 in
theorem floWrites_w {cur a : Lab} {r : Bool} {w : World} (ha : a.fits) (h : writesL cur a = r) :
    Calls Tryd.prog 38 #[.agg #[.int .i64 cur.l, .int .u64 cur.c, .int .i64 cur.i], .agg #[.int .i64 a.l, .int .u64 a.c, .int .i64 a.i]] w (BoolP r w) := by
  have HB := Lib.hid (Fa.of w cur a)
  have e1 := eqL cur a
  have e2 := eqInL cur a
  rw [same_flip] at e1 e2
  unfold writesL at h
  cases hr : a.right with
  | false =>
    have HC := Lib.hid (fun W => GRight_w (w := W) ha hr)
    rw [hr] at h
    have HR := Lib.hid h
    clear h hr ha e1 e2
    go_enter Tryd.func38, Tryd.ntmps38
    go_wp2_with (go_at_call 40; refine (HC.out _).mono ?_)
    rintro e w1 ⟨rfl, hb1⟩
    have HB1 := Lib.hid (HB.out.more hb1)
    clear hb1
    go_wp2
    go_ret
    exact ⟨by rw [← HR.out]; rfl, HB1.out.b⟩
  | true =>
    have HC := Lib.hid (fun W => GRight_w (w := W) ha hr)
    rw [hr, Bool.true_and] at h
    rw [h] at e1 e2
    clear h hr ha
    go_enter Tryd.func38, Tryd.ntmps38
    go_wp2_with (go_at_call 40; refine (HC.out _).mono ?_)
    rintro e w1 ⟨rfl, hb1⟩
    have HB1 := Lib.hid (HB.out.more hb1)
    obtain ⟨p0, p1, p2⟩ := HB1.out.c.lab
    obtain ⟨q0, q1, q2⟩ := HB1.out.a.lab
    clear hb1
    go_wp2
    go_ret
    exact ⟨rfl, HB1.out.b⟩

set_option maxHeartbeats 1000000 in
theorem GReads_w {cur a : Lab} {r : Bool} {w : World} (hc : cur.fits) (ha : a.fits) (h : readsL cur a = r) :
    Calls Tryd.prog 18 #[.agg #[.int .i64 cur.l, .int .u64 cur.c, .int .i64 cur.i], .agg #[.int .i64 a.l, .int .u64 a.c, .int .i64 a.i]] w (BoolP r w) := by
  have HB := Lib.hid (La.of w cur a)
  have HC := Lib.hid (fun W (_ : Below w.heap.size w W) => floReads_w (w := W) hc ha h)
  clear hc ha h
  go_enter Tryd.func18, Tryd.ntmps18
  go_wp2_with (go_at_call 37; refine (HC.out _ HB.out.b).mono ?_)
  rintro e w1 ⟨rfl, hb1⟩
  have HB1 := Lib.hid (HB.out.more hb1)
  clear hb1
  go_wp2
  go_ret
  exact ⟨rfl, HB1.out.b⟩

set_option maxHeartbeats 1000000 in
theorem GWrites_w {cur a : Lab} {r : Bool} {w : World} (ha : a.fits) (h : writesL cur a = r) :
    Calls Tryd.prog 20 #[.agg #[.int .i64 cur.l, .int .u64 cur.c, .int .i64 cur.i], .agg #[.int .i64 a.l, .int .u64 a.c, .int .i64 a.i]] w (BoolP r w) := by
  have HB := Lib.hid (La.of w cur a)
  have HC := Lib.hid (fun W (_ : Below w.heap.size w W) => floWrites_w (w := W) ha h)
  clear ha h
  go_enter Tryd.func20, Tryd.ntmps20
  go_wp2_with (go_at_call 38; refine (HC.out _ HB.out.b).mono ?_)
  rintro e w1 ⟨rfl, hb1⟩
  have HB1 := Lib.hid (HB.out.more hb1)
  clear hb1
  go_wp2
  go_ret
  exact ⟨rfl, HB1.out.b⟩

set_option maxHeartbeats 2000000 in
theorem floSend_0 {s : Sn} {cur a : Lab} {w : World} (hc : cur.fits) (ha : a.fits) (hs : Sent s w) (hr : (cur.right && a.right) = false) :
    Calls Tryd.prog 34 #[.agg #[.int .i64 cur.l, .int .u64 cur.c, .int .i64 cur.i], .agg #[.int .i64 a.l, .int .u64 a.c, .int .i64 a.i]] w (BvP s 20 false w) := by
  have HB := Lib.hid (Fa.of w cur a)
  have HS := Lib.hid (hs.more HB.out.b)
  have HJ := Lib.hid (judge2_w (s := s) (W := (w.alloc (.cells #[.int .i64 cur.l, .int .u64 cur.c, .int .i64 cur.i] 42)).alloc (.cells #[.int .i64 a.l, .int .u64 a.c, .int .i64 a.i] 24)) (Z := w.heap.size + 1 + 1) (by simp) hc ha hr HS.out)
  clear hc ha hs hr
  go_enter Tryd.func34, Tryd.ntmps34
  go_wp2_with (go_at_call 44; refine HJ.out.mono ?_)
  rintro e w1 ⟨rfl, hb1⟩
  have HB1 := Lib.hid (HB.out.more hb1)
  have HS1 := Lib.hid (HS.out.more hb1)
  clear hb1
  have hv : judgeV s false = .iface 116 (.pointer (some s.n)) := rfl
  rw [hv]
  go_wp2
  refine bodyPost_ret (results_tmp2 rfl _ _ _) rfl ⟨⟨_, ErrIs.none, rfl⟩, HB1.out.b⟩

set_option maxHeartbeats 2000000 in
theorem floSend_d {s : Sn} {cur a : Lab} {w : World} (hc : cur.fits) (ha : a.fits) (hs : Sent s w) (hr : (cur.right && a.right) = true) (hu : cur.under a = false) :
    Calls Tryd.prog 34 #[.agg #[.int .i64 cur.l, .int .u64 cur.c, .int .i64 cur.i], .agg #[.int .i64 a.l, .int .u64 a.c, .int .i64 a.i]] w (BvP s 121 false w) := by
  have HB := Lib.hid (Fa.of w cur a)
  have HS := Lib.hid (hs.more HB.out.b)
  have HJ := Lib.hid (judge2_w (s := s) (W := (w.alloc (.cells #[.int .i64 cur.l, .int .u64 cur.c, .int .i64 cur.i] 42)).alloc (.cells #[.int .i64 a.l, .int .u64 a.c, .int .i64 a.i] 24)) (Z := w.heap.size + 1 + 1) (by simp) hc ha hr HS.out)
  have HU := Lib.hid (fun W => Under_w (w := W) hc ha hu)
  clear hc ha hs hr hu
  go_enter Tryd.func34, Tryd.ntmps34
  go_wp2_with (go_at_call 44; refine HJ.out.mono ?_)
  rintro e w1 ⟨rfl, hb1⟩
  have HB1 := Lib.hid (HB.out.more hb1)
  have HS1 := Lib.hid (HS.out.more hb1)
  clear hb1
  have hv : judgeV s true = .nilIface := rfl
  rw [hv]
  obtain ⟨p0, p1, p2⟩ := HB1.out.c.lab
  obtain ⟨q0, q1, q2⟩ := HB1.out.a.lab
  go_wp2_with (go_at_call 24; refine (HU.out _).mono ?_)
  rintro e w2 ⟨rfl, hb2⟩
  have HB2 := Lib.hid (HB1.out.more hb2)
  have HS2 := Lib.hid (HS1.out.more hb2)
  clear hb2 p0 p1 p2 q0 q1 q2
  obtain ⟨p0, p1, p2⟩ := HB2.out.c.lab
  have g0 := HS2.out.cd
  go_wp2
  go_quiet (fail)
  go_wp2
  refine bodyPost_ret (results_tmp2 rfl _ _ _) rfl ⟨⟨_, ErrIs.down cur 0, rfl⟩, below_drewN HB2.out.b _⟩

set_option maxHeartbeats 2000000 in
theorem floSend_y {s : Sn} {cur a : Lab} {w : World} (hc : cur.fits) (ha : a.fits) (hs : Sent s w) (hr : (cur.right && a.right) = true) (hu : cur.under a = true) :
    Calls Tryd.prog 34 #[.agg #[.int .i64 cur.l, .int .u64 cur.c, .int .i64 cur.i], .agg #[.int .i64 a.l, .int .u64 a.c, .int .i64 a.i]] w (BvP s 0 (!(cur.same a)) w) := by
  have HB := Lib.hid (Fa.of w cur a)
  have HS := Lib.hid (hs.more HB.out.b)
  have HJ := Lib.hid (judge2_w (s := s) (W := (w.alloc (.cells #[.int .i64 cur.l, .int .u64 cur.c, .int .i64 cur.i] 42)).alloc (.cells #[.int .i64 a.l, .int .u64 a.c, .int .i64 a.i] 24)) (Z := w.heap.size + 1 + 1) (by simp) hc ha hr HS.out)
  have HU := Lib.hid (fun W => Under_w (w := W) hc ha hu)
  have e1 := neqW cur a
  clear hc ha hs hr hu
  go_enter Tryd.func34, Tryd.ntmps34
  go_wp2_with (go_at_call 44; refine HJ.out.mono ?_)
  rintro e w1 ⟨rfl, hb1⟩
  have HB1 := Lib.hid (HB.out.more hb1)
  have HS1 := Lib.hid (HS.out.more hb1)
  clear hb1
  have hv : judgeV s true = .nilIface := rfl
  rw [hv]
  obtain ⟨p0, p1, p2⟩ := HB1.out.c.lab
  obtain ⟨q0, q1, q2⟩ := HB1.out.a.lab
  go_wp2_with (go_at_call 24; refine (HU.out _).mono ?_)
  rintro e w2 ⟨rfl, hb2⟩
  have HB2 := Lib.hid (HB1.out.more hb2)
  have HS2 := Lib.hid (HS1.out.more hb2)
  clear hb2 p0 p1 p2 q0 q1 q2
  obtain ⟨p0, p1, p2⟩ := HB2.out.c.lab
  obtain ⟨q0, q1, q2⟩ := HB2.out.a.lab
  go_wp2
  refine bodyPost_ret (results_tmp2 rfl _ _ _) rfl ⟨⟨_, ErrIs.ok, rfl⟩, HB2.out.b⟩

theorem floSend_w {s : Sn} {cur a : Lab} {c : Int} {r : Bool} {w : World} (hc : cur.fits) (ha : a.fits) (h : sendL cur a = (c, r)) (hs : Sent s w) :
    Calls Tryd.prog 34 #[.agg #[.int .i64 cur.l, .int .u64 cur.c, .int .i64 cur.i], .agg #[.int .i64 a.l, .int .u64 a.c, .int .i64 a.i]] w (BvP s c r w) := by
  cases hr : (cur.right && a.right) with
  | false =>
    rw [sendL_bad hr] at h
    obtain ⟨rfl, rfl⟩ := Prod.mk.inj h
    exact floSend_0 hc ha hs hr
  | true =>
    cases hu : cur.under a with
    | false =>
      rw [sendL_down hr hu] at h
      obtain ⟨rfl, rfl⟩ := Prod.mk.inj h
      exact floSend_d hc ha hs hr hu
    | true =>
      rw [sendL_ok hr hu] at h
      obtain ⟨rfl, rfl⟩ := Prod.mk.inj h
      exact floSend_y hc ha hs hr hu
set_option maxHeartbeats 1000000 in
theorem GSend_w {cur a : Lab} {c : Int} {r : Bool} {w : World} (hc : cur.fits) (ha : a.fits) (h : sendL cur a = (c, r)) (hs : Ce w) :
    Calls Tryd.prog 14 #[.agg #[.int .i64 cur.l, .int .u64 cur.c, .int .i64 cur.i], .agg #[.int .i64 a.l, .int .u64 a.c, .int .i64 a.i]] w (BeP c r w) := by
  obtain ⟨s, hS⟩ := hs.sn
  have HB := Lib.hid (La.of w cur a)
  have HS := Lib.hid (hS.more HB.out.b)
  have HC := Lib.hid (fun W (hw : Sent s W) => floSend_w (w := W) hc ha h hw)
  clear hc ha h hs hS
  go_enter Tryd.func14, Tryd.ntmps14
  go_wp2_with (go_at_call 34; refine (HC.out _ HS.out).mono ?_)
  rintro e w1 ⟨⟨v, hv, rfl⟩, hb1⟩
  have HB1 := Lib.hid (HB.out.more hb1)
  have HS1 := Lib.hid (HS.out.more hb1)
  have HV := Lib.hid hv
  clear hb1 hv
  go_wp2_with (go_at_call 30; refine (told_any HV.out HS1.out).mono ?_)
  rintro e w2 ⟨rfl, hb2⟩
  have HB2 := Lib.hid (HB1.out.more hb2)
  clear hb2
  go_wp2
  refine bodyPost_ret (results_tmp2 rfl _ _ _) rfl ⟨rfl, HB2.out.b⟩
end Go.Proofs.YtciohfeifihobaaDoor
