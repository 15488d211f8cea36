/- float; Float, Path; the six calls together. -/
import Derived.Test.YtciohfeifihobaaDoorCeClimb
import Derived.Test.YtciohfeifihobaaDoorCeGainT
namespace Go.Proofs.Cel
open Go.Proofs.Cats Go.Proofs.YtciohfeifihobaaDoor
theorem pathGo_one {high cur a : Lab} : pathGo high cur 0 [a] = if (cur.join a).under high = true then (0, 1, cur.join a) else (120, 0, cur) := by
  cases h : (cur.join a).under high with
  | true => rw [pathGo_step h]; rfl
  | false => rw [pathGo_stop h]; rfl
/-- Float is Path by one label. -/
theorem path_one {cur a high x : Lab} {c : Int} (h : floatL cur a high = (c, x)) : (c = 0 ∧ pathL cur [a] high = (0, 1, x)) ∨ (c = 20 ∧ x = Lab.zero ∧ pathL cur [a] high = (20, 0, Lab.zero)) ∨ (c = 120 ∧ x = Lab.zero ∧ pathL cur [a] high = (120, 0, cur)) := by
  cases hr : (cur.right && a.right && high.right) with
  | false =>
    rw [float_bad hr] at h
    obtain ⟨rfl, rfl⟩ := Prod.mk.inj h
    refine .inr (.inl ⟨rfl, rfl, path_bad ?_⟩)
    rw [← hr]
    simp only [List.all_cons, List.all_nil, Bool.and_true]
    cases cur.right <;> cases a.right <;> cases high.right <;> rfl
  | true =>
    have hp : (cur.right && high.right && [a].all Lab.right) = true := by
      rw [← hr]
      simp only [List.all_cons, List.all_nil, Bool.and_true]
      cases cur.right <;> cases a.right <;> cases high.right <;> rfl
    cases hu : (cur.join a).under high with
    | false =>
      rw [float_high hr hu] at h
      obtain ⟨rfl, rfl⟩ := Prod.mk.inj h
      exact .inr (.inr ⟨rfl, rfl, by rw [path_ok hp, pathGo_one, if_neg (by simp [hu])]⟩)
    | true =>
      rw [float_ok hr hu] at h
      obtain ⟨rfl, rfl⟩ := Prod.mk.inj h
      exact .inl ⟨rfl, by rw [path_ok hp, pathGo_one, if_pos hu]⟩
end Go.Proofs.Cel
namespace Go.Proofs.YtciohfeifihobaaDoor
open Go.RowKit Go.Proofs.Cats Go.Proofs.Cel Go.Shelf Go.Sort

/-- What float tells of what stops one. -/
def errF (s : Sn) (c : Int) (m : Nat) (x : Lab) : Value := if c = 20 then errV s.n else if c = 0 then .nilIface else stopV x m s.a
def FlP (s : Sn) (c : Int) (m : Nat) (x : Lab) (w : World) (e : Ending) (w' : World) : Prop := e = .returned (.tuple #[.agg #[.int .i64 x.l, .int .u64 x.c, .int .i64 x.i], errF s c m x]) ∧ Below w.heap.size w w'
/-- A climber, the answer's room. -/
structure Fc (w W : World) (cur high : Lab) : Prop where
  b : Below w.heap.size w W
  c : BoxC W w.heap.size cur high
  r : BoxF W (w.heap.size + 1) Lab.zero
theorem Fc.more {w W W' : World} {cur high : Lab} (k : Fc w W cur high) (hb : Below W.heap.size W W') : Fc w W' cur high := ⟨below_more k.b hb, k.c.more hb, k.r.more hb⟩
theorem Fc.of (w : World) (cur high : Lab) : Fc w ((w.alloc (.cells #[.int .i64 cur.l, .int .u64 cur.c, .int .i64 cur.i, .int .i64 high.l, .int .u64 high.c, .int .i64 high.i] 47)).alloc (.cells #[.int .i64 0, .int .u64 0, .int .i64 0] 42)) cur high := by
  refine ⟨(Below.new w _).alloc (by simp) _, (BoxC.new w cur high).more (Below.new _ _), ?_⟩
  have := boxF_zero (w.alloc (.cells #[.int .i64 cur.l, .int .u64 cur.c, .int .i64 cur.i, .int .i64 high.l, .int .u64 high.c, .int .i64 high.i] 47))
  rwa [World.size_alloc] at this

set_option maxRecDepth 100000 in
set_option maxHeartbeats 4000000 in
theorem float_0 {s : Sn} {cur high : Lab} {zs : List Lab} {ao : Option Addr} {len cap : Nat} {w : World} (hc : cur.fits) (hh : high.fits) (hI : Labs w.heap.size w (.slice ao len cap) zs) (hz : zs.length ≤ 1000) (hs : Ce w) (hS : Sent s w) (hr : (cur.right && high.right) = false) :
    Calls Tryd.prog 29 #[.agg #[.int .i64 cur.l, .int .u64 cur.c, .int .i64 cur.i, .int .i64 high.l, .int .u64 high.c, .int .i64 high.i], .slice ao len cap] w (FlP s 20 0 Lab.zero w) := by
  have HB := Lib.hid (Fc.of w cur high)
  have HE := Lib.hid (And.intro (hs.more HB.out.b) (hS.more HB.out.b))
  have HJ := Lib.hid (judge2_w (s := s) (W := ((w.alloc (.cells #[.int .i64 cur.l, .int .u64 cur.c, .int .i64 cur.i, .int .i64 high.l, .int .u64 high.c, .int .i64 high.i] 47)).alloc (.cells #[.int .i64 0, .int .u64 0, .int .i64 0] 42))) (Z := w.heap.size + 1 + 1) (by simp) hc hh hr HE.out.2)
  have HL := Lib.hid (And.intro ((hI.below HB.out.b).mono HB.out.b.size) (And.intro hz (And.intro hc hh)))
  clear hc hh hI hz hs hS hr
  go_enter Tryd.func29, Tryd.ntmps29
  go_wp2_with (go_at_call 44; refine HJ.out.mono ?_)
  rintro e w1 ⟨rfl, hb1⟩
  have HB1 := Lib.hid (HB.out.more hb1)
  have HE1 := Lib.hid (And.intro (HE.out.1.more hb1) (HE.out.2.more hb1))
  have HI1 := Lib.hid ((HL.out.1.below hb1).mono hb1.size)
  clear hb1
  have hv : judgeV s false = .iface 116 (.pointer (some s.n)) := rfl
  rw [hv]
  obtain ⟨z0, z1, z2⟩ := HB1.out.r.lab
  obtain ⟨fz0, fz1, fz2⟩ := HB1.out.r.frozen
  go_wp2
  have HU := Lib.hid (show Below w.heap.size w (((w1.setCell ⟨w.heap.size + 1, 0, none⟩ (.int .i64 0)).setCell ⟨w.heap.size + 1, 1, none⟩ (.int .u64 0)).setCell ⟨w.heap.size + 1, 2, none⟩ (.int .i64 0)) ∧ BoxF (((w1.setCell ⟨w.heap.size + 1, 0, none⟩ (.int .i64 0)).setCell ⟨w.heap.size + 1, 1, none⟩ (.int .u64 0)).setCell ⟨w.heap.size + 1, 2, none⟩ (.int .i64 0)) (w.heap.size + 1) Lab.zero from ⟨below_set3 HB1.out.b (by omega) _ _ _, HB1.out.r.set Lab.zero⟩)
  obtain ⟨c0, c1, c2⟩ := HU.out.2.lab
  have hbf := HU.out.1
  clear HU z0 z1 z2 fz0 fz1 fz2
  refine bodyPost_ret (v := .tuple #[.agg #[.int .i64 0, .int .u64 0, .int .i64 0], .iface 116 (.pointer (some s.n))]) ?_ rfl ⟨rfl, hbf⟩
  clear hbf
  generalize ((w1.setCell ⟨w.heap.size + 1, 0, none⟩ (.int .i64 0)).setCell ⟨w.heap.size + 1, 1, none⟩ (.int .u64 0)).setCell ⟨w.heap.size + 1, 2, none⟩ (.int .i64 0) = WF at c0 c1 c2 ⊢
  simp [results, Tryd.results29, go_sem, c0, c1, c2, Lab.zero]

set_option maxRecDepth 100000 in
set_option maxHeartbeats 4000000 in
theorem float_1 {s : Sn} {cur high : Lab} {zs : List Lab} {ao : Option Addr} {len cap : Nat} {w : World} (hc : cur.fits) (hh : high.fits) (hI : Labs w.heap.size w (.slice ao len cap) zs) (hz : zs.length ≤ 1000) (hs : Ce w) (hS : Sent s w) (hr : (cur.right && high.right) = true) (hr2 : zs.all Lab.right = false) :
    Calls Tryd.prog 29 #[.agg #[.int .i64 cur.l, .int .u64 cur.c, .int .i64 cur.i, .int .i64 high.l, .int .u64 high.c, .int .i64 high.i], .slice ao len cap] w (FlP s 20 0 Lab.zero w) := by
  have HB := Lib.hid (Fc.of w cur high)
  have HE := Lib.hid (And.intro (hs.more HB.out.b) (hS.more HB.out.b))
  have HJ := Lib.hid (judge2_w (s := s) (W := ((w.alloc (.cells #[.int .i64 cur.l, .int .u64 cur.c, .int .i64 cur.i, .int .i64 high.l, .int .u64 high.c, .int .i64 high.i] 47)).alloc (.cells #[.int .i64 0, .int .u64 0, .int .i64 0] 42))) (Z := w.heap.size + 1 + 1) (by simp) hc hh hr HE.out.2)
  have HL := Lib.hid (And.intro ((hI.below HB.out.b).mono HB.out.b.size) (And.intro hz (And.intro hc hh)))
  have HR := Lib.hid hr2
  clear hc hh hI hz hs hS hr hr2
  go_enter Tryd.func29, Tryd.ntmps29
  go_wp2_with (go_at_call 44; refine HJ.out.mono ?_)
  rintro e w1 ⟨rfl, hb1⟩
  have HB1 := Lib.hid (HB.out.more hb1)
  have HE1 := Lib.hid (And.intro (HE.out.1.more hb1) (HE.out.2.more hb1))
  have HI1 := Lib.hid ((HL.out.1.below hb1).mono hb1.size)
  clear hb1
  have hv : judgeV s true = .nilIface := rfl
  rw [hv]
  go_wp2_with (go_at_call 44; refine (judgeC_any HI1.out HL.out.2.1 HR.out HE1.out.2).mono ?_)
  rintro e w2 ⟨rfl, hb2⟩
  have HB2 := Lib.hid (HB1.out.more hb2)
  have HE2 := Lib.hid (And.intro (HE1.out.1.more hb2) (HE1.out.2.more hb2))
  have HI2 := Lib.hid ((HI1.out.below hb2).mono hb2.size)
  clear hb2
  have hv2 : judgeV s false = .iface 116 (.pointer (some s.n)) := rfl
  rw [hv2]
  obtain ⟨z0, z1, z2⟩ := HB2.out.r.lab
  obtain ⟨fz0, fz1, fz2⟩ := HB2.out.r.frozen
  go_wp2
  have HU := Lib.hid (show Below w.heap.size w (((w2.setCell ⟨w.heap.size + 1, 0, none⟩ (.int .i64 0)).setCell ⟨w.heap.size + 1, 1, none⟩ (.int .u64 0)).setCell ⟨w.heap.size + 1, 2, none⟩ (.int .i64 0)) ∧ BoxF (((w2.setCell ⟨w.heap.size + 1, 0, none⟩ (.int .i64 0)).setCell ⟨w.heap.size + 1, 1, none⟩ (.int .u64 0)).setCell ⟨w.heap.size + 1, 2, none⟩ (.int .i64 0)) (w.heap.size + 1) Lab.zero from ⟨below_set3 HB2.out.b (by omega) _ _ _, HB2.out.r.set Lab.zero⟩)
  obtain ⟨c0, c1, c2⟩ := HU.out.2.lab
  have hbf := HU.out.1
  clear HU z0 z1 z2 fz0 fz1 fz2
  refine bodyPost_ret (v := .tuple #[.agg #[.int .i64 0, .int .u64 0, .int .i64 0], .iface 116 (.pointer (some s.n))]) ?_ rfl ⟨rfl, hbf⟩
  clear hbf
  generalize ((w2.setCell ⟨w.heap.size + 1, 0, none⟩ (.int .i64 0)).setCell ⟨w.heap.size + 1, 1, none⟩ (.int .u64 0)).setCell ⟨w.heap.size + 1, 2, none⟩ (.int .i64 0) = WF at c0 c1 c2 ⊢
  simp [results, Tryd.results29, go_sem, c0, c1, c2, Lab.zero]

set_option maxRecDepth 100000 in
set_option maxHeartbeats 4000000 in
theorem float_y {s : Sn} {cur high x : Lab} {zs : List Lab} {ao : Option Addr} {len cap : Nat} {c : Int} {m : Nat} {w : World} (hc : cur.fits) (hh : high.fits) (hI : Labs w.heap.size w (.slice ao len cap) zs) (hz : zs.length ≤ 1000) (hs : Ce w) (hS : Sent s w) (hr : (cur.right && high.right) = true) (hr2 : zs.all Lab.right = true) (hp : pathGo high cur 0 zs = (c, m, x)) :
    Calls Tryd.prog 29 #[.agg #[.int .i64 cur.l, .int .u64 cur.c, .int .i64 cur.i, .int .i64 high.l, .int .u64 high.c, .int .i64 high.i], .slice ao len cap] w (FlP s c m x w) := by
  have HB := Lib.hid (Fc.of w cur high)
  have HE := Lib.hid (And.intro (hs.more HB.out.b) (hS.more HB.out.b))
  have HJ := Lib.hid (judge2_w (s := s) (W := ((w.alloc (.cells #[.int .i64 cur.l, .int .u64 cur.c, .int .i64 cur.i, .int .i64 high.l, .int .u64 high.c, .int .i64 high.i] 47)).alloc (.cells #[.int .i64 0, .int .u64 0, .int .i64 0] 42))) (Z := w.heap.size + 1 + 1) (by simp) hc hh hr HE.out.2)
  have HL := Lib.hid (And.intro ((hI.below HB.out.b).mono HB.out.b.size) (And.intro hz (And.intro hc hh)))
  have HR := Lib.hid hr2
  have HCr := Lib.hid (show cur.right = true by cases h : cur.right <;> rw [h] at hr <;> simp_all)
  have HP := Lib.hid hp
  clear hc hh hI hz hs hS hr hr2 hp
  go_enter Tryd.func29, Tryd.ntmps29
  go_wp2_with (go_at_call 44; refine HJ.out.mono ?_)
  rintro e w1 ⟨rfl, hb1⟩
  have HB1 := Lib.hid (HB.out.more hb1)
  have HE1 := Lib.hid (And.intro (HE.out.1.more hb1) (HE.out.2.more hb1))
  have HI1 := Lib.hid ((HL.out.1.below hb1).mono hb1.size)
  clear hb1
  have hv : judgeV s true = .nilIface := rfl
  rw [hv]
  go_wp2_with (go_at_call 44; refine (judgeC_any HI1.out HL.out.2.1 HR.out HE1.out.2).mono ?_)
  rintro e w2 ⟨rfl, hb2⟩
  have HB2 := Lib.hid (HB1.out.more hb2)
  have HE2 := Lib.hid (And.intro (HE1.out.1.more hb2) (HE1.out.2.more hb2))
  have HI2 := Lib.hid ((HI1.out.below hb2).mono hb2.size)
  clear hb2
  rw [hv]
  obtain ⟨⟨p0, p1, p2⟩, p3, p4, p5⟩ := HB2.out.c.lab
  go_wp2_with (go_at_call 45; refine (climb_any _ HL.out.2.2.1 HL.out.2.2.2 HCr.out HR.out HL.out.2.1 HI2.out HP.out HE2.out.1 HE2.out.2).mono ?_)
  rintro e w3 ⟨rfl, hb3⟩
  have HB3 := Lib.hid (HB2.out.more hb3)
  obtain ⟨v, hv3⟩ : ∃ v, (if c = 0 then Value.nilIface else stopV x m s.a) = v := ⟨_, rfl⟩
  have HV := Lib.hid (show errF s c m x = v by rcases pathGo_two HP.out with rfl | rfl <;> exact hv3)
  rw [hv3]
  clear hb3 hv3 p0 p1 p2 p3 p4 p5
  obtain ⟨z0, z1, z2⟩ := HB3.out.r.lab
  obtain ⟨fz0, fz1, fz2⟩ := HB3.out.r.frozen
  go_wp2
  have HU := Lib.hid (show Below w.heap.size w (((w3.setCell ⟨w.heap.size + 1, 0, none⟩ (.int .i64 x.l)).setCell ⟨w.heap.size + 1, 1, none⟩ (.int .u64 (x.c : Int))).setCell ⟨w.heap.size + 1, 2, none⟩ (.int .i64 x.i)) ∧ BoxF (((w3.setCell ⟨w.heap.size + 1, 0, none⟩ (.int .i64 x.l)).setCell ⟨w.heap.size + 1, 1, none⟩ (.int .u64 (x.c : Int))).setCell ⟨w.heap.size + 1, 2, none⟩ (.int .i64 x.i)) (w.heap.size + 1) x from ⟨below_set3 HB3.out.b (by omega) _ _ _, HB3.out.r.set x⟩)
  obtain ⟨c0, c1, c2⟩ := HU.out.2.lab
  have hbf := HU.out.1
  clear HU z0 z1 z2 fz0 fz1 fz2
  refine bodyPost_ret (v := .tuple #[.agg #[.int .i64 x.l, .int .u64 x.c, .int .i64 x.i], v]) ?_ rfl ⟨by rw [HV.out], hbf⟩
  clear hbf
  generalize ((w3.setCell ⟨w.heap.size + 1, 0, none⟩ (.int .i64 x.l)).setCell ⟨w.heap.size + 1, 1, none⟩ (.int .u64 (x.c : Int))).setCell ⟨w.heap.size + 1, 2, none⟩ (.int .i64 x.i) = WF at c0 c1 c2 ⊢
  simp [results, Tryd.results29, go_sem, c0, c1, c2]

theorem float_any {s : Sn} {cur high x : Lab} {zs : List Lab} {ao : Option Addr} {len cap : Nat} {c : Int} {m : Nat} {w : World} (hc : cur.fits) (hh : high.fits) (hI : Labs w.heap.size w (.slice ao len cap) zs) (hz : zs.length ≤ 1000) (hp : pathL cur zs high = (c, m, x)) (hs : Ce w) (hS : Sent s w) :
    Calls Tryd.prog 29 #[.agg #[.int .i64 cur.l, .int .u64 cur.c, .int .i64 cur.i, .int .i64 high.l, .int .u64 high.c, .int .i64 high.i], .slice ao len cap] w (FlP s c m x w) := by
  cases hr : (cur.right && high.right) with
  | false =>
    rw [path_bad (by rw [hr]; rfl)] at hp
    obtain ⟨rfl, h⟩ := Prod.mk.inj hp
    obtain ⟨rfl, rfl⟩ := Prod.mk.inj h
    exact float_0 hc hh hI hz hs hS hr
  | true =>
    cases hr2 : zs.all Lab.right with
    | false =>
      rw [path_bad (by rw [hr2, Bool.and_false])] at hp
      obtain ⟨rfl, h⟩ := Prod.mk.inj hp
      obtain ⟨rfl, rfl⟩ := Prod.mk.inj h
      exact float_1 hc hh hI hz hs hS hr hr2
    | true =>
      rw [path_ok (by rw [hr, hr2]; rfl)] at hp
      exact float_y hc hh hI hz hs hS hr hr2 hp
theorem labs_on (W : World) {a : Lab} (ha : a.fits) : Labs (W.alloc (.cells #[.int .i64 a.l, .int .u64 a.c, .int .i64 a.i] 24)).heap.size (W.alloc (.cells #[.int .i64 a.l, .int .u64 a.c, .int .i64 a.i] 24)) (.slice (some ⟨W.heap.size, 0, none⟩) 1 1) [a] := by
  refine ⟨_, _, rfl, fun _ => ⟨W.heap.size, 0, rfl, by rw [World.size_alloc]; omega, fun j x hj => ?_⟩⟩
  cases j with
  | zero =>
    obtain rfl : a = x := Option.some.inj hj
    exact ⟨ha, by simp, by simp, by simp⟩
  | succ j => cases hj
theorem float1_w {s : Sn} {cur high x a : Lab} {c : Int} {m : Nat} {W : World} {Z : Nat} (hZ : W.heap.size = Z) (hc : cur.fits) (hh : high.fits) (ha : a.fits) (hp : pathL cur [a] high = (c, m, x)) (hs : Ce W) (hS : Sent s W) :
    Calls Tryd.prog 29 #[.agg #[.int .i64 cur.l, .int .u64 cur.c, .int .i64 cur.i, .int .i64 high.l, .int .u64 high.c, .int .i64 high.i], .slice (some ⟨Z, 0, none⟩) 1 1] (W.alloc (.cells #[.int .i64 a.l, .int .u64 a.c, .int .i64 a.i] 24)) (FlP s c m x W) := by
  subst hZ
  refine (float_any hc hh (labs_on W ha) (by simp) hp (hs.more (Below.new _ _)) (hS.more (Below.new _ _))).mono ?_
  rintro e w' ⟨he, h⟩
  exact ⟨he, below_more (Below.new _ _) h⟩

/-- Three labels, the answer's room. -/
structure Fq (w W : World) (cur a high : Lab) : Prop where
  b : Below w.heap.size w W
  r : BoxL W (w.heap.size + 1 + 1 + 1) Lab.zero
theorem Fq.more {w W W' : World} {cur a high : Lab} (k : Fq w W cur a high) (hb : Below W.heap.size W W') : Fq w W' cur a high := ⟨below_more k.b hb, k.r.more hb⟩
set_option maxRecDepth 100000 in
set_option maxHeartbeats 4000000 in
theorem GFloat_y {s : Sn} {cur a high x : Lab} {w : World} (hc : cur.fits) (ha : a.fits) (hh : high.fits) (hp : pathL cur [a] high = (0, 1, x)) (hs : Ce w) (hS : Sent s w) :
    Calls Tryd.prog 12 #[.agg #[.int .i64 cur.l, .int .u64 cur.c, .int .i64 cur.i], .agg #[.int .i64 a.l, .int .u64 a.c, .int .i64 a.i], .agg #[.int .i64 high.l, .int .u64 high.c, .int .i64 high.i]] w (LaP 0 x w) := by
  obtain ⟨h0, h1, h2, h3, h4⟩ := four_boxes w cur a high
  have HB := Lib.hid (show Fq w _ cur a high from ⟨h0, h4⟩)
  have HS := Lib.hid (hS.more h0)
  have HC := Lib.hid (float1_w (s := s) (W := ((((w.alloc (.cells #[.int .i64 cur.l, .int .u64 cur.c, .int .i64 cur.i] 24)).alloc (.cells #[.int .i64 a.l, .int .u64 a.c, .int .i64 a.i] 24)).alloc (.cells #[.int .i64 high.l, .int .u64 high.c, .int .i64 high.i] 24)).alloc (.cells #[.int .i64 0, .int .u64 0, .int .i64 0] 24))) (Z := w.heap.size + 1 + 1 + 1 + 1) (by simp) hc hh ha hp (hs.more h0) HS.out)
  clear hc ha hh hp hs hS h0 h1 h2 h3 h4
  go_enter Tryd.func12, Tryd.ntmps12
  go_wp2_with (go_at_call 29; refine HC.out.mono ?_)
  rintro e w1 ⟨rfl, hb1⟩
  have hv : errF s 0 1 x = .nilIface := rfl
  rw [hv]
  have hN := Below.new w1 (.cells #[.int .i64 x.l, .int .u64 x.c, .int .i64 x.i] 42)
  have HB1 := Lib.hid ((HB.out.more hb1).more hN)
  have HS1 := Lib.hid ((HS.out.more hb1).more hN)
  have HX := Lib.hid (show BoxF (w1.alloc (.cells #[.int .i64 x.l, .int .u64 x.c, .int .i64 x.i] 42)) w1.heap.size x from BoxF.new w1 x)
  clear hb1 hN
  obtain ⟨x0, x1, x2⟩ := HX.out.lab
  obtain ⟨z0, z1, z2⟩ := HB1.out.r.lab
  obtain ⟨fz0, fz1, fz2⟩ := HB1.out.r.frozen
  go_wp2
  have HU := Lib.hid (show Below w.heap.size w ((((w1.alloc (.cells #[.int .i64 x.l, .int .u64 x.c, .int .i64 x.i] 42)).setCell ⟨w.heap.size + 1 + 1 + 1, 0, none⟩ (.int .i64 x.l)).setCell ⟨w.heap.size + 1 + 1 + 1, 1, none⟩ (.int .u64 (x.c : Int))).setCell ⟨w.heap.size + 1 + 1 + 1, 2, none⟩ (.int .i64 x.i)) ∧ BoxL ((((w1.alloc (.cells #[.int .i64 x.l, .int .u64 x.c, .int .i64 x.i] 42)).setCell ⟨w.heap.size + 1 + 1 + 1, 0, none⟩ (.int .i64 x.l)).setCell ⟨w.heap.size + 1 + 1 + 1, 1, none⟩ (.int .u64 (x.c : Int))).setCell ⟨w.heap.size + 1 + 1 + 1, 2, none⟩ (.int .i64 x.i)) (w.heap.size + 1 + 1 + 1) x from ⟨below_set3 HB1.out.b (by omega) _ _ _, HB1.out.r.set x⟩)
  obtain ⟨c0, c1, c2⟩ := HU.out.2.lab
  have hbf := HU.out.1
  clear HU z0 z1 z2 fz0 fz1 fz2
  refine bodyPost_ret (v := .tuple #[.agg #[.int .i64 x.l, .int .u64 x.c, .int .i64 x.i], .int .i64 0]) ?_ rfl ⟨rfl, hbf⟩
  clear hbf
  generalize (((w1.alloc (.cells #[.int .i64 x.l, .int .u64 x.c, .int .i64 x.i] 42)).setCell ⟨w.heap.size + 1 + 1 + 1, 0, none⟩ (.int .i64 x.l)).setCell ⟨w.heap.size + 1 + 1 + 1, 1, none⟩ (.int .u64 (x.c : Int))).setCell ⟨w.heap.size + 1 + 1 + 1, 2, none⟩ (.int .i64 x.i) = WF at c0 c1 c2 ⊢
  simp [results, Tryd.results12, go_sem, c0, c1, c2]

set_option maxRecDepth 100000 in
set_option maxHeartbeats 4000000 in
theorem GFloat_n {s : Sn} {cur a high : Lab} {w : World} (hc : cur.fits) (ha : a.fits) (hh : high.fits) (hp : pathL cur [a] high = (20, 0, Lab.zero)) (hs : Ce w) (hS : Sent s w) :
    Calls Tryd.prog 12 #[.agg #[.int .i64 cur.l, .int .u64 cur.c, .int .i64 cur.i], .agg #[.int .i64 a.l, .int .u64 a.c, .int .i64 a.i], .agg #[.int .i64 high.l, .int .u64 high.c, .int .i64 high.i]] w (LaP 20 Lab.zero w) := by
  obtain ⟨h0, h1, h2, h3, h4⟩ := four_boxes w cur a high
  have HB := Lib.hid (show Fq w _ cur a high from ⟨h0, h4⟩)
  have HS := Lib.hid (hS.more h0)
  have HC := Lib.hid (float1_w (s := s) (W := ((((w.alloc (.cells #[.int .i64 cur.l, .int .u64 cur.c, .int .i64 cur.i] 24)).alloc (.cells #[.int .i64 a.l, .int .u64 a.c, .int .i64 a.i] 24)).alloc (.cells #[.int .i64 high.l, .int .u64 high.c, .int .i64 high.i] 24)).alloc (.cells #[.int .i64 0, .int .u64 0, .int .i64 0] 24))) (Z := w.heap.size + 1 + 1 + 1 + 1) (by simp) hc hh ha hp (hs.more h0) HS.out)
  clear hc ha hh hp hs hS h0 h1 h2 h3 h4
  go_enter Tryd.func12, Tryd.ntmps12
  go_wp2_with (go_at_call 29; refine HC.out.mono ?_)
  rintro e w1 ⟨rfl, hb1⟩
  have hv : errF s 20 0 Lab.zero = .iface 116 (.pointer (some s.n)) := rfl
  rw [hv]
  have hN := Below.new w1 (.cells #[.int .i64 0, .int .u64 0, .int .i64 0] 42)
  have HB1 := Lib.hid ((HB.out.more hb1).more hN)
  have HS1 := Lib.hid ((HS.out.more hb1).more hN)
  have HX := Lib.hid (show BoxF (w1.alloc (.cells #[.int .i64 0, .int .u64 0, .int .i64 0] 42)) w1.heap.size Lab.zero from BoxF.new w1 Lab.zero)
  clear hb1 hN
  go_wp2_with (go_at_call 30; refine (told_any ErrIs.none HS1.out).mono ?_)
  rintro e w2 ⟨rfl, hb2⟩
  have HB2 := Lib.hid (HB1.out.more hb2)
  clear hb2
  obtain ⟨z0, z1, z2⟩ := HB2.out.r.lab
  obtain ⟨fz0, fz1, fz2⟩ := HB2.out.r.frozen
  go_wp2
  have HU := Lib.hid (show Below w.heap.size w (((w2.setCell ⟨w.heap.size + 1 + 1 + 1, 0, none⟩ (.int .i64 0)).setCell ⟨w.heap.size + 1 + 1 + 1, 1, none⟩ (.int .u64 0)).setCell ⟨w.heap.size + 1 + 1 + 1, 2, none⟩ (.int .i64 0)) ∧ BoxL (((w2.setCell ⟨w.heap.size + 1 + 1 + 1, 0, none⟩ (.int .i64 0)).setCell ⟨w.heap.size + 1 + 1 + 1, 1, none⟩ (.int .u64 0)).setCell ⟨w.heap.size + 1 + 1 + 1, 2, none⟩ (.int .i64 0)) (w.heap.size + 1 + 1 + 1) Lab.zero from ⟨below_set3 HB2.out.b (by omega) _ _ _, HB2.out.r.set Lab.zero⟩)
  obtain ⟨c0, c1, c2⟩ := HU.out.2.lab
  have hbf := HU.out.1
  clear HU z0 z1 z2 fz0 fz1 fz2
  refine bodyPost_ret (v := .tuple #[.agg #[.int .i64 0, .int .u64 0, .int .i64 0], .int .i64 20]) ?_ rfl ⟨rfl, hbf⟩
  clear hbf
  generalize ((w2.setCell ⟨w.heap.size + 1 + 1 + 1, 0, none⟩ (.int .i64 0)).setCell ⟨w.heap.size + 1 + 1 + 1, 1, none⟩ (.int .u64 0)).setCell ⟨w.heap.size + 1 + 1 + 1, 2, none⟩ (.int .i64 0) = WF at c0 c1 c2 ⊢
  simp [results, Tryd.results12, go_sem, c0, c1, c2, Lab.zero]

set_option maxRecDepth 100000 in
set_option maxHeartbeats 4000000 in
theorem GFloat_a {s : Sn} {cur a high : Lab} {w : World} (hc : cur.fits) (ha : a.fits) (hh : high.fits) (hp : pathL cur [a] high = (120, 0, cur)) (hs : Ce w) (hS : Sent s w) :
    Calls Tryd.prog 12 #[.agg #[.int .i64 cur.l, .int .u64 cur.c, .int .i64 cur.i], .agg #[.int .i64 a.l, .int .u64 a.c, .int .i64 a.i], .agg #[.int .i64 high.l, .int .u64 high.c, .int .i64 high.i]] w (LaP 120 Lab.zero w) := by
  obtain ⟨h0, h1, h2, h3, h4⟩ := four_boxes w cur a high
  have HB := Lib.hid (show Fq w _ cur a high from ⟨h0, h4⟩)
  have HS := Lib.hid (hS.more h0)
  have HC := Lib.hid (float1_w (s := s) (W := ((((w.alloc (.cells #[.int .i64 cur.l, .int .u64 cur.c, .int .i64 cur.i] 24)).alloc (.cells #[.int .i64 a.l, .int .u64 a.c, .int .i64 a.i] 24)).alloc (.cells #[.int .i64 high.l, .int .u64 high.c, .int .i64 high.i] 24)).alloc (.cells #[.int .i64 0, .int .u64 0, .int .i64 0] 24))) (Z := w.heap.size + 1 + 1 + 1 + 1) (by simp) hc hh ha hp (hs.more h0) HS.out)
  clear hc ha hh hp hs hS h0 h1 h2 h3 h4
  go_enter Tryd.func12, Tryd.ntmps12
  go_wp2_with (go_at_call 29; refine HC.out.mono ?_)
  rintro e w1 ⟨rfl, hb1⟩
  have hv : errF s 120 0 cur = .iface 57 (.agg #[.int .i64 cur.l, .int .u64 cur.c, .int .i64 cur.i, .int .i64 0, .iface 116 (.pointer (some s.a))]) := rfl
  rw [hv]
  have hN := Below.new w1 (.cells #[.int .i64 cur.l, .int .u64 cur.c, .int .i64 cur.i] 42)
  have HB1 := Lib.hid ((HB.out.more hb1).more hN)
  have HS1 := Lib.hid ((HS.out.more hb1).more hN)
  have HX := Lib.hid (show BoxF (w1.alloc (.cells #[.int .i64 cur.l, .int .u64 cur.c, .int .i64 cur.i] 42)) w1.heap.size cur from BoxF.new w1 cur)
  clear hb1 hN
  go_wp2_with (go_at_call 30; refine (told_any (ErrIs.above cur 0) HS1.out).mono ?_)
  rintro e w2 ⟨rfl, hb2⟩
  have HB2 := Lib.hid (HB1.out.more hb2)
  clear hb2
  obtain ⟨z0, z1, z2⟩ := HB2.out.r.lab
  obtain ⟨fz0, fz1, fz2⟩ := HB2.out.r.frozen
  go_wp2
  have HU := Lib.hid (show Below w.heap.size w (((w2.setCell ⟨w.heap.size + 1 + 1 + 1, 0, none⟩ (.int .i64 0)).setCell ⟨w.heap.size + 1 + 1 + 1, 1, none⟩ (.int .u64 0)).setCell ⟨w.heap.size + 1 + 1 + 1, 2, none⟩ (.int .i64 0)) ∧ BoxL (((w2.setCell ⟨w.heap.size + 1 + 1 + 1, 0, none⟩ (.int .i64 0)).setCell ⟨w.heap.size + 1 + 1 + 1, 1, none⟩ (.int .u64 0)).setCell ⟨w.heap.size + 1 + 1 + 1, 2, none⟩ (.int .i64 0)) (w.heap.size + 1 + 1 + 1) Lab.zero from ⟨below_set3 HB2.out.b (by omega) _ _ _, HB2.out.r.set Lab.zero⟩)
  obtain ⟨c0, c1, c2⟩ := HU.out.2.lab
  have hbf := HU.out.1
  clear HU z0 z1 z2 fz0 fz1 fz2
  refine bodyPost_ret (v := .tuple #[.agg #[.int .i64 0, .int .u64 0, .int .i64 0], .int .i64 120]) ?_ rfl ⟨rfl, hbf⟩
  clear hbf
  generalize ((w2.setCell ⟨w.heap.size + 1 + 1 + 1, 0, none⟩ (.int .i64 0)).setCell ⟨w.heap.size + 1 + 1 + 1, 1, none⟩ (.int .u64 0)).setCell ⟨w.heap.size + 1 + 1 + 1, 2, none⟩ (.int .i64 0) = WF at c0 c1 c2 ⊢
  simp [results, Tryd.results12, go_sem, c0, c1, c2, Lab.zero]

theorem GFloat_w {cur a high x : Lab} {c : Int} {w : World} (hc : cur.fits) (ha : a.fits) (hh : high.fits) (h : floatL cur a high = (c, x)) (hs : Ce w) :
    Calls Tryd.prog 12 #[.agg #[.int .i64 cur.l, .int .u64 cur.c, .int .i64 cur.i], .agg #[.int .i64 a.l, .int .u64 a.c, .int .i64 a.i], .agg #[.int .i64 high.l, .int .u64 high.c, .int .i64 high.i]] w (LaP c x w) := by
  obtain ⟨s, hS⟩ := hs.sn
  rcases path_one h with ⟨rfl, hp⟩ | ⟨rfl, rfl, hp⟩ | ⟨rfl, rfl, hp⟩
  · exact GFloat_y hc ha hh hp hs hS
  · exact GFloat_n hc ha hh hp hs hS
  · exact GFloat_a hc ha hh hp hs hS

/-- What Path's last region holds. -/
structure PtS (w : World) (t : Nat) (x : Lab) (k : Int) (W : World) : Prop where
  b : Below w.heap.size w W
  c : (W.cell? ⟨t, 0, none⟩ = some (.int .i64 x.l) ∧ W.cell? ⟨t, 1, none⟩ = some (.int .u64 x.c) ∧ W.cell? ⟨t, 2, none⟩ = some (.int .i64 x.i)) ∧ W.cell? ⟨t, 3, none⟩ = some (.int .i64 k)
theorem PtS.more {w : World} {t : Nat} {x : Lab} {k : Int} {A B : World} (h : PtS w t x k A) (hb : Below A.heap.size A B) : PtS w t x k B := ⟨below_more h.b hb, ⟨cell_later hb h.c.1.1, cell_later hb h.c.1.2.1, cell_later hb h.c.1.2.2⟩, cell_later hb h.c.2⟩
theorem PtS.set {w : World} {t : Nat} {x : Lab} {k : Int} {A : World} {u v y : Value} (hlt : w.heap.size + 1 + 1 < t) (h : PtS w t x k A) : PtS w t x k (((A.setCell ⟨w.heap.size + 1 + 1, 0, none⟩ u).setCell ⟨w.heap.size + 1 + 1, 1, none⟩ v).setCell ⟨w.heap.size + 1 + 1, 2, none⟩ y) :=
  ⟨below_set3 h.b (by omega) u v y, ⟨set3_other h.c.1.1 (by omega), set3_other h.c.1.2.1 (by omega), set3_other h.c.1.2.2 (by omega)⟩, set3_other h.c.2 (by omega)⟩
theorem new_stop (W : World) : ((W.alloc (.cells #[.int .i64 0, .int .u64 0, .int .i64 0, .int .i64 0, .nilIface] 57)).cell? ⟨W.heap.size, 0, none⟩ = some (.int .i64 0) ∧ (W.alloc (.cells #[.int .i64 0, .int .u64 0, .int .i64 0, .int .i64 0, .nilIface] 57)).cell? ⟨W.heap.size, 1, none⟩ = some (.int .u64 0) ∧ (W.alloc (.cells #[.int .i64 0, .int .u64 0, .int .i64 0, .int .i64 0, .nilIface] 57)).cell? ⟨W.heap.size, 2, none⟩ = some (.int .i64 0) ∧ (W.alloc (.cells #[.int .i64 0, .int .u64 0, .int .i64 0, .int .i64 0, .nilIface] 57)).cell? ⟨W.heap.size, 3, none⟩ = some (.int .i64 0) ∧ (W.alloc (.cells #[.int .i64 0, .int .u64 0, .int .i64 0, .int .i64 0, .nilIface] 57)).cell? ⟨W.heap.size, 4, none⟩ = some .nilIface) ∧
    ∀ k, (W.alloc (.cells #[.int .i64 0, .int .u64 0, .int .i64 0, .int .i64 0, .nilIface] 57)).frozen? ⟨W.heap.size, k, none⟩ = false := by
  refine ⟨⟨?_, ?_, ?_, ?_, ?_⟩, fun k => ?_⟩ <;> simp
set_option maxRecDepth 100000 in
set_option maxHeartbeats 4000000 in
theorem GPath_y {s : Sn} {cur high x : Lab} {zs : List Lab} {ao : Option Addr} {len cap : Nat} {w : World} (hc : cur.fits) (hh : high.fits) (hI : Labs w.heap.size w (.slice ao len cap) zs) (hz : zs.length ≤ 1000) (hp : pathL cur zs high = (0, len, x)) (hs : Ce w) (hS : Sent s w) :
    Calls Tryd.prog 22 #[.agg #[.int .i64 cur.l, .int .u64 cur.c, .int .i64 cur.i], .slice ao len cap, .agg #[.int .i64 high.l, .int .u64 high.c, .int .i64 high.i]] w (LnP 0 len x w) := by
  obtain ⟨h0, h1, h2, h3⟩ := three_boxZ w cur high
  have HB := Lib.hid (show GnS w _ cur high from ⟨h0, h1, h2, h3⟩)
  have HS := Lib.hid (hS.more h0)
  have HC := Lib.hid (float_any (s := s) (w := (((w.alloc (.cells #[.int .i64 cur.l, .int .u64 cur.c, .int .i64 cur.i] 24)).alloc (.cells #[.int .i64 high.l, .int .u64 high.c, .int .i64 high.i] 24)).alloc (.cells #[.int .i64 0, .int .u64 0, .int .i64 0] 24))) hc hh ((hI.below h0).mono h0.size) hz hp (hs.more h0) HS.out)
  have HE := Lib.hid (hs.et.more h0)
  clear hc hh hI hz hp hs hS h0 h1 h2 h3
  go_enter Tryd.func22, Tryd.ntmps22
  go_wp2_with (go_at_call 29; refine HC.out.mono ?_)
  rintro e w1 ⟨rfl, hb1⟩
  have hv : errF s 0 len x = .nilIface := rfl
  rw [hv]
  have hN : Below w1.heap.size w1 ((w1.alloc (.cells #[.int .i64 x.l, .int .u64 x.c, .int .i64 x.i] 42)).alloc (.cells #[.int .i64 0, .int .u64 0, .int .i64 0, .int .i64 0, .nilIface] 57)) := (Below.new w1 _).alloc (by simp) _
  have HB1 := Lib.hid ((HB.out.more hb1).more hN)
  have HS1 := Lib.hid ((HS.out.more hb1).more hN)
  have HE1 := Lib.hid ((HE.out.more hb1).more hN)
  have HX := Lib.hid ((show BoxF (w1.alloc (.cells #[.int .i64 x.l, .int .u64 x.c, .int .i64 x.i] 42)) w1.heap.size x from BoxF.new w1 x).more (Below.new _ (.cells #[.int .i64 0, .int .u64 0, .int .i64 0, .int .i64 0, .nilIface] 57)))
  have HA := Lib.hid (as_nil_any (.iface 59 (.pointer (some ⟨w1.heap.size + 1, 0, none⟩))) ((w1.alloc (.cells #[.int .i64 x.l, .int .u64 x.c, .int .i64 x.i] 42)).alloc (.cells #[.int .i64 0, .int .u64 0, .int .i64 0, .int .i64 0, .nilIface] 57)))
  clear hb1 hN
  go_wp2_with (go_at_call 39; refine HA.out.mono ?_)
  rintro e w2 ⟨rfl, hb2⟩
  have HB2 := Lib.hid (HB1.out.more hb2)
  have HX2 := Lib.hid (HX.out.more hb2)
  clear hb2
  obtain ⟨x0, x1, x2⟩ := HX2.out.lab
  obtain ⟨z0, z1, z2⟩ := HB2.out.r.lab
  obtain ⟨fz0, fz1, fz2⟩ := HB2.out.r.frozen
  go_wp2
  have HU := Lib.hid (show Below w.heap.size w (((w2.setCell ⟨w.heap.size + 1 + 1, 0, none⟩ (.int .i64 x.l)).setCell ⟨w.heap.size + 1 + 1, 1, none⟩ (.int .u64 (x.c : Int))).setCell ⟨w.heap.size + 1 + 1, 2, none⟩ (.int .i64 x.i)) ∧ BoxL (((w2.setCell ⟨w.heap.size + 1 + 1, 0, none⟩ (.int .i64 x.l)).setCell ⟨w.heap.size + 1 + 1, 1, none⟩ (.int .u64 (x.c : Int))).setCell ⟨w.heap.size + 1 + 1, 2, none⟩ (.int .i64 x.i)) (w.heap.size + 1 + 1) x from ⟨below_set3 HB2.out.b (by omega) _ _ _, HB2.out.r.set x⟩)
  obtain ⟨c0, c1, c2⟩ := HU.out.2.lab
  have hbf := HU.out.1
  clear HU z0 z1 z2 fz0 fz1 fz2
  refine bodyPost_ret (v := .tuple #[.agg #[.int .i64 x.l, .int .u64 x.c, .int .i64 x.i], .int .i64 (len : Int), .int .i64 0]) ?_ rfl ⟨rfl, hbf⟩
  clear hbf
  generalize ((w2.setCell ⟨w.heap.size + 1 + 1, 0, none⟩ (.int .i64 x.l)).setCell ⟨w.heap.size + 1 + 1, 1, none⟩ (.int .u64 (x.c : Int))).setCell ⟨w.heap.size + 1 + 1, 2, none⟩ (.int .i64 x.i) = WF at c0 c1 c2 ⊢
  simp [results, Tryd.results22, go_sem, c0, c1, c2]

set_option maxRecDepth 100000 in
set_option maxHeartbeats 4000000 in
theorem GPath_n {s : Sn} {cur high : Lab} {zs : List Lab} {ao : Option Addr} {len cap : Nat} {w : World} (hc : cur.fits) (hh : high.fits) (hI : Labs w.heap.size w (.slice ao len cap) zs) (hz : zs.length ≤ 1000) (hp : pathL cur zs high = (20, 0, Lab.zero)) (hs : Ce w) (hS : Sent s w) :
    Calls Tryd.prog 22 #[.agg #[.int .i64 cur.l, .int .u64 cur.c, .int .i64 cur.i], .slice ao len cap, .agg #[.int .i64 high.l, .int .u64 high.c, .int .i64 high.i]] w (LnP 20 0 Lab.zero w) := by
  obtain ⟨h0, h1, h2, h3⟩ := three_boxZ w cur high
  have HB := Lib.hid (show GnS w _ cur high from ⟨h0, h1, h2, h3⟩)
  have HS := Lib.hid (hS.more h0)
  have HC := Lib.hid (float_any (s := s) (w := (((w.alloc (.cells #[.int .i64 cur.l, .int .u64 cur.c, .int .i64 cur.i] 24)).alloc (.cells #[.int .i64 high.l, .int .u64 high.c, .int .i64 high.i] 24)).alloc (.cells #[.int .i64 0, .int .u64 0, .int .i64 0] 24))) hc hh ((hI.below h0).mono h0.size) hz hp (hs.more h0) HS.out)
  have HE := Lib.hid (hs.et.more h0)
  clear hc hh hI hz hp hs hS h0 h1 h2 h3
  go_enter Tryd.func22, Tryd.ntmps22
  go_wp2_with (go_at_call 29; refine HC.out.mono ?_)
  rintro e w1 ⟨rfl, hb1⟩
  have hv : errF s 20 0 Lab.zero = .iface 116 (.pointer (some s.n)) := rfl
  rw [hv]
  have hN : Below w1.heap.size w1 ((w1.alloc (.cells #[.int .i64 0, .int .u64 0, .int .i64 0] 42)).alloc (.cells #[.int .i64 0, .int .u64 0, .int .i64 0, .int .i64 0, .nilIface] 57)) := (Below.new w1 _).alloc (by simp) _
  have HB1 := Lib.hid ((HB.out.more hb1).more hN)
  have HS1 := Lib.hid ((HS.out.more hb1).more hN)
  have HE1 := Lib.hid ((HE.out.more hb1).more hN)
  have HX := Lib.hid ((show BoxF (w1.alloc (.cells #[.int .i64 0, .int .u64 0, .int .i64 0] 42)) w1.heap.size Lab.zero from BoxF.new w1 Lab.zero).more (Below.new _ (.cells #[.int .i64 0, .int .u64 0, .int .i64 0, .int .i64 0, .nilIface] 57)))
  have HA := Lib.hid (Cs.as_miss (.pointer (some s.n)) (w1.heap.size + 1) _ HE1.out)
  clear hb1 hN
  go_wp2_with (go_at_call 39; refine HA.out.mono ?_)
  rintro e w2 ⟨rfl, hb2⟩
  have HB2 := Lib.hid (HB1.out.more hb2)
  have HS2 := Lib.hid (HS1.out.more hb2)
  clear hb2
  go_wp2_with (go_at_call 30; refine (told_any ErrIs.none HS2.out).mono ?_)
  rintro e w3 ⟨rfl, hb3⟩
  have HB3 := Lib.hid (HB2.out.more hb3)
  clear hb3
  obtain ⟨z0, z1, z2⟩ := HB3.out.r.lab
  obtain ⟨fz0, fz1, fz2⟩ := HB3.out.r.frozen
  go_wp2
  have HU := Lib.hid (show Below w.heap.size w (((w3.setCell ⟨w.heap.size + 1 + 1, 0, none⟩ (.int .i64 0)).setCell ⟨w.heap.size + 1 + 1, 1, none⟩ (.int .u64 0)).setCell ⟨w.heap.size + 1 + 1, 2, none⟩ (.int .i64 0)) ∧ BoxL (((w3.setCell ⟨w.heap.size + 1 + 1, 0, none⟩ (.int .i64 0)).setCell ⟨w.heap.size + 1 + 1, 1, none⟩ (.int .u64 0)).setCell ⟨w.heap.size + 1 + 1, 2, none⟩ (.int .i64 0)) (w.heap.size + 1 + 1) Lab.zero from ⟨below_set3 HB3.out.b (by omega) _ _ _, HB3.out.r.set Lab.zero⟩)
  obtain ⟨c0, c1, c2⟩ := HU.out.2.lab
  have hbf := HU.out.1
  clear HU z0 z1 z2 fz0 fz1 fz2
  refine bodyPost_ret (v := .tuple #[.agg #[.int .i64 0, .int .u64 0, .int .i64 0], .int .i64 0, .int .i64 20]) ?_ rfl ⟨rfl, hbf⟩
  clear hbf
  generalize ((w3.setCell ⟨w.heap.size + 1 + 1, 0, none⟩ (.int .i64 0)).setCell ⟨w.heap.size + 1 + 1, 1, none⟩ (.int .u64 0)).setCell ⟨w.heap.size + 1 + 1, 2, none⟩ (.int .i64 0) = WF at c0 c1 c2 ⊢
  simp [results, Tryd.results22, go_sem, c0, c1, c2, Lab.zero]

set_option maxRecDepth 100000 in
set_option maxHeartbeats 4000000 in
theorem GPath_a {s : Sn} {cur high x : Lab} {zs : List Lab} {ao : Option Addr} {len cap : Nat} {m : Nat} {w : World} (hc : cur.fits) (hh : high.fits) (hI : Labs w.heap.size w (.slice ao len cap) zs) (hz : zs.length ≤ 1000) (hp : pathL cur zs high = (120, m, x)) (hs : Ce w) (hS : Sent s w) :
    Calls Tryd.prog 22 #[.agg #[.int .i64 cur.l, .int .u64 cur.c, .int .i64 cur.i], .slice ao len cap, .agg #[.int .i64 high.l, .int .u64 high.c, .int .i64 high.i]] w (LnP 120 m x w) := by
  obtain ⟨h0, h1, h2, h3⟩ := three_boxZ w cur high
  have HB := Lib.hid (show GnS w _ cur high from ⟨h0, h1, h2, h3⟩)
  have HS := Lib.hid (hS.more h0)
  have HC := Lib.hid (float_any (s := s) (w := (((w.alloc (.cells #[.int .i64 cur.l, .int .u64 cur.c, .int .i64 cur.i] 24)).alloc (.cells #[.int .i64 high.l, .int .u64 high.c, .int .i64 high.i] 24)).alloc (.cells #[.int .i64 0, .int .u64 0, .int .i64 0] 24))) hc hh ((hI.below h0).mono h0.size) hz hp (hs.more h0) HS.out)
  have HE := Lib.hid (hs.et.more h0)
  clear hc hh hI hz hp hs hS h0 h1 h2 h3
  go_enter Tryd.func22, Tryd.ntmps22
  go_wp2_with (go_at_call 29; refine HC.out.mono ?_)
  rintro e w1 ⟨rfl, hb1⟩
  have hv : errF s 120 m x = .iface 57 (.agg #[.int .i64 x.l, .int .u64 x.c, .int .i64 x.i, .int .i64 (m : Int), .iface 116 (.pointer (some s.a))]) := rfl
  rw [hv]
  have hN : Below w1.heap.size w1 ((w1.alloc (.cells #[.int .i64 x.l, .int .u64 x.c, .int .i64 x.i] 42)).alloc (.cells #[.int .i64 0, .int .u64 0, .int .i64 0, .int .i64 0, .nilIface] 57)) := (Below.new w1 _).alloc (by simp) _
  have HB1 := Lib.hid ((HB.out.more hb1).more hN)
  have HS1 := Lib.hid ((HS.out.more hb1).more hN)
  have HE1 := Lib.hid ((HE.out.more hb1).more hN)
  have HX := Lib.hid ((show BoxF (w1.alloc (.cells #[.int .i64 x.l, .int .u64 x.c, .int .i64 x.i] 42)) w1.heap.size x from BoxF.new w1 x).more (Below.new _ (.cells #[.int .i64 0, .int .u64 0, .int .i64 0, .int .i64 0, .nilIface] 57)))
  have hns := new_stop (w1.alloc (.cells #[.int .i64 x.l, .int .u64 x.c, .int .i64 x.i] 42))
  rw [World.size_alloc] at hns
  obtain ⟨⟨t0, t1, t2, t3, t4⟩, hf⟩ := hns
  have HA := Lib.hid (Cs.as_hit x.l x.c x.i m 116 (.pointer (some s.a)) (w1.heap.size + 1) _ _ _ _ _ _ HE1.out t0 t1 t2 t3 t4 (hf 0) (hf 1) (hf 2) (hf 3) (hf 4))
  have HB1b := hb1
  have hN2 := hN
  have HLT := Lib.hid (show w.heap.size + 1 + 1 < w1.heap.size from (HB.out.more hb1).r.lt)
  have HZ := Lib.hid (show w1.heap.size + 2 = ((w1.alloc (.cells #[.int .i64 x.l, .int .u64 x.c, .int .i64 x.i] 42)).alloc (.cells #[.int .i64 0, .int .u64 0, .int .i64 0, .int .i64 0, .nilIface] 57)).heap.size by simp)
  clear hb1 hN t0 t1 t2 t3 t4 hf
  go_wp2_with (go_at_call 39; refine HA.out.mono ?_)
  rintro e w2 ⟨rfl, hst, hb2⟩
  have hlt := HLT.out
  have hbb : Below w.heap.size w w2 := HB1.out.b.trans (hb2.mono (by omega))
  have HR2 := Lib.hid (show BoxL w2 (w.heap.size + 1 + 1) Lab.zero from HB1.out.r.eq (hb2.block _ (by omega)))
  have HS2 := Lib.hid (show Sent s w2 from (HS.out.more HB1b).below (n := w1.heap.size) (Nat.le_refl _) ((Below.refl w1.heap.size w1).trans (hN2.trans (hb2.mono (by omega)))))
  have HP := Lib.hid (show PtS w (w1.heap.size + 1) x m w2 from ⟨hbb, ⟨hst.c0, hst.c1, hst.c2⟩, hst.c3⟩)
  clear hst hb2 hbb hlt HB1b hN2
  go_wp2
  refine wp_region_held_drew (S := PtS w (w1.heap.size + 1) x m) (by kernel_rfl) (PtS.more HP.out (Below.refl _ _).drew) (fun hS0 => ?_)
  refine wpAnyH_take (i := 0) (oi := { dst := some 29, op := Go.Op.fieldAddr 57 (Go.Operand.tmp 11) 0, type := 0, pos := "ceiling.go:173", after := #[], guard := none }) (v := ?_) rfl (by kernel_rfl) (by kernel_rfl) (by kernel_rfl) (fun _ _ _ h => h) (Or.inl ⟨by rfl, ?_⟩) hS0 ?_
  rotate_left
  · (intro wq hSw; obtain ⟨⟨x0, x1, x2⟩, x3⟩ := PtS.c hSw; go_simp; try with_reducible rfl)
  try simp only [Act.put, List.setIfInBounds_toArray, List.set_cons_zero, List.set_cons_succ]
  refine wpAnyH_take (i := 1) (oi := { dst := some 30, op := Go.Op.fieldAddr 42 (Go.Operand.tmp 29) 0, type := 0, pos := "ceiling.go:173", after := #[{ on := 0, ground := Go.Ground.data }], guard := none }) (v := ?_) rfl (by kernel_rfl) (by kernel_rfl) (by kernel_rfl) (fun _ _ _ h => h) (Or.inl ⟨by rfl, ?_⟩) hS0 ?_
  rotate_left
  · (intro wq hSw; obtain ⟨⟨x0, x1, x2⟩, x3⟩ := PtS.c hSw; go_simp; try with_reducible rfl)
  try simp only [Act.put, List.setIfInBounds_toArray, List.set_cons_zero, List.set_cons_succ]
  refine wpAnyH_take (i := 2) (oi := { dst := some 31, op := Go.Op.load 24 (Go.Operand.tmp 30), type := 24, pos := "ceiling.go:173", after := #[{ on := 1, ground := Go.Ground.data }], guard := none }) (v := ?_) rfl (by kernel_rfl) (by kernel_rfl) (by kernel_rfl) (fun _ _ _ h => h) (Or.inl ⟨by rfl, ?_⟩) hS0 ?_
  rotate_left
  · (intro wq hSw; obtain ⟨⟨x0, x1, x2⟩, x3⟩ := PtS.c hSw; go_simp; try with_reducible rfl)
  try simp only [Act.put, List.setIfInBounds_toArray, List.set_cons_zero, List.set_cons_succ]
  refine wpAnyH_take (i := 3) (oi := { dst := some 32, op := Go.Op.fieldAddr 57 (Go.Operand.tmp 11) 1, type := 0, pos := "ceiling.go:173", after := #[{ on := 7, ground := Go.Ground.gcOnly Go.Departure.lateStores }], guard := none }) (v := ?_) rfl (by kernel_rfl) (by kernel_rfl) (by kernel_rfl) (fun _ _ _ h => h) (Or.inl ⟨by rfl, ?_⟩) hS0 ?_
  rotate_left
  · (intro wq hSw; obtain ⟨⟨x0, x1, x2⟩, x3⟩ := PtS.c hSw; go_simp; try with_reducible rfl)
  try simp only [Act.put, List.setIfInBounds_toArray, List.set_cons_zero, List.set_cons_succ]
  refine wpAnyH_take (i := 4) (oi := { dst := some 33, op := Go.Op.load 3 (Go.Operand.tmp 32), type := 3, pos := "ceiling.go:173", after := #[{ on := 3, ground := Go.Ground.data }, { on := 7, ground := Go.Ground.gcOnly Go.Departure.lateStores }], guard := none }) (v := ?_) rfl (by kernel_rfl) (by kernel_rfl) (by kernel_rfl) (fun _ _ _ h => h) (Or.inl ⟨by rfl, ?_⟩) hS0 ?_
  rotate_left
  · (intro wq hSw; obtain ⟨⟨x0, x1, x2⟩, x3⟩ := PtS.c hSw; go_simp; try with_reducible rfl)
  try simp only [Act.put, List.setIfInBounds_toArray, List.set_cons_zero, List.set_cons_succ]
  refine wpAnyH_take (i := 5) (oi := { dst := some 34, op := Go.Op.move (Go.Operand.tmp 10), type := 44, pos := "ceiling.go:173", after := #[], guard := none }) (v := ?_) rfl (by kernel_rfl) (by kernel_rfl) (by kernel_rfl) (fun _ _ _ h => h) (Or.inl ⟨by rfl, ?_⟩) hS0 ?_
  rotate_left
  · (intro wq hSw; obtain ⟨⟨x0, x1, x2⟩, x3⟩ := PtS.c hSw; go_simp; try with_reducible rfl)
  try simp only [Act.put, List.setIfInBounds_toArray, List.set_cons_zero, List.set_cons_succ]
  refine wpAnyH_ready (rs := [6]) (by kernel_rfl) (by simp) ?_
  refine AllReadyH.cons (o := { dst := some 35, op := Go.Op.call { callee := Go.Callee.value (Go.Operand.func 30), args := #[Go.Operand.tmp 34], argTypes := #[44] }, type := 26, pos := "ceiling.go:173", after := #[{ on := 5, ground := Go.Ground.data }], guard := none }) rfl (fun K hK => ?_) AllReadyH.nil
  go_simp
  refine (told_any (ErrIs.above x m) (Sent.more HS2.out (Below.refl _ _).drew)).mono ?_
  rintro e w3 ⟨rfl, hb3⟩
  refine hK.out _ _ (PtS.more hS0 hb3) (fun hS1 => ?_)
  clear hK K
  have HR3 := Lib.hid ((HR2.out.more (Below.refl _ _).drew).more hb3)
  clear hb3
  try simp only [Act.put, List.setIfInBounds_toArray, List.set_cons_zero, List.set_cons_succ]
  refine wpAnyH_ready (rs := [7]) (by kernel_rfl) (by simp) ?_
  refine AllReadyH.cons (o := { dst := none, op := Go.Op.store 24 (Go.Operand.tmp 6) (Go.Operand.tmp 31), type := 0, pos := "ceiling.go:173", after := #[{ on := 2, ground := Go.Ground.data }, { on := 6, ground := Go.Ground.chain }, { on := 0, ground := Go.Ground.phase }, { on := 1, ground := Go.Ground.phase }, { on := 2, ground := Go.Ground.phase }, { on := 3, ground := Go.Ground.textOnly Go.Departure.lateStores }, { on := 4, ground := Go.Ground.textOnly Go.Departure.lateStores }, { on := 5, ground := Go.Ground.textOnly Go.Departure.lateStores }, { on := 6, ground := Go.Ground.textOnly Go.Departure.lateStoresUnsure }], guard := none }) rfl (fun K hK => ?_) AllReadyH.nil
  obtain ⟨g0, g1, g2⟩ := HR3.out.lab
  obtain ⟨fg0, fg1, fg2⟩ := HR3.out.frozen
  have HR4 := Lib.hid (HR3.out.set x)
  go_simp
  refine hK.out _ _ (PtS.set (by have := HLT.out; omega) hS1) (fun hS2 => ?_)
  clear hK K
  clear g0 g1 g2 fg0 fg1 fg2
  try simp only [Act.put, List.setIfInBounds_toArray, List.set_cons_zero, List.set_cons_succ]
  refine wpAnyH_take (i := 8) (oi := { dst := some 7, op := Go.Op.assign (Go.Operand.tmp 33), type := 3, pos := "ceiling.go:173", after := #[{ on := 4, ground := Go.Ground.data }, { on := 7, ground := Go.Ground.chain }, { on := 0, ground := Go.Ground.phase }, { on := 1, ground := Go.Ground.phase }, { on := 2, ground := Go.Ground.phase }, { on := 3, ground := Go.Ground.phase }, { on := 4, ground := Go.Ground.phase }, { on := 5, ground := Go.Ground.textOnly Go.Departure.lateStores }, { on := 6, ground := Go.Ground.textOnly Go.Departure.lateStoresUnsure }, { on := 7, ground := Go.Ground.phase }], guard := none }) (v := ?_) rfl (by kernel_rfl) (by kernel_rfl) (by kernel_rfl) (fun _ _ _ h => h) (Or.inl ⟨by rfl, ?_⟩) hS2 ?_
  rotate_left
  · (intro wq hSw; obtain ⟨⟨x0, x1, x2⟩, x3⟩ := PtS.c hSw; go_simp; try with_reducible rfl)
  try simp only [Act.put, List.setIfInBounds_toArray, List.set_cons_zero, List.set_cons_succ]
  refine wpAnyH_take (i := 9) (oi := { dst := some 8, op := Go.Op.assign (Go.Operand.tmp 35), type := 26, pos := "ceiling.go:173", after := #[{ on := 6, ground := Go.Ground.data }, { on := 8, ground := Go.Ground.chain }, { on := 0, ground := Go.Ground.phase }, { on := 1, ground := Go.Ground.phase }, { on := 2, ground := Go.Ground.phase }, { on := 3, ground := Go.Ground.phase }, { on := 4, ground := Go.Ground.phase }, { on := 5, ground := Go.Ground.phase }, { on := 6, ground := Go.Ground.phase }, { on := 7, ground := Go.Ground.phase }, { on := 8, ground := Go.Ground.phase }], guard := none }) (v := ?_) rfl (by kernel_rfl) (by kernel_rfl) (by kernel_rfl) (fun _ _ _ h => h) (Or.inl ⟨by rfl, ?_⟩) hS2 ?_
  rotate_left
  · (intro wq hSw; obtain ⟨⟨x0, x1, x2⟩, x3⟩ := PtS.c hSw; go_simp; try with_reducible rfl)
  try simp only [Act.put, List.setIfInBounds_toArray, List.set_cons_zero, List.set_cons_succ]
  refine wpAnyH_done (by kernel_rfl) ?_ _
  obtain ⟨c0, c1, c2⟩ := HR4.out.lab
  have hbf := hS2.b
  clear hS0 hS2
  go_wp2
  refine bodyPost_ret (v := .tuple #[.agg #[.int .i64 x.l, .int .u64 x.c, .int .i64 x.i], .int .i64 (m : Int), .int .i64 120]) ?_ rfl ⟨rfl, hbf⟩
  clear hbf
  generalize ((w3.setCell ⟨w.heap.size + 1 + 1, 0, none⟩ (.int .i64 x.l)).setCell ⟨w.heap.size + 1 + 1, 1, none⟩ (.int .u64 (x.c : Int))).setCell ⟨w.heap.size + 1 + 1, 2, none⟩ (.int .i64 x.i) = WF at c0 c1 c2 ⊢
  simp [results, Tryd.results22, go_sem, c0, c1, c2]

theorem pathGo_all {high : Lab} : ∀ {l : List Lab} {cur x : Lab} {k m : Nat}, pathGo high cur k l = (0, m, x) → ∀ y ∈ ups high cur l, y.2 = true
  | [], _, _, _, _, _ => fun y hy => by cases hy
  | a :: r, cur, x, k, m, h => by
    cases e : (cur.join a).under high with
    | true =>
      rw [pathGo_step e] at h
      rw [ups_yes e]
      intro y hy
      rcases List.mem_cons.1 hy with rfl | hy
      · rfl
      · exact pathGo_all h y hy
    | false =>
      rw [pathGo_stop e] at h
      have := (Prod.mk.inj h).1
      simp at this
theorem pathL_three {cur high x : Lab} {zs : List Lab} {c : Int} {m : Nat} (h : pathL cur zs high = (c, m, x)) : (c = 0 ∧ m = zs.length) ∨ (c = 20 ∧ m = 0 ∧ x = Lab.zero) ∨ c = 120 := by
  cases hr : (cur.right && high.right && zs.all Lab.right) with
  | false =>
    rw [path_bad hr] at h
    obtain ⟨rfl, h'⟩ := Prod.mk.inj h
    obtain ⟨rfl, rfl⟩ := Prod.mk.inj h'
    exact .inr (.inl ⟨rfl, rfl, rfl⟩)
  | true =>
    rw [path_ok hr] at h
    by_cases ha : ∀ y ∈ ups high cur zs, y.2 = true
    · rw [ups_path zs cur 0 ha] at h
      obtain ⟨rfl, h'⟩ := Prod.mk.inj h
      obtain ⟨rfl, rfl⟩ := Prod.mk.inj h'
      exact .inl ⟨rfl, Nat.zero_add _⟩
    · rcases pathGo_two h with rfl | rfl
      · exact absurd (pathGo_all h) ha
      · exact .inr (.inr rfl)
theorem GPath_w {cur high x : Lab} {zs : List Lab} {ao : Option Addr} {len cap : Nat} {c : Int} {m : Nat} {w : World} (hc : cur.fits) (hh : high.fits) (hI : Labs w.heap.size w (.slice ao len cap) zs) (hz : zs.length ≤ 1000) (hp : pathL cur zs high = (c, m, x)) (hs : Ce w) :
    Calls Tryd.prog 22 #[.agg #[.int .i64 cur.l, .int .u64 cur.c, .int .i64 cur.i], .slice ao len cap, .agg #[.int .i64 high.l, .int .u64 high.c, .int .i64 high.i]] w (LnP c m x w) := by
  obtain ⟨s, hS⟩ := hs.sn
  rcases pathL_three hp with ⟨rfl, rfl⟩ | ⟨rfl, rfl, rfl⟩ | rfl
  · have hl : len = zs.length := by
      obtain ⟨_, _, he, _⟩ := hI
      injection he
    subst hl
    exact GPath_y hc hh hI hz hp hs hS
  · exact GPath_n hc hh hI hz hp hs hS
  · exact GPath_a hc hh hI hz hp hs hS
/-- The six calls. -/
theorem api : Api := ⟨fun hc ha h _ => GReads_w hc ha h, fun _ ha h _ => GWrites_w ha h, fun hc ha h hs => GSend_w hc ha h hs, fun hc ha h hs => GGain_w hc ha h hs, fun hc ha hh h hs => GFloat_w hc ha hh h hs, fun hc hh hI hn _ _ h hs => GPath_w hc hh hI hn h hs⟩
end Go.Proofs.YtciohfeifihobaaDoor
