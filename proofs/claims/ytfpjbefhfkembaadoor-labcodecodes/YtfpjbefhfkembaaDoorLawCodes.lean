/- LabcodeCodes, walked: for every two labels and every text it returns true. -/
import Derived.Test.YtfpjbefhfkembaaDoorLcE
import Derived.Test.YtfpjbefhfkembaaDoorLcD
namespace Go.Proofs.YtfpjbefhfkembaaDoor
open Go.RowKit Go.Shelf Go.Proofs.Fld Go.Proofs.Cats Go.Proofs.Lcd

attribute [local go_sem] bs_toList

set_option maxRecDepth 100000 in
set_option maxHeartbeats 4000000 in
theorem codes_walk (s : Sn) (t : SnL) (hq : t.q = true) (a b : Lab) (ha : a.fits) (hb : b.fits) (x : List UInt8) (hx : x.length ≤ 9223372036854775807) (w : World) (hs : SentL s t w) :
    Calls Tryd.prog 3 #[.agg #[.int .i64 a.l, .int .u64 a.c, .int .i64 a.i], .agg #[.int .i64 b.l, .int .u64 b.c, .int .i64 b.i], .string (bs x)] w fun e w' => e = .returned (.bool true) ∧ Below w.heap.size w w' := by
  have HS := Lib.hid hs
  obtain ⟨l, hl⟩ : ∃ l, x.take 300 = l := ⟨_, rfl⟩
  obtain ⟨p, c, hp⟩ : ∃ p c, putR a = (p, c) := ⟨_, _, rfl⟩
  obtain ⟨g, r, d, hg⟩ : ∃ g r d, getR l = (g, r, d) := ⟨_, _, _, rfl⟩
  obtain ⟨u, f, hu⟩ : ∃ u f, putRangeR a b = (u, f) := ⟨_, _, rfl⟩
  obtain ⟨m, n, q, v, hm⟩ : ∃ m n q v, getRangeR l = (m, n, q, v) := ⟨_, _, _, _, rfl⟩
  have HA := Lib.hid (fun w => cutA x hx w)
  have HP := Lib.hid (fun w h => Put_any s t a ha w h)
  have HP2 := Lib.hid (fun w => refPutL_any a ha w)
  have HG := Lib.hid (fun w h => Get_any s t l w h)
  have HG2 := Lib.hid (fun w => refGetL_any l w)
  have HT := Lib.hid (fun w h => PutRange_any s t hq a b ha hb w h)
  have HT2 := Lib.hid (fun w h => refPutRange_any a b ha hb w h)
  have HU := Lib.hid (fun w h => GetRange_any s t hq l w h)
  have HU2 := Lib.hid (fun w h => refGetRange_any l w h)
  have HE := Lib.hid (And.intro hl (And.intro hp (And.intro hg (And.intro hu hm))))
  clear hs ha hb hx hl hp hg hu hm hq
  have hn1 := Below.new w (.cells #[.int .i64 a.l, .int .u64 a.c, .int .i64 a.i] 24)
  have hB := hn1
  have a0 : (w.alloc (.cells #[.int .i64 a.l, .int .u64 a.c, .int .i64 a.i] 24)).cell? ⟨w.heap.size, 0, none⟩ = some (.int .i64 a.l) := by simp
  have a1 : (w.alloc (.cells #[.int .i64 a.l, .int .u64 a.c, .int .i64 a.i] 24)).cell? ⟨w.heap.size, 1, none⟩ = some (.int .u64 a.c) := by simp
  have a2 : (w.alloc (.cells #[.int .i64 a.l, .int .u64 a.c, .int .i64 a.i] 24)).cell? ⟨w.heap.size, 2, none⟩ = some (.int .i64 a.i) := by simp
  have hn2 := Below.new (w.alloc (.cells #[.int .i64 a.l, .int .u64 a.c, .int .i64 a.i] 24)) (.cells #[.int .i64 b.l, .int .u64 b.c, .int .i64 b.i] 24)
  replace a0 := cell_later hn2 a0
  replace a1 := cell_later hn2 a1
  replace a2 := cell_later hn2 a2
  replace hB := below_more hB hn2
  have b0 : ((w.alloc (.cells #[.int .i64 a.l, .int .u64 a.c, .int .i64 a.i] 24)).alloc (.cells #[.int .i64 b.l, .int .u64 b.c, .int .i64 b.i] 24)).cell? ⟨w.heap.size + 1, 0, none⟩ = some (.int .i64 b.l) := by simp
  have b1 : ((w.alloc (.cells #[.int .i64 a.l, .int .u64 a.c, .int .i64 a.i] 24)).alloc (.cells #[.int .i64 b.l, .int .u64 b.c, .int .i64 b.i] 24)).cell? ⟨w.heap.size + 1, 1, none⟩ = some (.int .u64 b.c) := by simp
  have b2 : ((w.alloc (.cells #[.int .i64 a.l, .int .u64 a.c, .int .i64 a.i] 24)).alloc (.cells #[.int .i64 b.l, .int .u64 b.c, .int .i64 b.i] 24)).cell? ⟨w.heap.size + 1, 2, none⟩ = some (.int .i64 b.i) := by simp
  have e1 := Lb.eqInL g g
  rw [show Lab.same g g = true from (Lab.same_iff _ _).2 rfl] at e1
  have e2 := Lb.eqInL m m
  rw [show Lab.same m m = true from (Lab.same_iff _ _).2 rfl] at e2
  have e3 := Lb.eqInL n n
  rw [show Lab.same n n = true from (Lab.same_iff _ _).2 rfl] at e3
  go_enter Tryd.func3, Tryd.ntmps3
  go_wp2_with (go_at_call 9; refine (shownA s t _ (HS.out.more hB)).mono ?_)
  rintro e w1 ⟨he, bk1⟩
  have he2 : e = .returned (.bool true) := by rw [he]
  subst he2
  clear he
  replace a0 := cell_later bk1 a0
  replace a1 := cell_later bk1 a1
  replace a2 := cell_later bk1 a2
  replace b0 := cell_later bk1 b0
  replace b1 := cell_later bk1 b1
  replace b2 := cell_later bk1 b2
  replace hB := below_more hB bk1
  clear bk1
  go_wp2_with (go_at_call 10; refine (HP.out _ (HS.out.more hB)).mono ?_)
  rintro e w2 ⟨he, bk2⟩
  have he2 : e = .returned (.tuple #[.string (bs p), .int .i64 c]) := by rw [he, HE.out.2.1]
  subst he2
  clear he
  replace a0 := cell_later bk2 a0
  replace a1 := cell_later bk2 a1
  replace a2 := cell_later bk2 a2
  replace b0 := cell_later bk2 b0
  replace b1 := cell_later bk2 b1
  replace b2 := cell_later bk2 b2
  replace hB := below_more hB bk2
  clear bk2
  go_wp2_with (go_at_call 11; refine (HP2.out _).mono ?_)
  rintro e w3 ⟨he, bk3⟩
  have he2 : e = .returned (.tuple #[.string (bs p), .int .i64 c]) := by rw [he, HE.out.2.1]
  subst he2
  clear he
  replace a0 := cell_later bk3 a0
  replace a1 := cell_later bk3 a1
  replace a2 := cell_later bk3 a2
  replace b0 := cell_later bk3 b0
  replace b1 := cell_later bk3 b1
  replace b2 := cell_later bk3 b2
  replace hB := below_more hB bk3
  clear bk3
  go_wp2_with (go_at_call 13; refine (HA.out _).mono ?_)
  rintro e w4 ⟨he, hw4⟩
  have he2 : e = .returned (.string (bs l)) := by rw [he, HE.out.1]
  subst he2
  clear he
  obtain rfl := hw4
  go_wp2_with (go_at_call 12; refine (HG.out _ (HS.out.more hB)).mono ?_)
  rintro e w4 ⟨he, bk4⟩
  have he2 : e = .returned (.tuple #[.agg #[.int .i64 g.l, .int .u64 g.c, .int .i64 g.i], .string (bs r), .int .i64 d]) := by rw [he, HE.out.2.2.1]
  subst he2
  clear he
  replace a0 := cell_later bk4 a0
  replace a1 := cell_later bk4 a1
  replace a2 := cell_later bk4 a2
  replace b0 := cell_later bk4 b0
  replace b1 := cell_later bk4 b1
  replace b2 := cell_later bk4 b2
  replace hB := below_more hB bk4
  clear bk4
  have hn3 := Below.new w4 (.cells #[.int .i64 g.l, .int .u64 g.c, .int .i64 g.i] 24)
  replace a0 := cell_later hn3 a0
  replace a1 := cell_later hn3 a1
  replace a2 := cell_later hn3 a2
  replace b0 := cell_later hn3 b0
  replace b1 := cell_later hn3 b1
  replace b2 := cell_later hn3 b2
  replace hB := below_more hB hn3
  clear hn3
  have ga0 : (w4.alloc (.cells #[.int .i64 g.l, .int .u64 g.c, .int .i64 g.i] 24)).cell? ⟨w4.heap.size, 0, none⟩ = some (.int .i64 g.l) := by simp
  have ga1 : (w4.alloc (.cells #[.int .i64 g.l, .int .u64 g.c, .int .i64 g.i] 24)).cell? ⟨w4.heap.size, 1, none⟩ = some (.int .u64 g.c) := by simp
  have ga2 : (w4.alloc (.cells #[.int .i64 g.l, .int .u64 g.c, .int .i64 g.i] 24)).cell? ⟨w4.heap.size, 2, none⟩ = some (.int .i64 g.i) := by simp
  go_wp2_with (go_at_call 13; refine (HA.out _).mono ?_)
  rintro e w5 ⟨he, hw5⟩
  have he2 : e = .returned (.string (bs l)) := by rw [he, HE.out.1]
  subst he2
  clear he
  obtain rfl := hw5
  go_wp2_with (go_at_call 14; refine (HG2.out _).mono ?_)
  rintro e w5 ⟨he, bk5⟩
  have he2 : e = .returned (.tuple #[.agg #[.int .i64 g.l, .int .u64 g.c, .int .i64 g.i], .string (bs r), .int .i64 d]) := by rw [he, HE.out.2.2.1]
  subst he2
  clear he
  replace a0 := cell_later bk5 a0
  replace a1 := cell_later bk5 a1
  replace a2 := cell_later bk5 a2
  replace b0 := cell_later bk5 b0
  replace b1 := cell_later bk5 b1
  replace b2 := cell_later bk5 b2
  replace ga0 := cell_later bk5 ga0
  replace ga1 := cell_later bk5 ga1
  replace ga2 := cell_later bk5 ga2
  replace hB := below_more hB bk5
  clear bk5
  have hn4 := Below.new w5 (.cells #[.int .i64 g.l, .int .u64 g.c, .int .i64 g.i] 24)
  replace a0 := cell_later hn4 a0
  replace a1 := cell_later hn4 a1
  replace a2 := cell_later hn4 a2
  replace b0 := cell_later hn4 b0
  replace b1 := cell_later hn4 b1
  replace b2 := cell_later hn4 b2
  replace ga0 := cell_later hn4 ga0
  replace ga1 := cell_later hn4 ga1
  replace ga2 := cell_later hn4 ga2
  replace hB := below_more hB hn4
  clear hn4
  have gb0 : (w5.alloc (.cells #[.int .i64 g.l, .int .u64 g.c, .int .i64 g.i] 24)).cell? ⟨w5.heap.size, 0, none⟩ = some (.int .i64 g.l) := by simp
  have gb1 : (w5.alloc (.cells #[.int .i64 g.l, .int .u64 g.c, .int .i64 g.i] 24)).cell? ⟨w5.heap.size, 1, none⟩ = some (.int .u64 g.c) := by simp
  have gb2 : (w5.alloc (.cells #[.int .i64 g.l, .int .u64 g.c, .int .i64 g.i] 24)).cell? ⟨w5.heap.size, 2, none⟩ = some (.int .i64 g.i) := by simp
  go_wp2_with (go_at_call 15; refine (HT.out _ (HS.out.more hB)).mono ?_)
  rintro e w6 ⟨he, bk6⟩
  have he2 : e = .returned (.tuple #[.string (bs u), .int .i64 f]) := by rw [he, HE.out.2.2.2.1]
  subst he2
  clear he
  replace a0 := cell_later bk6 a0
  replace a1 := cell_later bk6 a1
  replace a2 := cell_later bk6 a2
  replace b0 := cell_later bk6 b0
  replace b1 := cell_later bk6 b1
  replace b2 := cell_later bk6 b2
  replace ga0 := cell_later bk6 ga0
  replace ga1 := cell_later bk6 ga1
  replace ga2 := cell_later bk6 ga2
  replace gb0 := cell_later bk6 gb0
  replace gb1 := cell_later bk6 gb1
  replace gb2 := cell_later bk6 gb2
  replace hB := below_more hB bk6
  clear bk6
  go_wp2_with (go_at_call 16; refine (HT2.out _ (HS.out.more hB).fld.ct).mono ?_)
  rintro e w7 ⟨he, bk7⟩
  have he2 : e = .returned (.tuple #[.string (bs u), .int .i64 f]) := by rw [he, HE.out.2.2.2.1]
  subst he2
  clear he
  replace a0 := cell_later bk7 a0
  replace a1 := cell_later bk7 a1
  replace a2 := cell_later bk7 a2
  replace b0 := cell_later bk7 b0
  replace b1 := cell_later bk7 b1
  replace b2 := cell_later bk7 b2
  replace ga0 := cell_later bk7 ga0
  replace ga1 := cell_later bk7 ga1
  replace ga2 := cell_later bk7 ga2
  replace gb0 := cell_later bk7 gb0
  replace gb1 := cell_later bk7 gb1
  replace gb2 := cell_later bk7 gb2
  replace hB := below_more hB bk7
  clear bk7
  go_wp2_with (go_at_call 13; refine (HA.out _).mono ?_)
  rintro e w8 ⟨he, hw8⟩
  have he2 : e = .returned (.string (bs l)) := by rw [he, HE.out.1]
  subst he2
  clear he
  obtain rfl := hw8
  go_wp2_with (go_at_call 17; refine (HU.out _ (HS.out.more hB)).mono ?_)
  rintro e w8 ⟨he, bk8⟩
  have he2 : e = .returned (.tuple #[.agg #[.int .i64 m.l, .int .u64 m.c, .int .i64 m.i], .agg #[.int .i64 n.l, .int .u64 n.c, .int .i64 n.i], .string (bs q), .int .i64 v]) := by rw [he, HE.out.2.2.2.2]
  subst he2
  clear he
  replace a0 := cell_later bk8 a0
  replace a1 := cell_later bk8 a1
  replace a2 := cell_later bk8 a2
  replace b0 := cell_later bk8 b0
  replace b1 := cell_later bk8 b1
  replace b2 := cell_later bk8 b2
  replace ga0 := cell_later bk8 ga0
  replace ga1 := cell_later bk8 ga1
  replace ga2 := cell_later bk8 ga2
  replace gb0 := cell_later bk8 gb0
  replace gb1 := cell_later bk8 gb1
  replace gb2 := cell_later bk8 gb2
  replace hB := below_more hB bk8
  clear bk8
  have hn5 := Below.new w8 (.cells #[.int .i64 m.l, .int .u64 m.c, .int .i64 m.i] 24)
  replace a0 := cell_later hn5 a0
  replace a1 := cell_later hn5 a1
  replace a2 := cell_later hn5 a2
  replace b0 := cell_later hn5 b0
  replace b1 := cell_later hn5 b1
  replace b2 := cell_later hn5 b2
  replace ga0 := cell_later hn5 ga0
  replace ga1 := cell_later hn5 ga1
  replace ga2 := cell_later hn5 ga2
  replace gb0 := cell_later hn5 gb0
  replace gb1 := cell_later hn5 gb1
  replace gb2 := cell_later hn5 gb2
  replace hB := below_more hB hn5
  clear hn5
  have ma0 : (w8.alloc (.cells #[.int .i64 m.l, .int .u64 m.c, .int .i64 m.i] 24)).cell? ⟨w8.heap.size, 0, none⟩ = some (.int .i64 m.l) := by simp
  have ma1 : (w8.alloc (.cells #[.int .i64 m.l, .int .u64 m.c, .int .i64 m.i] 24)).cell? ⟨w8.heap.size, 1, none⟩ = some (.int .u64 m.c) := by simp
  have ma2 : (w8.alloc (.cells #[.int .i64 m.l, .int .u64 m.c, .int .i64 m.i] 24)).cell? ⟨w8.heap.size, 2, none⟩ = some (.int .i64 m.i) := by simp
  have hn6 := Below.new (w8.alloc (.cells #[.int .i64 m.l, .int .u64 m.c, .int .i64 m.i] 24)) (.cells #[.int .i64 n.l, .int .u64 n.c, .int .i64 n.i] 24)
  replace a0 := cell_later hn6 a0
  replace a1 := cell_later hn6 a1
  replace a2 := cell_later hn6 a2
  replace b0 := cell_later hn6 b0
  replace b1 := cell_later hn6 b1
  replace b2 := cell_later hn6 b2
  replace ga0 := cell_later hn6 ga0
  replace ga1 := cell_later hn6 ga1
  replace ga2 := cell_later hn6 ga2
  replace gb0 := cell_later hn6 gb0
  replace gb1 := cell_later hn6 gb1
  replace gb2 := cell_later hn6 gb2
  replace ma0 := cell_later hn6 ma0
  replace ma1 := cell_later hn6 ma1
  replace ma2 := cell_later hn6 ma2
  replace hB := below_more hB hn6
  clear hn6
  have na0 : ((w8.alloc (.cells #[.int .i64 m.l, .int .u64 m.c, .int .i64 m.i] 24)).alloc (.cells #[.int .i64 n.l, .int .u64 n.c, .int .i64 n.i] 24)).cell? ⟨w8.heap.size + 1, 0, none⟩ = some (.int .i64 n.l) := by simp
  have na1 : ((w8.alloc (.cells #[.int .i64 m.l, .int .u64 m.c, .int .i64 m.i] 24)).alloc (.cells #[.int .i64 n.l, .int .u64 n.c, .int .i64 n.i] 24)).cell? ⟨w8.heap.size + 1, 1, none⟩ = some (.int .u64 n.c) := by simp
  have na2 : ((w8.alloc (.cells #[.int .i64 m.l, .int .u64 m.c, .int .i64 m.i] 24)).alloc (.cells #[.int .i64 n.l, .int .u64 n.c, .int .i64 n.i] 24)).cell? ⟨w8.heap.size + 1, 2, none⟩ = some (.int .i64 n.i) := by simp
  go_wp2_with (go_at_call 13; refine (HA.out _).mono ?_)
  rintro e w9 ⟨he, hw9⟩
  have he2 : e = .returned (.string (bs l)) := by rw [he, HE.out.1]
  subst he2
  clear he
  obtain rfl := hw9
  go_wp2_with (go_at_call 18; refine (HU2.out _ (HS.out.more hB).fld.ct).mono ?_)
  rintro e w9 ⟨he, bk9⟩
  have he2 : e = .returned (.tuple #[.agg #[.int .i64 m.l, .int .u64 m.c, .int .i64 m.i], .agg #[.int .i64 n.l, .int .u64 n.c, .int .i64 n.i], .string (bs q), .int .i64 v]) := by rw [he, HE.out.2.2.2.2]
  subst he2
  clear he
  replace a0 := cell_later bk9 a0
  replace a1 := cell_later bk9 a1
  replace a2 := cell_later bk9 a2
  replace b0 := cell_later bk9 b0
  replace b1 := cell_later bk9 b1
  replace b2 := cell_later bk9 b2
  replace ga0 := cell_later bk9 ga0
  replace ga1 := cell_later bk9 ga1
  replace ga2 := cell_later bk9 ga2
  replace gb0 := cell_later bk9 gb0
  replace gb1 := cell_later bk9 gb1
  replace gb2 := cell_later bk9 gb2
  replace ma0 := cell_later bk9 ma0
  replace ma1 := cell_later bk9 ma1
  replace ma2 := cell_later bk9 ma2
  replace na0 := cell_later bk9 na0
  replace na1 := cell_later bk9 na1
  replace na2 := cell_later bk9 na2
  replace hB := below_more hB bk9
  clear bk9
  have hn7 := Below.new w9 (.cells #[.int .i64 m.l, .int .u64 m.c, .int .i64 m.i] 24)
  replace a0 := cell_later hn7 a0
  replace a1 := cell_later hn7 a1
  replace a2 := cell_later hn7 a2
  replace b0 := cell_later hn7 b0
  replace b1 := cell_later hn7 b1
  replace b2 := cell_later hn7 b2
  replace ga0 := cell_later hn7 ga0
  replace ga1 := cell_later hn7 ga1
  replace ga2 := cell_later hn7 ga2
  replace gb0 := cell_later hn7 gb0
  replace gb1 := cell_later hn7 gb1
  replace gb2 := cell_later hn7 gb2
  replace ma0 := cell_later hn7 ma0
  replace ma1 := cell_later hn7 ma1
  replace ma2 := cell_later hn7 ma2
  replace na0 := cell_later hn7 na0
  replace na1 := cell_later hn7 na1
  replace na2 := cell_later hn7 na2
  replace hB := below_more hB hn7
  clear hn7
  have mb0 : (w9.alloc (.cells #[.int .i64 m.l, .int .u64 m.c, .int .i64 m.i] 24)).cell? ⟨w9.heap.size, 0, none⟩ = some (.int .i64 m.l) := by simp
  have mb1 : (w9.alloc (.cells #[.int .i64 m.l, .int .u64 m.c, .int .i64 m.i] 24)).cell? ⟨w9.heap.size, 1, none⟩ = some (.int .u64 m.c) := by simp
  have mb2 : (w9.alloc (.cells #[.int .i64 m.l, .int .u64 m.c, .int .i64 m.i] 24)).cell? ⟨w9.heap.size, 2, none⟩ = some (.int .i64 m.i) := by simp
  have hn8 := Below.new (w9.alloc (.cells #[.int .i64 m.l, .int .u64 m.c, .int .i64 m.i] 24)) (.cells #[.int .i64 n.l, .int .u64 n.c, .int .i64 n.i] 24)
  replace a0 := cell_later hn8 a0
  replace a1 := cell_later hn8 a1
  replace a2 := cell_later hn8 a2
  replace b0 := cell_later hn8 b0
  replace b1 := cell_later hn8 b1
  replace b2 := cell_later hn8 b2
  replace ga0 := cell_later hn8 ga0
  replace ga1 := cell_later hn8 ga1
  replace ga2 := cell_later hn8 ga2
  replace gb0 := cell_later hn8 gb0
  replace gb1 := cell_later hn8 gb1
  replace gb2 := cell_later hn8 gb2
  replace ma0 := cell_later hn8 ma0
  replace ma1 := cell_later hn8 ma1
  replace ma2 := cell_later hn8 ma2
  replace na0 := cell_later hn8 na0
  replace na1 := cell_later hn8 na1
  replace na2 := cell_later hn8 na2
  replace mb0 := cell_later hn8 mb0
  replace mb1 := cell_later hn8 mb1
  replace mb2 := cell_later hn8 mb2
  replace hB := below_more hB hn8
  clear hn8
  have nb0 : ((w9.alloc (.cells #[.int .i64 m.l, .int .u64 m.c, .int .i64 m.i] 24)).alloc (.cells #[.int .i64 n.l, .int .u64 n.c, .int .i64 n.i] 24)).cell? ⟨w9.heap.size + 1, 0, none⟩ = some (.int .i64 n.l) := by simp
  have nb1 : ((w9.alloc (.cells #[.int .i64 m.l, .int .u64 m.c, .int .i64 m.i] 24)).alloc (.cells #[.int .i64 n.l, .int .u64 n.c, .int .i64 n.i] 24)).cell? ⟨w9.heap.size + 1, 1, none⟩ = some (.int .u64 n.c) := by simp
  have nb2 : ((w9.alloc (.cells #[.int .i64 m.l, .int .u64 m.c, .int .i64 m.i] 24)).alloc (.cells #[.int .i64 n.l, .int .u64 n.c, .int .i64 n.i] 24)).cell? ⟨w9.heap.size + 1, 2, none⟩ = some (.int .i64 n.i) := by simp
  go_wp2
  go_ret
  exact ⟨rfl, hB⟩

end Go.Proofs.YtfpjbefhfkembaaDoor
