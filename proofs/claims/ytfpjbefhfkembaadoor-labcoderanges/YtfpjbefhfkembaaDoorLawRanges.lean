/- LabcodeRanges, walked: for every two labels and every text it returns true. -/
import Derived.Test.YtfpjbefhfkembaaDoorLcE
namespace Go.Proofs.YtfpjbefhfkembaaDoor
open Go.RowKit Go.Shelf Go.Proofs.Fld Go.Proofs.Cats Go.Proofs.Lcd

attribute [local go_sem] bs_toList

theorem putRange_ok {a b : Lab} (h : a.under b = true) : putRangeR a b = (labB a ++ labB b, 0) := by
  have hr : (a.right && b.right) = true := by
    unfold Lab.under at h
    simp only [Bool.and_eq_true] at h
    rw [h.1.1, h.1.2]; rfl
  unfold putRangeR
  rw [if_pos hr, if_pos h]
theorem putRange_no {a b : Lab} (h : a.under b = false) : ∃ c : Int, putRangeR a b = ([], c) ∧ c ≠ 0 := by
  unfold putRangeR
  by_cases hr : (a.right && b.right) = true
  · rw [if_pos hr, if_neg (by rw [h]; decide)]; exact ⟨40, rfl, by decide⟩
  · rw [if_neg hr]; exact ⟨20, rfl, by decide⟩
theorem under_rights {a b : Lab} (h : a.under b = true) : a.right = true ∧ b.right = true := by
  unfold Lab.under at h
  simp only [Bool.and_eq_true] at h
  exact h.1
theorem getRange_put {a b : Lab} (ha : a.fits) (hb : b.fits) (h : a.under b = true) (l : List UInt8) : getRangeR (labB a ++ labB b ++ l) = (a, b, l, 0) := by
  obtain ⟨h1, h2⟩ := under_rights h
  have e1 : getR (labB a ++ labB b ++ l) = (a, labB b ++ l, 0) := by rw [List.append_assoc]; exact getR_labB ha h1 _
  have e2 : getR (labB b ++ l) = (b, l, 0) := getR_labB hb h2 _
  unfold getRangeR
  rw [e1]
  simp only
  rw [e2]
  simp [h]
theorem range_back {l : List UInt8} (h : (getRangeR l).2.2.2 = 0) : ∃ m n q, getRangeR l = (m, n, q, 0) ∧ m.under n = true ∧ m.fits ∧ n.fits ∧ labB m ++ labB n ++ q = l := by
  by_cases h1 : (getR l).2.2 = 0
  · by_cases h2 : (getR (getR l).2.1).2.2 = 0
    · cases h3 : (getR l).1.under (getR (getR l).2.1).1
      · rw [rangeR_3 h1 h2 h3] at h; exact absurd h (by decide)
      · obtain ⟨a1, a2, a3⟩ := getR_zero h1
        obtain ⟨b1, b2, b3⟩ := getR_zero h2
        refine ⟨_, _, _, rangeR_4 h1 h2 h3, h3, getR_fits _, getR_fits _, ?_⟩
        rw [a3] at b1 b3 ⊢
        simp only at b1 b3 ⊢
        rw [b3]
        simp only
        rw [List.append_assoc, labB_back b1, labB_back a1]
    · rw [rangeR_2 h1 h2] at h; exact absurd h h2
  · rw [rangeR_1 h1] at h; exact absurd h h1

set_option maxRecDepth 100000 in
set_option maxHeartbeats 4000000 in
theorem ranges_a (s : Sn) (t : SnL) (hq : t.q = true) (a b : Lab) (ha : a.fits) (hb : b.fits) (x : List UInt8) (hx : x.length ≤ 9223372036854775807) (h1 : a.under b = true) (h2 : (getRangeR (x.take 300)).2.2.2 = 0) (w : World) (hs : SentL s t w) :
    Calls Tryd.prog 6 #[.agg #[.int .i64 a.l, .int .u64 a.c, .int .i64 a.i], .agg #[.int .i64 b.l, .int .u64 b.c, .int .i64 b.i], .string (bs x)] w fun e w' => e = .returned (.bool true) ∧ Below w.heap.size w w' := by
  have HS := Lib.hid hs
  obtain ⟨l, hl⟩ : ∃ l, x.take 300 = l := ⟨_, rfl⟩
  have zl : (bs l).size ≤ 300 := by rw [bs_size, ← hl, List.length_take]; omega
  have HA := Lib.hid (fun w => cutA x hx w)
  have HP := Lib.hid (fun w h => PutRange_any s t hq a b ha hb w h)
  have HU := Lib.hid (fun w => underA a b ha hb w)
  have HG2 := Lib.hid (fun w h => GetRange_any s t hq l w h)
  rw [hl] at h2
  obtain ⟨m, n, q, hm, hu2, hfm, hfn, hback⟩ := range_back h2
  have HP2 := Lib.hid (fun w h => PutRange_any s t hq m n hfm hfn w h)
  have HU2 := Lib.hid (fun w => underA m n hfm hfn w)
  have hap2 : bs (labB m ++ labB n) ++ bs q = bs l := by rw [bs_append, hback]
  have z1 : (bs (labB m ++ labB n)).size = 20 := by rw [bs_size, List.length_append, labB_length, labB_length]
  have z2 : (bs q).size ≤ 300 := by
    have := congrArg List.length hback
    rw [List.length_append] at this
    rw [bs_size] at zl ⊢
    omega
  have HM := Lib.hid (And.intro hm (And.intro (putRange_ok hu2) hu2))
  have HG := Lib.hid (fun w h => GetRange_any s t hq (labB a ++ labB b ++ l) w h)
  have hap : bs (labB a ++ labB b) ++ bs l = bs (labB a ++ labB b ++ l) := bs_append _ _
  have z0 : (bs (labB a ++ labB b)).size = 20 := by rw [bs_size, List.length_append, labB_length, labB_length]
  have HE := Lib.hid (And.intro hl (And.intro (putRange_ok h1) (And.intro (getRange_put ha hb h1 l) h1)))
  clear hs ha hb hx hl h1 h2 hq hm hu2 hfm hfn hback
  have hn1 := Below.new w (.cells #[.int .i64 a.l, .int .u64 a.c, .int .i64 a.i] 24)
  have hB := hn1
  have a0 : (w.alloc (.cells #[.int .i64 a.l, .int .u64 a.c, .int .i64 a.i] 24)).cell? ⟨w.heap.size, 0, none⟩ = some (.int .i64 a.l) := by simp
  have a1 : (w.alloc (.cells #[.int .i64 a.l, .int .u64 a.c, .int .i64 a.i] 24)).cell? ⟨w.heap.size, 1, none⟩ = some (.int .u64 a.c) := by simp
  have a2 : (w.alloc (.cells #[.int .i64 a.l, .int .u64 a.c, .int .i64 a.i] 24)).cell? ⟨w.heap.size, 2, none⟩ = some (.int .i64 a.i) := by simp
  have hn2 := Below.new (w.alloc (.cells #[.int .i64 a.l, .int .u64 a.c, .int .i64 a.i] 24)) (.cells #[.int .i64 b.l, .int .u64 b.c, .int .i64 b.i] 24)
  replace a0 := cell_later hn2 a0
  replace a1 := cell_later hn2 a1
  replace a2 := cell_later hn2 a2
  replace hB := below_more hB hn2
  have b0 : ((w.alloc (.cells #[.int .i64 a.l, .int .u64 a.c, .int .i64 a.i] 24)).alloc (.cells #[.int .i64 b.l, .int .u64 b.c, .int .i64 b.i] 24)).cell? ⟨w.heap.size + 1, 0, none⟩ = some (.int .i64 b.l) := by simp
  have b1 : ((w.alloc (.cells #[.int .i64 a.l, .int .u64 a.c, .int .i64 a.i] 24)).alloc (.cells #[.int .i64 b.l, .int .u64 b.c, .int .i64 b.i] 24)).cell? ⟨w.heap.size + 1, 1, none⟩ = some (.int .u64 b.c) := by simp
  have b2 : ((w.alloc (.cells #[.int .i64 a.l, .int .u64 a.c, .int .i64 a.i] 24)).alloc (.cells #[.int .i64 b.l, .int .u64 b.c, .int .i64 b.i] 24)).cell? ⟨w.heap.size + 1, 2, none⟩ = some (.int .i64 b.i) := by simp
  have e1 := Lb.eqInL a a
  rw [show Lab.same a a = true from (Lab.same_iff _ _).2 rfl] at e1
  have e2 := Lb.eqInL b b
  rw [show Lab.same b b = true from (Lab.same_iff _ _).2 rfl] at e2
  go_enter Tryd.func6, Tryd.ntmps6
  go_wp2_with (go_at_call 9; refine (shownA s t _ (HS.out.more hB)).mono ?_)
  rintro e w1 ⟨he, bk1⟩
  have he2 : e = .returned (.bool true) := by rw [he]
  subst he2
  clear he
  replace a0 := cell_later bk1 a0
  replace a1 := cell_later bk1 a1
  replace a2 := cell_later bk1 a2
  replace b0 := cell_later bk1 b0
  replace b1 := cell_later bk1 b1
  replace b2 := cell_later bk1 b2
  replace hB := below_more hB bk1
  clear bk1
  go_wp2_with (go_at_call 15; refine (HP.out _ (HS.out.more hB)).mono ?_)
  rintro e w2 ⟨he, bk2⟩
  have he2 : e = .returned (.tuple #[.string (bs (labB a ++ labB b)), .int .i64 0]) := by rw [he, HE.out.2.1]
  subst he2
  clear he
  replace a0 := cell_later bk2 a0
  replace a1 := cell_later bk2 a1
  replace a2 := cell_later bk2 a2
  replace b0 := cell_later bk2 b0
  replace b1 := cell_later bk2 b1
  replace b2 := cell_later bk2 b2
  replace hB := below_more hB bk2
  clear bk2
  go_wp2_with (go_at_call 13; refine (HA.out _).mono ?_)
  rintro e w3 ⟨he, hw3⟩
  have he2 : e = .returned (.string (bs l)) := by rw [he, HE.out.1]
  subst he2
  clear he
  obtain rfl := hw3
  go_wp2_with (go_at_call 17; refine (HG.out _ (HS.out.more hB)).mono ?_)
  rintro e w3 ⟨he, bk3⟩
  have he2 : e = .returned (.tuple #[.agg #[.int .i64 a.l, .int .u64 a.c, .int .i64 a.i], .agg #[.int .i64 b.l, .int .u64 b.c, .int .i64 b.i], .string (bs l), .int .i64 0]) := by rw [he, HE.out.2.2.1]
  subst he2
  clear he
  replace a0 := cell_later bk3 a0
  replace a1 := cell_later bk3 a1
  replace a2 := cell_later bk3 a2
  replace b0 := cell_later bk3 b0
  replace b1 := cell_later bk3 b1
  replace b2 := cell_later bk3 b2
  replace hB := below_more hB bk3
  clear bk3
  have hn3 := Below.new w3 (.cells #[.int .i64 a.l, .int .u64 a.c, .int .i64 a.i] 24)
  replace a0 := cell_later hn3 a0
  replace a1 := cell_later hn3 a1
  replace a2 := cell_later hn3 a2
  replace b0 := cell_later hn3 b0
  replace b1 := cell_later hn3 b1
  replace b2 := cell_later hn3 b2
  replace hB := below_more hB hn3
  clear hn3
  have ga0 : (w3.alloc (.cells #[.int .i64 a.l, .int .u64 a.c, .int .i64 a.i] 24)).cell? ⟨w3.heap.size, 0, none⟩ = some (.int .i64 a.l) := by simp
  have ga1 : (w3.alloc (.cells #[.int .i64 a.l, .int .u64 a.c, .int .i64 a.i] 24)).cell? ⟨w3.heap.size, 1, none⟩ = some (.int .u64 a.c) := by simp
  have ga2 : (w3.alloc (.cells #[.int .i64 a.l, .int .u64 a.c, .int .i64 a.i] 24)).cell? ⟨w3.heap.size, 2, none⟩ = some (.int .i64 a.i) := by simp
  have hn4 := Below.new (w3.alloc (.cells #[.int .i64 a.l, .int .u64 a.c, .int .i64 a.i] 24)) (.cells #[.int .i64 b.l, .int .u64 b.c, .int .i64 b.i] 24)
  replace a0 := cell_later hn4 a0
  replace a1 := cell_later hn4 a1
  replace a2 := cell_later hn4 a2
  replace b0 := cell_later hn4 b0
  replace b1 := cell_later hn4 b1
  replace b2 := cell_later hn4 b2
  replace ga0 := cell_later hn4 ga0
  replace ga1 := cell_later hn4 ga1
  replace ga2 := cell_later hn4 ga2
  replace hB := below_more hB hn4
  clear hn4
  have gb0 : ((w3.alloc (.cells #[.int .i64 a.l, .int .u64 a.c, .int .i64 a.i] 24)).alloc (.cells #[.int .i64 b.l, .int .u64 b.c, .int .i64 b.i] 24)).cell? ⟨w3.heap.size + 1, 0, none⟩ = some (.int .i64 b.l) := by simp
  have gb1 : ((w3.alloc (.cells #[.int .i64 a.l, .int .u64 a.c, .int .i64 a.i] 24)).alloc (.cells #[.int .i64 b.l, .int .u64 b.c, .int .i64 b.i] 24)).cell? ⟨w3.heap.size + 1, 1, none⟩ = some (.int .u64 b.c) := by simp
  have gb2 : ((w3.alloc (.cells #[.int .i64 a.l, .int .u64 a.c, .int .i64 a.i] 24)).alloc (.cells #[.int .i64 b.l, .int .u64 b.c, .int .i64 b.i] 24)).cell? ⟨w3.heap.size + 1, 2, none⟩ = some (.int .i64 b.i) := by simp
  go_wp2_with (go_at_call 13; refine (HA.out _).mono ?_)
  rintro e w4 ⟨he, hw4⟩
  have he2 : e = .returned (.string (bs l)) := by rw [he, HE.out.1]
  subst he2
  clear he
  obtain rfl := hw4
  go_wp2_with (go_at_call 13; refine (HA.out _).mono ?_)
  rintro e w4 ⟨he, hw4⟩
  have he2 : e = .returned (.string (bs l)) := by rw [he, HE.out.1]
  subst he2
  clear he
  obtain rfl := hw4
  go_wp2_with (go_at_call 17; refine (HG2.out _ (HS.out.more hB)).mono ?_)
  rintro e w4 ⟨he, bk4⟩
  have he2 : e = .returned (.tuple #[.agg #[.int .i64 m.l, .int .u64 m.c, .int .i64 m.i], .agg #[.int .i64 n.l, .int .u64 n.c, .int .i64 n.i], .string (bs q), .int .i64 0]) := by rw [he, HM.out.1]
  subst he2
  clear he
  replace a0 := cell_later bk4 a0
  replace a1 := cell_later bk4 a1
  replace a2 := cell_later bk4 a2
  replace b0 := cell_later bk4 b0
  replace b1 := cell_later bk4 b1
  replace b2 := cell_later bk4 b2
  replace ga0 := cell_later bk4 ga0
  replace ga1 := cell_later bk4 ga1
  replace ga2 := cell_later bk4 ga2
  replace gb0 := cell_later bk4 gb0
  replace gb1 := cell_later bk4 gb1
  replace gb2 := cell_later bk4 gb2
  replace hB := below_more hB bk4
  clear bk4
  have hn5 := Below.new w4 (.cells #[.int .i64 m.l, .int .u64 m.c, .int .i64 m.i] 24)
  replace a0 := cell_later hn5 a0
  replace a1 := cell_later hn5 a1
  replace a2 := cell_later hn5 a2
  replace b0 := cell_later hn5 b0
  replace b1 := cell_later hn5 b1
  replace b2 := cell_later hn5 b2
  replace ga0 := cell_later hn5 ga0
  replace ga1 := cell_later hn5 ga1
  replace ga2 := cell_later hn5 ga2
  replace gb0 := cell_later hn5 gb0
  replace gb1 := cell_later hn5 gb1
  replace gb2 := cell_later hn5 gb2
  replace hB := below_more hB hn5
  clear hn5
  have ma0 : (w4.alloc (.cells #[.int .i64 m.l, .int .u64 m.c, .int .i64 m.i] 24)).cell? ⟨w4.heap.size, 0, none⟩ = some (.int .i64 m.l) := by simp
  have ma1 : (w4.alloc (.cells #[.int .i64 m.l, .int .u64 m.c, .int .i64 m.i] 24)).cell? ⟨w4.heap.size, 1, none⟩ = some (.int .u64 m.c) := by simp
  have ma2 : (w4.alloc (.cells #[.int .i64 m.l, .int .u64 m.c, .int .i64 m.i] 24)).cell? ⟨w4.heap.size, 2, none⟩ = some (.int .i64 m.i) := by simp
  have hn6 := Below.new (w4.alloc (.cells #[.int .i64 m.l, .int .u64 m.c, .int .i64 m.i] 24)) (.cells #[.int .i64 n.l, .int .u64 n.c, .int .i64 n.i] 24)
  replace a0 := cell_later hn6 a0
  replace a1 := cell_later hn6 a1
  replace a2 := cell_later hn6 a2
  replace b0 := cell_later hn6 b0
  replace b1 := cell_later hn6 b1
  replace b2 := cell_later hn6 b2
  replace ga0 := cell_later hn6 ga0
  replace ga1 := cell_later hn6 ga1
  replace ga2 := cell_later hn6 ga2
  replace gb0 := cell_later hn6 gb0
  replace gb1 := cell_later hn6 gb1
  replace gb2 := cell_later hn6 gb2
  replace ma0 := cell_later hn6 ma0
  replace ma1 := cell_later hn6 ma1
  replace ma2 := cell_later hn6 ma2
  replace hB := below_more hB hn6
  clear hn6
  have na0 : ((w4.alloc (.cells #[.int .i64 m.l, .int .u64 m.c, .int .i64 m.i] 24)).alloc (.cells #[.int .i64 n.l, .int .u64 n.c, .int .i64 n.i] 24)).cell? ⟨w4.heap.size + 1, 0, none⟩ = some (.int .i64 n.l) := by simp
  have na1 : ((w4.alloc (.cells #[.int .i64 m.l, .int .u64 m.c, .int .i64 m.i] 24)).alloc (.cells #[.int .i64 n.l, .int .u64 n.c, .int .i64 n.i] 24)).cell? ⟨w4.heap.size + 1, 1, none⟩ = some (.int .u64 n.c) := by simp
  have na2 : ((w4.alloc (.cells #[.int .i64 m.l, .int .u64 m.c, .int .i64 m.i] 24)).alloc (.cells #[.int .i64 n.l, .int .u64 n.c, .int .i64 n.i] 24)).cell? ⟨w4.heap.size + 1, 2, none⟩ = some (.int .i64 n.i) := by simp
  go_wp2_with (go_at_call 15; refine (HP2.out _ (HS.out.more hB)).mono ?_)
  rintro e w5 ⟨he, bk5⟩
  have he2 : e = .returned (.tuple #[.string (bs (labB m ++ labB n)), .int .i64 0]) := by rw [he, HM.out.2.1]
  subst he2
  clear he
  replace a0 := cell_later bk5 a0
  replace a1 := cell_later bk5 a1
  replace a2 := cell_later bk5 a2
  replace b0 := cell_later bk5 b0
  replace b1 := cell_later bk5 b1
  replace b2 := cell_later bk5 b2
  replace ga0 := cell_later bk5 ga0
  replace ga1 := cell_later bk5 ga1
  replace ga2 := cell_later bk5 ga2
  replace gb0 := cell_later bk5 gb0
  replace gb1 := cell_later bk5 gb1
  replace gb2 := cell_later bk5 gb2
  replace ma0 := cell_later bk5 ma0
  replace ma1 := cell_later bk5 ma1
  replace ma2 := cell_later bk5 ma2
  replace na0 := cell_later bk5 na0
  replace na1 := cell_later bk5 na1
  replace na2 := cell_later bk5 na2
  replace hB := below_more hB bk5
  clear bk5
  go_wp2_with (go_at_call 25; refine (HU.out _).mono ?_)
  rintro e w6 ⟨he, bk6⟩
  have he2 : e = .returned (.bool true) := by rw [he, HE.out.2.2.2]
  subst he2
  clear he
  replace a0 := cell_later bk6 a0
  replace a1 := cell_later bk6 a1
  replace a2 := cell_later bk6 a2
  replace b0 := cell_later bk6 b0
  replace b1 := cell_later bk6 b1
  replace b2 := cell_later bk6 b2
  replace ga0 := cell_later bk6 ga0
  replace ga1 := cell_later bk6 ga1
  replace ga2 := cell_later bk6 ga2
  replace gb0 := cell_later bk6 gb0
  replace gb1 := cell_later bk6 gb1
  replace gb2 := cell_later bk6 gb2
  replace ma0 := cell_later bk6 ma0
  replace ma1 := cell_later bk6 ma1
  replace ma2 := cell_later bk6 ma2
  replace na0 := cell_later bk6 na0
  replace na1 := cell_later bk6 na1
  replace na2 := cell_later bk6 na2
  replace hB := below_more hB bk6
  clear bk6
  go_wp2_with (go_at_call 25; refine (HU2.out _).mono ?_)
  rintro e w7 ⟨he, bk7⟩
  have he2 : e = .returned (.bool true) := by rw [he, HM.out.2.2]
  subst he2
  clear he
  replace a0 := cell_later bk7 a0
  replace a1 := cell_later bk7 a1
  replace a2 := cell_later bk7 a2
  replace b0 := cell_later bk7 b0
  replace b1 := cell_later bk7 b1
  replace b2 := cell_later bk7 b2
  replace ga0 := cell_later bk7 ga0
  replace ga1 := cell_later bk7 ga1
  replace ga2 := cell_later bk7 ga2
  replace gb0 := cell_later bk7 gb0
  replace gb1 := cell_later bk7 gb1
  replace gb2 := cell_later bk7 gb2
  replace ma0 := cell_later bk7 ma0
  replace ma1 := cell_later bk7 ma1
  replace ma2 := cell_later bk7 ma2
  replace na0 := cell_later bk7 na0
  replace na1 := cell_later bk7 na1
  replace na2 := cell_later bk7 na2
  replace hB := below_more hB bk7
  clear bk7
  go_wp2_with (go_at_call 13; refine (HA.out _).mono ?_)
  rintro e w8 ⟨he, hw8⟩
  have he2 : e = .returned (.string (bs l)) := by rw [he, HE.out.1]
  subst he2
  clear he
  obtain rfl := hw8
  go_wp2
  go_ret
  exact ⟨rfl, hB⟩

set_option maxRecDepth 100000 in
set_option maxHeartbeats 4000000 in
theorem ranges_b (s : Sn) (t : SnL) (hq : t.q = true) (a b : Lab) (ha : a.fits) (hb : b.fits) (x : List UInt8) (hx : x.length ≤ 9223372036854775807) (h1 : a.under b = true) (h2 : (getRangeR (x.take 300)).2.2.2 ≠ 0) (w : World) (hs : SentL s t w) :
    Calls Tryd.prog 6 #[.agg #[.int .i64 a.l, .int .u64 a.c, .int .i64 a.i], .agg #[.int .i64 b.l, .int .u64 b.c, .int .i64 b.i], .string (bs x)] w fun e w' => e = .returned (.bool true) ∧ Below w.heap.size w w' := by
  have HS := Lib.hid hs
  obtain ⟨l, hl⟩ : ∃ l, x.take 300 = l := ⟨_, rfl⟩
  have zl : (bs l).size ≤ 300 := by rw [bs_size, ← hl, List.length_take]; omega
  have HA := Lib.hid (fun w => cutA x hx w)
  have HP := Lib.hid (fun w h => PutRange_any s t hq a b ha hb w h)
  have HU := Lib.hid (fun w => underA a b ha hb w)
  have HG2 := Lib.hid (fun w h => GetRange_any s t hq l w h)
  rw [hl] at h2
  obtain ⟨v, hv⟩ : ∃ v, (getRangeR l).2.2.2 = v := ⟨_, rfl⟩
  have hm : getRangeR l = (⟨0, 0, 0⟩, ⟨0, 0, 0⟩, [], v) := by rw [rangeR_err h2, hv]; rfl
  have KN := Lib.hid (show (v != 0) = true by rw [← hv]; simpa using h2)
  obtain ⟨p, k, hp⟩ : ∃ p k, putRangeR ⟨0, 0, 0⟩ ⟨0, 0, 0⟩ = (p, k) := ⟨_, _, rfl⟩
  have HP2 := Lib.hid (fun w h => PutRange_any s t hq ⟨0, 0, 0⟩ ⟨0, 0, 0⟩ (by unfold Lab.fits U64; decide) (by unfold Lab.fits U64; decide) w h)
  have HM := Lib.hid (And.intro hm hp)
  have HG := Lib.hid (fun w h => GetRange_any s t hq (labB a ++ labB b ++ l) w h)
  have hap : bs (labB a ++ labB b) ++ bs l = bs (labB a ++ labB b ++ l) := bs_append _ _
  have z0 : (bs (labB a ++ labB b)).size = 20 := by rw [bs_size, List.length_append, labB_length, labB_length]
  have HE := Lib.hid (And.intro hl (And.intro (putRange_ok h1) (And.intro (getRange_put ha hb h1 l) h1)))
  clear hs ha hb hx hl h1 h2 hq hv hm hp
  have hn1 := Below.new w (.cells #[.int .i64 a.l, .int .u64 a.c, .int .i64 a.i] 24)
  have hB := hn1
  have a0 : (w.alloc (.cells #[.int .i64 a.l, .int .u64 a.c, .int .i64 a.i] 24)).cell? ⟨w.heap.size, 0, none⟩ = some (.int .i64 a.l) := by simp
  have a1 : (w.alloc (.cells #[.int .i64 a.l, .int .u64 a.c, .int .i64 a.i] 24)).cell? ⟨w.heap.size, 1, none⟩ = some (.int .u64 a.c) := by simp
  have a2 : (w.alloc (.cells #[.int .i64 a.l, .int .u64 a.c, .int .i64 a.i] 24)).cell? ⟨w.heap.size, 2, none⟩ = some (.int .i64 a.i) := by simp
  have hn2 := Below.new (w.alloc (.cells #[.int .i64 a.l, .int .u64 a.c, .int .i64 a.i] 24)) (.cells #[.int .i64 b.l, .int .u64 b.c, .int .i64 b.i] 24)
  replace a0 := cell_later hn2 a0
  replace a1 := cell_later hn2 a1
  replace a2 := cell_later hn2 a2
  replace hB := below_more hB hn2
  have b0 : ((w.alloc (.cells #[.int .i64 a.l, .int .u64 a.c, .int .i64 a.i] 24)).alloc (.cells #[.int .i64 b.l, .int .u64 b.c, .int .i64 b.i] 24)).cell? ⟨w.heap.size + 1, 0, none⟩ = some (.int .i64 b.l) := by simp
  have b1 : ((w.alloc (.cells #[.int .i64 a.l, .int .u64 a.c, .int .i64 a.i] 24)).alloc (.cells #[.int .i64 b.l, .int .u64 b.c, .int .i64 b.i] 24)).cell? ⟨w.heap.size + 1, 1, none⟩ = some (.int .u64 b.c) := by simp
  have b2 : ((w.alloc (.cells #[.int .i64 a.l, .int .u64 a.c, .int .i64 a.i] 24)).alloc (.cells #[.int .i64 b.l, .int .u64 b.c, .int .i64 b.i] 24)).cell? ⟨w.heap.size + 1, 2, none⟩ = some (.int .i64 b.i) := by simp
  have e1 := Lb.eqInL a a
  rw [show Lab.same a a = true from (Lab.same_iff _ _).2 rfl] at e1
  have e2 := Lb.eqInL b b
  rw [show Lab.same b b = true from (Lab.same_iff _ _).2 rfl] at e2
  go_enter Tryd.func6, Tryd.ntmps6
  go_wp2_with (go_at_call 9; refine (shownA s t _ (HS.out.more hB)).mono ?_)
  rintro e w1 ⟨he, bk1⟩
  have he2 : e = .returned (.bool true) := by rw [he]
  subst he2
  clear he
  replace a0 := cell_later bk1 a0
  replace a1 := cell_later bk1 a1
  replace a2 := cell_later bk1 a2
  replace b0 := cell_later bk1 b0
  replace b1 := cell_later bk1 b1
  replace b2 := cell_later bk1 b2
  replace hB := below_more hB bk1
  clear bk1
  go_wp2_with (go_at_call 15; refine (HP.out _ (HS.out.more hB)).mono ?_)
  rintro e w2 ⟨he, bk2⟩
  have he2 : e = .returned (.tuple #[.string (bs (labB a ++ labB b)), .int .i64 0]) := by rw [he, HE.out.2.1]
  subst he2
  clear he
  replace a0 := cell_later bk2 a0
  replace a1 := cell_later bk2 a1
  replace a2 := cell_later bk2 a2
  replace b0 := cell_later bk2 b0
  replace b1 := cell_later bk2 b1
  replace b2 := cell_later bk2 b2
  replace hB := below_more hB bk2
  clear bk2
  go_wp2_with (go_at_call 13; refine (HA.out _).mono ?_)
  rintro e w3 ⟨he, hw3⟩
  have he2 : e = .returned (.string (bs l)) := by rw [he, HE.out.1]
  subst he2
  clear he
  obtain rfl := hw3
  go_wp2_with (go_at_call 17; refine (HG.out _ (HS.out.more hB)).mono ?_)
  rintro e w3 ⟨he, bk3⟩
  have he2 : e = .returned (.tuple #[.agg #[.int .i64 a.l, .int .u64 a.c, .int .i64 a.i], .agg #[.int .i64 b.l, .int .u64 b.c, .int .i64 b.i], .string (bs l), .int .i64 0]) := by rw [he, HE.out.2.2.1]
  subst he2
  clear he
  replace a0 := cell_later bk3 a0
  replace a1 := cell_later bk3 a1
  replace a2 := cell_later bk3 a2
  replace b0 := cell_later bk3 b0
  replace b1 := cell_later bk3 b1
  replace b2 := cell_later bk3 b2
  replace hB := below_more hB bk3
  clear bk3
  have hn3 := Below.new w3 (.cells #[.int .i64 a.l, .int .u64 a.c, .int .i64 a.i] 24)
  replace a0 := cell_later hn3 a0
  replace a1 := cell_later hn3 a1
  replace a2 := cell_later hn3 a2
  replace b0 := cell_later hn3 b0
  replace b1 := cell_later hn3 b1
  replace b2 := cell_later hn3 b2
  replace hB := below_more hB hn3
  clear hn3
  have ga0 : (w3.alloc (.cells #[.int .i64 a.l, .int .u64 a.c, .int .i64 a.i] 24)).cell? ⟨w3.heap.size, 0, none⟩ = some (.int .i64 a.l) := by simp
  have ga1 : (w3.alloc (.cells #[.int .i64 a.l, .int .u64 a.c, .int .i64 a.i] 24)).cell? ⟨w3.heap.size, 1, none⟩ = some (.int .u64 a.c) := by simp
  have ga2 : (w3.alloc (.cells #[.int .i64 a.l, .int .u64 a.c, .int .i64 a.i] 24)).cell? ⟨w3.heap.size, 2, none⟩ = some (.int .i64 a.i) := by simp
  have hn4 := Below.new (w3.alloc (.cells #[.int .i64 a.l, .int .u64 a.c, .int .i64 a.i] 24)) (.cells #[.int .i64 b.l, .int .u64 b.c, .int .i64 b.i] 24)
  replace a0 := cell_later hn4 a0
  replace a1 := cell_later hn4 a1
  replace a2 := cell_later hn4 a2
  replace b0 := cell_later hn4 b0
  replace b1 := cell_later hn4 b1
  replace b2 := cell_later hn4 b2
  replace ga0 := cell_later hn4 ga0
  replace ga1 := cell_later hn4 ga1
  replace ga2 := cell_later hn4 ga2
  replace hB := below_more hB hn4
  clear hn4
  have gb0 : ((w3.alloc (.cells #[.int .i64 a.l, .int .u64 a.c, .int .i64 a.i] 24)).alloc (.cells #[.int .i64 b.l, .int .u64 b.c, .int .i64 b.i] 24)).cell? ⟨w3.heap.size + 1, 0, none⟩ = some (.int .i64 b.l) := by simp
  have gb1 : ((w3.alloc (.cells #[.int .i64 a.l, .int .u64 a.c, .int .i64 a.i] 24)).alloc (.cells #[.int .i64 b.l, .int .u64 b.c, .int .i64 b.i] 24)).cell? ⟨w3.heap.size + 1, 1, none⟩ = some (.int .u64 b.c) := by simp
  have gb2 : ((w3.alloc (.cells #[.int .i64 a.l, .int .u64 a.c, .int .i64 a.i] 24)).alloc (.cells #[.int .i64 b.l, .int .u64 b.c, .int .i64 b.i] 24)).cell? ⟨w3.heap.size + 1, 2, none⟩ = some (.int .i64 b.i) := by simp
  go_wp2_with (go_at_call 13; refine (HA.out _).mono ?_)
  rintro e w4 ⟨he, hw4⟩
  have he2 : e = .returned (.string (bs l)) := by rw [he, HE.out.1]
  subst he2
  clear he
  obtain rfl := hw4
  go_wp2_with (go_at_call 13; refine (HA.out _).mono ?_)
  rintro e w4 ⟨he, hw4⟩
  have he2 : e = .returned (.string (bs l)) := by rw [he, HE.out.1]
  subst he2
  clear he
  obtain rfl := hw4
  go_wp2_with (go_at_call 17; refine (HG2.out _ (HS.out.more hB)).mono ?_)
  rintro e w4 ⟨he, bk4⟩
  have he2 : e = .returned (.tuple #[.agg #[.int .i64 0, .int .u64 0, .int .i64 0], .agg #[.int .i64 0, .int .u64 0, .int .i64 0], .string (bs []), .int .i64 v]) := by rw [he, HM.out.1]; rfl
  subst he2
  clear he
  replace a0 := cell_later bk4 a0
  replace a1 := cell_later bk4 a1
  replace a2 := cell_later bk4 a2
  replace b0 := cell_later bk4 b0
  replace b1 := cell_later bk4 b1
  replace b2 := cell_later bk4 b2
  replace ga0 := cell_later bk4 ga0
  replace ga1 := cell_later bk4 ga1
  replace ga2 := cell_later bk4 ga2
  replace gb0 := cell_later bk4 gb0
  replace gb1 := cell_later bk4 gb1
  replace gb2 := cell_later bk4 gb2
  replace hB := below_more hB bk4
  clear bk4
  have hn5 := Below.new w4 (.cells #[.int .i64 0, .int .u64 0, .int .i64 0] 24)
  replace a0 := cell_later hn5 a0
  replace a1 := cell_later hn5 a1
  replace a2 := cell_later hn5 a2
  replace b0 := cell_later hn5 b0
  replace b1 := cell_later hn5 b1
  replace b2 := cell_later hn5 b2
  replace ga0 := cell_later hn5 ga0
  replace ga1 := cell_later hn5 ga1
  replace ga2 := cell_later hn5 ga2
  replace gb0 := cell_later hn5 gb0
  replace gb1 := cell_later hn5 gb1
  replace gb2 := cell_later hn5 gb2
  replace hB := below_more hB hn5
  clear hn5
  have ma0 : (w4.alloc (.cells #[.int .i64 0, .int .u64 0, .int .i64 0] 24)).cell? ⟨w4.heap.size, 0, none⟩ = some (.int .i64 0) := by simp
  have ma1 : (w4.alloc (.cells #[.int .i64 0, .int .u64 0, .int .i64 0] 24)).cell? ⟨w4.heap.size, 1, none⟩ = some (.int .u64 0) := by simp
  have ma2 : (w4.alloc (.cells #[.int .i64 0, .int .u64 0, .int .i64 0] 24)).cell? ⟨w4.heap.size, 2, none⟩ = some (.int .i64 0) := by simp
  have hn6 := Below.new (w4.alloc (.cells #[.int .i64 0, .int .u64 0, .int .i64 0] 24)) (.cells #[.int .i64 0, .int .u64 0, .int .i64 0] 24)
  replace a0 := cell_later hn6 a0
  replace a1 := cell_later hn6 a1
  replace a2 := cell_later hn6 a2
  replace b0 := cell_later hn6 b0
  replace b1 := cell_later hn6 b1
  replace b2 := cell_later hn6 b2
  replace ga0 := cell_later hn6 ga0
  replace ga1 := cell_later hn6 ga1
  replace ga2 := cell_later hn6 ga2
  replace gb0 := cell_later hn6 gb0
  replace gb1 := cell_later hn6 gb1
  replace gb2 := cell_later hn6 gb2
  replace ma0 := cell_later hn6 ma0
  replace ma1 := cell_later hn6 ma1
  replace ma2 := cell_later hn6 ma2
  replace hB := below_more hB hn6
  clear hn6
  have na0 : ((w4.alloc (.cells #[.int .i64 0, .int .u64 0, .int .i64 0] 24)).alloc (.cells #[.int .i64 0, .int .u64 0, .int .i64 0] 24)).cell? ⟨w4.heap.size + 1, 0, none⟩ = some (.int .i64 0) := by simp
  have na1 : ((w4.alloc (.cells #[.int .i64 0, .int .u64 0, .int .i64 0] 24)).alloc (.cells #[.int .i64 0, .int .u64 0, .int .i64 0] 24)).cell? ⟨w4.heap.size + 1, 1, none⟩ = some (.int .u64 0) := by simp
  have na2 : ((w4.alloc (.cells #[.int .i64 0, .int .u64 0, .int .i64 0] 24)).alloc (.cells #[.int .i64 0, .int .u64 0, .int .i64 0] 24)).cell? ⟨w4.heap.size + 1, 2, none⟩ = some (.int .i64 0) := by simp
  go_wp2_with (go_at_call 15; refine (HP2.out _ (HS.out.more hB)).mono ?_)
  rintro e w5 ⟨he, bk5⟩
  have he2 : e = .returned (.tuple #[.string (bs p), .int .i64 k]) := by rw [he, HM.out.2]
  subst he2
  clear he
  replace a0 := cell_later bk5 a0
  replace a1 := cell_later bk5 a1
  replace a2 := cell_later bk5 a2
  replace b0 := cell_later bk5 b0
  replace b1 := cell_later bk5 b1
  replace b2 := cell_later bk5 b2
  replace ga0 := cell_later bk5 ga0
  replace ga1 := cell_later bk5 ga1
  replace ga2 := cell_later bk5 ga2
  replace gb0 := cell_later bk5 gb0
  replace gb1 := cell_later bk5 gb1
  replace gb2 := cell_later bk5 gb2
  replace ma0 := cell_later bk5 ma0
  replace ma1 := cell_later bk5 ma1
  replace ma2 := cell_later bk5 ma2
  replace na0 := cell_later bk5 na0
  replace na1 := cell_later bk5 na1
  replace na2 := cell_later bk5 na2
  replace hB := below_more hB bk5
  clear bk5
  go_wp2_with (go_at_call 25; refine (HU.out _).mono ?_)
  rintro e w6 ⟨he, bk6⟩
  have he2 : e = .returned (.bool true) := by rw [he, HE.out.2.2.2]
  subst he2
  clear he
  replace a0 := cell_later bk6 a0
  replace a1 := cell_later bk6 a1
  replace a2 := cell_later bk6 a2
  replace b0 := cell_later bk6 b0
  replace b1 := cell_later bk6 b1
  replace b2 := cell_later bk6 b2
  replace ga0 := cell_later bk6 ga0
  replace ga1 := cell_later bk6 ga1
  replace ga2 := cell_later bk6 ga2
  replace gb0 := cell_later bk6 gb0
  replace gb1 := cell_later bk6 gb1
  replace gb2 := cell_later bk6 gb2
  replace ma0 := cell_later bk6 ma0
  replace ma1 := cell_later bk6 ma1
  replace ma2 := cell_later bk6 ma2
  replace na0 := cell_later bk6 na0
  replace na1 := cell_later bk6 na1
  replace na2 := cell_later bk6 na2
  replace hB := below_more hB bk6
  clear bk6
  have hkn := KN.out
  go_wp2
  go_ret
  exact ⟨rfl, hB⟩

set_option maxRecDepth 100000 in
set_option maxHeartbeats 4000000 in
theorem ranges_c (s : Sn) (t : SnL) (hq : t.q = true) (a b : Lab) (ha : a.fits) (hb : b.fits) (x : List UInt8) (hx : x.length ≤ 9223372036854775807) (h1 : a.under b = false) (h2 : (getRangeR (x.take 300)).2.2.2 = 0) (w : World) (hs : SentL s t w) :
    Calls Tryd.prog 6 #[.agg #[.int .i64 a.l, .int .u64 a.c, .int .i64 a.i], .agg #[.int .i64 b.l, .int .u64 b.c, .int .i64 b.i], .string (bs x)] w fun e w' => e = .returned (.bool true) ∧ Below w.heap.size w w' := by
  have HS := Lib.hid hs
  obtain ⟨l, hl⟩ : ∃ l, x.take 300 = l := ⟨_, rfl⟩
  have zl : (bs l).size ≤ 300 := by rw [bs_size, ← hl, List.length_take]; omega
  have HA := Lib.hid (fun w => cutA x hx w)
  have HP := Lib.hid (fun w h => PutRange_any s t hq a b ha hb w h)
  have HU := Lib.hid (fun w => underA a b ha hb w)
  have HG2 := Lib.hid (fun w h => GetRange_any s t hq l w h)
  rw [hl] at h2
  obtain ⟨m, n, q, hm, hu2, hfm, hfn, hback⟩ := range_back h2
  have HP2 := Lib.hid (fun w h => PutRange_any s t hq m n hfm hfn w h)
  have HU2 := Lib.hid (fun w => underA m n hfm hfn w)
  have hap2 : bs (labB m ++ labB n) ++ bs q = bs l := by rw [bs_append, hback]
  have z1 : (bs (labB m ++ labB n)).size = 20 := by rw [bs_size, List.length_append, labB_length, labB_length]
  have z2 : (bs q).size ≤ 300 := by
    have := congrArg List.length hback
    rw [List.length_append] at this
    rw [bs_size] at zl ⊢
    omega
  have HM := Lib.hid (And.intro hm (And.intro (putRange_ok hu2) hu2))
  obtain ⟨c, hc, hcz⟩ := putRange_no h1
  have CN := Lib.hid (show (c == 0) = false by simpa using hcz)
  obtain ⟨m', n', q', v', hm'⟩ : ∃ m n q v, getRangeR l = (m, n, q, v) := ⟨_, _, _, _, rfl⟩
  have hap : bs [] ++ bs l = bs l := by rw [bs_append]; rfl
  have z0 : (bs []).size = 0 := rfl
  have HE := Lib.hid (And.intro hl (And.intro hc (And.intro hm' h1)))
  clear hs ha hb hx hl h1 h2 hq hm hu2 hfm hfn hback hc hcz hm'
  have hn1 := Below.new w (.cells #[.int .i64 a.l, .int .u64 a.c, .int .i64 a.i] 24)
  have hB := hn1
  have a0 : (w.alloc (.cells #[.int .i64 a.l, .int .u64 a.c, .int .i64 a.i] 24)).cell? ⟨w.heap.size, 0, none⟩ = some (.int .i64 a.l) := by simp
  have a1 : (w.alloc (.cells #[.int .i64 a.l, .int .u64 a.c, .int .i64 a.i] 24)).cell? ⟨w.heap.size, 1, none⟩ = some (.int .u64 a.c) := by simp
  have a2 : (w.alloc (.cells #[.int .i64 a.l, .int .u64 a.c, .int .i64 a.i] 24)).cell? ⟨w.heap.size, 2, none⟩ = some (.int .i64 a.i) := by simp
  have hn2 := Below.new (w.alloc (.cells #[.int .i64 a.l, .int .u64 a.c, .int .i64 a.i] 24)) (.cells #[.int .i64 b.l, .int .u64 b.c, .int .i64 b.i] 24)
  replace a0 := cell_later hn2 a0
  replace a1 := cell_later hn2 a1
  replace a2 := cell_later hn2 a2
  replace hB := below_more hB hn2
  have b0 : ((w.alloc (.cells #[.int .i64 a.l, .int .u64 a.c, .int .i64 a.i] 24)).alloc (.cells #[.int .i64 b.l, .int .u64 b.c, .int .i64 b.i] 24)).cell? ⟨w.heap.size + 1, 0, none⟩ = some (.int .i64 b.l) := by simp
  have b1 : ((w.alloc (.cells #[.int .i64 a.l, .int .u64 a.c, .int .i64 a.i] 24)).alloc (.cells #[.int .i64 b.l, .int .u64 b.c, .int .i64 b.i] 24)).cell? ⟨w.heap.size + 1, 1, none⟩ = some (.int .u64 b.c) := by simp
  have b2 : ((w.alloc (.cells #[.int .i64 a.l, .int .u64 a.c, .int .i64 a.i] 24)).alloc (.cells #[.int .i64 b.l, .int .u64 b.c, .int .i64 b.i] 24)).cell? ⟨w.heap.size + 1, 2, none⟩ = some (.int .i64 b.i) := by simp
  go_enter Tryd.func6, Tryd.ntmps6
  go_wp2_with (go_at_call 9; refine (shownA s t _ (HS.out.more hB)).mono ?_)
  rintro e w1 ⟨he, bk1⟩
  have he2 : e = .returned (.bool true) := by rw [he]
  subst he2
  clear he
  replace a0 := cell_later bk1 a0
  replace a1 := cell_later bk1 a1
  replace a2 := cell_later bk1 a2
  replace b0 := cell_later bk1 b0
  replace b1 := cell_later bk1 b1
  replace b2 := cell_later bk1 b2
  replace hB := below_more hB bk1
  clear bk1
  go_wp2_with (go_at_call 15; refine (HP.out _ (HS.out.more hB)).mono ?_)
  rintro e w2 ⟨he, bk2⟩
  have he2 : e = .returned (.tuple #[.string (bs []), .int .i64 c]) := by rw [he, HE.out.2.1]
  subst he2
  clear he
  replace a0 := cell_later bk2 a0
  replace a1 := cell_later bk2 a1
  replace a2 := cell_later bk2 a2
  replace b0 := cell_later bk2 b0
  replace b1 := cell_later bk2 b1
  replace b2 := cell_later bk2 b2
  replace hB := below_more hB bk2
  clear bk2
  go_wp2_with (go_at_call 13; refine (HA.out _).mono ?_)
  rintro e w3 ⟨he, hw3⟩
  have he2 : e = .returned (.string (bs l)) := by rw [he, HE.out.1]
  subst he2
  clear he
  obtain rfl := hw3
  go_wp2_with (go_at_call 17; refine (HG2.out _ (HS.out.more hB)).mono ?_)
  rintro e w3 ⟨he, bk3⟩
  have he2 : e = .returned (.tuple #[.agg #[.int .i64 m'.l, .int .u64 m'.c, .int .i64 m'.i], .agg #[.int .i64 n'.l, .int .u64 n'.c, .int .i64 n'.i], .string (bs q'), .int .i64 v']) := by rw [he, HE.out.2.2.1]
  subst he2
  clear he
  replace a0 := cell_later bk3 a0
  replace a1 := cell_later bk3 a1
  replace a2 := cell_later bk3 a2
  replace b0 := cell_later bk3 b0
  replace b1 := cell_later bk3 b1
  replace b2 := cell_later bk3 b2
  replace hB := below_more hB bk3
  clear bk3
  have hn3 := Below.new w3 (.cells #[.int .i64 m'.l, .int .u64 m'.c, .int .i64 m'.i] 24)
  replace a0 := cell_later hn3 a0
  replace a1 := cell_later hn3 a1
  replace a2 := cell_later hn3 a2
  replace b0 := cell_later hn3 b0
  replace b1 := cell_later hn3 b1
  replace b2 := cell_later hn3 b2
  replace hB := below_more hB hn3
  clear hn3
  have ga0 : (w3.alloc (.cells #[.int .i64 m'.l, .int .u64 m'.c, .int .i64 m'.i] 24)).cell? ⟨w3.heap.size, 0, none⟩ = some (.int .i64 m'.l) := by simp
  have ga1 : (w3.alloc (.cells #[.int .i64 m'.l, .int .u64 m'.c, .int .i64 m'.i] 24)).cell? ⟨w3.heap.size, 1, none⟩ = some (.int .u64 m'.c) := by simp
  have ga2 : (w3.alloc (.cells #[.int .i64 m'.l, .int .u64 m'.c, .int .i64 m'.i] 24)).cell? ⟨w3.heap.size, 2, none⟩ = some (.int .i64 m'.i) := by simp
  have hn4 := Below.new (w3.alloc (.cells #[.int .i64 m'.l, .int .u64 m'.c, .int .i64 m'.i] 24)) (.cells #[.int .i64 n'.l, .int .u64 n'.c, .int .i64 n'.i] 24)
  replace a0 := cell_later hn4 a0
  replace a1 := cell_later hn4 a1
  replace a2 := cell_later hn4 a2
  replace b0 := cell_later hn4 b0
  replace b1 := cell_later hn4 b1
  replace b2 := cell_later hn4 b2
  replace ga0 := cell_later hn4 ga0
  replace ga1 := cell_later hn4 ga1
  replace ga2 := cell_later hn4 ga2
  replace hB := below_more hB hn4
  clear hn4
  have gb0 : ((w3.alloc (.cells #[.int .i64 m'.l, .int .u64 m'.c, .int .i64 m'.i] 24)).alloc (.cells #[.int .i64 n'.l, .int .u64 n'.c, .int .i64 n'.i] 24)).cell? ⟨w3.heap.size + 1, 0, none⟩ = some (.int .i64 n'.l) := by simp
  have gb1 : ((w3.alloc (.cells #[.int .i64 m'.l, .int .u64 m'.c, .int .i64 m'.i] 24)).alloc (.cells #[.int .i64 n'.l, .int .u64 n'.c, .int .i64 n'.i] 24)).cell? ⟨w3.heap.size + 1, 1, none⟩ = some (.int .u64 n'.c) := by simp
  have gb2 : ((w3.alloc (.cells #[.int .i64 m'.l, .int .u64 m'.c, .int .i64 m'.i] 24)).alloc (.cells #[.int .i64 n'.l, .int .u64 n'.c, .int .i64 n'.i] 24)).cell? ⟨w3.heap.size + 1, 2, none⟩ = some (.int .i64 n'.i) := by simp
  have hcn := CN.out
  go_wp2_with (go_at_call 13; refine (HA.out _).mono ?_)
  rintro e w4 ⟨he, hw4⟩
  have he2 : e = .returned (.string (bs l)) := by rw [he, HE.out.1]
  subst he2
  clear he
  obtain rfl := hw4
  go_wp2_with (go_at_call 17; refine (HG2.out _ (HS.out.more hB)).mono ?_)
  rintro e w4 ⟨he, bk4⟩
  have he2 : e = .returned (.tuple #[.agg #[.int .i64 m.l, .int .u64 m.c, .int .i64 m.i], .agg #[.int .i64 n.l, .int .u64 n.c, .int .i64 n.i], .string (bs q), .int .i64 0]) := by rw [he, HM.out.1]
  subst he2
  clear he
  replace a0 := cell_later bk4 a0
  replace a1 := cell_later bk4 a1
  replace a2 := cell_later bk4 a2
  replace b0 := cell_later bk4 b0
  replace b1 := cell_later bk4 b1
  replace b2 := cell_later bk4 b2
  replace ga0 := cell_later bk4 ga0
  replace ga1 := cell_later bk4 ga1
  replace ga2 := cell_later bk4 ga2
  replace gb0 := cell_later bk4 gb0
  replace gb1 := cell_later bk4 gb1
  replace gb2 := cell_later bk4 gb2
  replace hB := below_more hB bk4
  clear bk4
  have hn5 := Below.new w4 (.cells #[.int .i64 m.l, .int .u64 m.c, .int .i64 m.i] 24)
  replace a0 := cell_later hn5 a0
  replace a1 := cell_later hn5 a1
  replace a2 := cell_later hn5 a2
  replace b0 := cell_later hn5 b0
  replace b1 := cell_later hn5 b1
  replace b2 := cell_later hn5 b2
  replace ga0 := cell_later hn5 ga0
  replace ga1 := cell_later hn5 ga1
  replace ga2 := cell_later hn5 ga2
  replace gb0 := cell_later hn5 gb0
  replace gb1 := cell_later hn5 gb1
  replace gb2 := cell_later hn5 gb2
  replace hB := below_more hB hn5
  clear hn5
  have ma0 : (w4.alloc (.cells #[.int .i64 m.l, .int .u64 m.c, .int .i64 m.i] 24)).cell? ⟨w4.heap.size, 0, none⟩ = some (.int .i64 m.l) := by simp
  have ma1 : (w4.alloc (.cells #[.int .i64 m.l, .int .u64 m.c, .int .i64 m.i] 24)).cell? ⟨w4.heap.size, 1, none⟩ = some (.int .u64 m.c) := by simp
  have ma2 : (w4.alloc (.cells #[.int .i64 m.l, .int .u64 m.c, .int .i64 m.i] 24)).cell? ⟨w4.heap.size, 2, none⟩ = some (.int .i64 m.i) := by simp
  have hn6 := Below.new (w4.alloc (.cells #[.int .i64 m.l, .int .u64 m.c, .int .i64 m.i] 24)) (.cells #[.int .i64 n.l, .int .u64 n.c, .int .i64 n.i] 24)
  replace a0 := cell_later hn6 a0
  replace a1 := cell_later hn6 a1
  replace a2 := cell_later hn6 a2
  replace b0 := cell_later hn6 b0
  replace b1 := cell_later hn6 b1
  replace b2 := cell_later hn6 b2
  replace ga0 := cell_later hn6 ga0
  replace ga1 := cell_later hn6 ga1
  replace ga2 := cell_later hn6 ga2
  replace gb0 := cell_later hn6 gb0
  replace gb1 := cell_later hn6 gb1
  replace gb2 := cell_later hn6 gb2
  replace ma0 := cell_later hn6 ma0
  replace ma1 := cell_later hn6 ma1
  replace ma2 := cell_later hn6 ma2
  replace hB := below_more hB hn6
  clear hn6
  have na0 : ((w4.alloc (.cells #[.int .i64 m.l, .int .u64 m.c, .int .i64 m.i] 24)).alloc (.cells #[.int .i64 n.l, .int .u64 n.c, .int .i64 n.i] 24)).cell? ⟨w4.heap.size + 1, 0, none⟩ = some (.int .i64 n.l) := by simp
  have na1 : ((w4.alloc (.cells #[.int .i64 m.l, .int .u64 m.c, .int .i64 m.i] 24)).alloc (.cells #[.int .i64 n.l, .int .u64 n.c, .int .i64 n.i] 24)).cell? ⟨w4.heap.size + 1, 1, none⟩ = some (.int .u64 n.c) := by simp
  have na2 : ((w4.alloc (.cells #[.int .i64 m.l, .int .u64 m.c, .int .i64 m.i] 24)).alloc (.cells #[.int .i64 n.l, .int .u64 n.c, .int .i64 n.i] 24)).cell? ⟨w4.heap.size + 1, 2, none⟩ = some (.int .i64 n.i) := by simp
  go_wp2_with (go_at_call 15; refine (HP2.out _ (HS.out.more hB)).mono ?_)
  rintro e w5 ⟨he, bk5⟩
  have he2 : e = .returned (.tuple #[.string (bs (labB m ++ labB n)), .int .i64 0]) := by rw [he, HM.out.2.1]
  subst he2
  clear he
  replace a0 := cell_later bk5 a0
  replace a1 := cell_later bk5 a1
  replace a2 := cell_later bk5 a2
  replace b0 := cell_later bk5 b0
  replace b1 := cell_later bk5 b1
  replace b2 := cell_later bk5 b2
  replace ga0 := cell_later bk5 ga0
  replace ga1 := cell_later bk5 ga1
  replace ga2 := cell_later bk5 ga2
  replace gb0 := cell_later bk5 gb0
  replace gb1 := cell_later bk5 gb1
  replace gb2 := cell_later bk5 gb2
  replace ma0 := cell_later bk5 ma0
  replace ma1 := cell_later bk5 ma1
  replace ma2 := cell_later bk5 ma2
  replace na0 := cell_later bk5 na0
  replace na1 := cell_later bk5 na1
  replace na2 := cell_later bk5 na2
  replace hB := below_more hB bk5
  clear bk5
  go_wp2_with (go_at_call 25; refine (HU.out _).mono ?_)
  rintro e w6 ⟨he, bk6⟩
  have he2 : e = .returned (.bool false) := by rw [he, HE.out.2.2.2]
  subst he2
  clear he
  replace a0 := cell_later bk6 a0
  replace a1 := cell_later bk6 a1
  replace a2 := cell_later bk6 a2
  replace b0 := cell_later bk6 b0
  replace b1 := cell_later bk6 b1
  replace b2 := cell_later bk6 b2
  replace ga0 := cell_later bk6 ga0
  replace ga1 := cell_later bk6 ga1
  replace ga2 := cell_later bk6 ga2
  replace gb0 := cell_later bk6 gb0
  replace gb1 := cell_later bk6 gb1
  replace gb2 := cell_later bk6 gb2
  replace ma0 := cell_later bk6 ma0
  replace ma1 := cell_later bk6 ma1
  replace ma2 := cell_later bk6 ma2
  replace na0 := cell_later bk6 na0
  replace na1 := cell_later bk6 na1
  replace na2 := cell_later bk6 na2
  replace hB := below_more hB bk6
  clear bk6
  go_wp2_with (go_at_call 25; refine (HU2.out _).mono ?_)
  rintro e w7 ⟨he, bk7⟩
  have he2 : e = .returned (.bool true) := by rw [he, HM.out.2.2]
  subst he2
  clear he
  replace a0 := cell_later bk7 a0
  replace a1 := cell_later bk7 a1
  replace a2 := cell_later bk7 a2
  replace b0 := cell_later bk7 b0
  replace b1 := cell_later bk7 b1
  replace b2 := cell_later bk7 b2
  replace ga0 := cell_later bk7 ga0
  replace ga1 := cell_later bk7 ga1
  replace ga2 := cell_later bk7 ga2
  replace gb0 := cell_later bk7 gb0
  replace gb1 := cell_later bk7 gb1
  replace gb2 := cell_later bk7 gb2
  replace ma0 := cell_later bk7 ma0
  replace ma1 := cell_later bk7 ma1
  replace ma2 := cell_later bk7 ma2
  replace na0 := cell_later bk7 na0
  replace na1 := cell_later bk7 na1
  replace na2 := cell_later bk7 na2
  replace hB := below_more hB bk7
  clear bk7
  go_wp2_with (go_at_call 13; refine (HA.out _).mono ?_)
  rintro e w8 ⟨he, hw8⟩
  have he2 : e = .returned (.string (bs l)) := by rw [he, HE.out.1]
  subst he2
  clear he
  obtain rfl := hw8
  go_wp2
  go_ret
  exact ⟨rfl, hB⟩

set_option maxRecDepth 100000 in
set_option maxHeartbeats 4000000 in
theorem ranges_d (s : Sn) (t : SnL) (hq : t.q = true) (a b : Lab) (ha : a.fits) (hb : b.fits) (x : List UInt8) (hx : x.length ≤ 9223372036854775807) (h1 : a.under b = false) (h2 : (getRangeR (x.take 300)).2.2.2 ≠ 0) (w : World) (hs : SentL s t w) :
    Calls Tryd.prog 6 #[.agg #[.int .i64 a.l, .int .u64 a.c, .int .i64 a.i], .agg #[.int .i64 b.l, .int .u64 b.c, .int .i64 b.i], .string (bs x)] w fun e w' => e = .returned (.bool true) ∧ Below w.heap.size w w' := by
  have HS := Lib.hid hs
  obtain ⟨l, hl⟩ : ∃ l, x.take 300 = l := ⟨_, rfl⟩
  have zl : (bs l).size ≤ 300 := by rw [bs_size, ← hl, List.length_take]; omega
  have HA := Lib.hid (fun w => cutA x hx w)
  have HP := Lib.hid (fun w h => PutRange_any s t hq a b ha hb w h)
  have HU := Lib.hid (fun w => underA a b ha hb w)
  have HG2 := Lib.hid (fun w h => GetRange_any s t hq l w h)
  rw [hl] at h2
  obtain ⟨v, hv⟩ : ∃ v, (getRangeR l).2.2.2 = v := ⟨_, rfl⟩
  have hm : getRangeR l = (⟨0, 0, 0⟩, ⟨0, 0, 0⟩, [], v) := by rw [rangeR_err h2, hv]; rfl
  have KN := Lib.hid (show (v != 0) = true by rw [← hv]; simpa using h2)
  obtain ⟨p, k, hp⟩ : ∃ p k, putRangeR ⟨0, 0, 0⟩ ⟨0, 0, 0⟩ = (p, k) := ⟨_, _, rfl⟩
  have HP2 := Lib.hid (fun w h => PutRange_any s t hq ⟨0, 0, 0⟩ ⟨0, 0, 0⟩ (by unfold Lab.fits U64; decide) (by unfold Lab.fits U64; decide) w h)
  have HM := Lib.hid (And.intro hm hp)
  obtain ⟨c, hc, hcz⟩ := putRange_no h1
  have CN := Lib.hid (show (c == 0) = false by simpa using hcz)
  obtain ⟨m', n', q', v', hm'⟩ : ∃ m n q v, getRangeR l = (m, n, q, v) := ⟨_, _, _, _, rfl⟩
  have hap : bs [] ++ bs l = bs l := by rw [bs_append]; rfl
  have z0 : (bs []).size = 0 := rfl
  have HE := Lib.hid (And.intro hl (And.intro hc (And.intro hm' h1)))
  clear hs ha hb hx hl h1 h2 hq hv hm hp hc hcz hm'
  have hn1 := Below.new w (.cells #[.int .i64 a.l, .int .u64 a.c, .int .i64 a.i] 24)
  have hB := hn1
  have a0 : (w.alloc (.cells #[.int .i64 a.l, .int .u64 a.c, .int .i64 a.i] 24)).cell? ⟨w.heap.size, 0, none⟩ = some (.int .i64 a.l) := by simp
  have a1 : (w.alloc (.cells #[.int .i64 a.l, .int .u64 a.c, .int .i64 a.i] 24)).cell? ⟨w.heap.size, 1, none⟩ = some (.int .u64 a.c) := by simp
  have a2 : (w.alloc (.cells #[.int .i64 a.l, .int .u64 a.c, .int .i64 a.i] 24)).cell? ⟨w.heap.size, 2, none⟩ = some (.int .i64 a.i) := by simp
  have hn2 := Below.new (w.alloc (.cells #[.int .i64 a.l, .int .u64 a.c, .int .i64 a.i] 24)) (.cells #[.int .i64 b.l, .int .u64 b.c, .int .i64 b.i] 24)
  replace a0 := cell_later hn2 a0
  replace a1 := cell_later hn2 a1
  replace a2 := cell_later hn2 a2
  replace hB := below_more hB hn2
  have b0 : ((w.alloc (.cells #[.int .i64 a.l, .int .u64 a.c, .int .i64 a.i] 24)).alloc (.cells #[.int .i64 b.l, .int .u64 b.c, .int .i64 b.i] 24)).cell? ⟨w.heap.size + 1, 0, none⟩ = some (.int .i64 b.l) := by simp
  have b1 : ((w.alloc (.cells #[.int .i64 a.l, .int .u64 a.c, .int .i64 a.i] 24)).alloc (.cells #[.int .i64 b.l, .int .u64 b.c, .int .i64 b.i] 24)).cell? ⟨w.heap.size + 1, 1, none⟩ = some (.int .u64 b.c) := by simp
  have b2 : ((w.alloc (.cells #[.int .i64 a.l, .int .u64 a.c, .int .i64 a.i] 24)).alloc (.cells #[.int .i64 b.l, .int .u64 b.c, .int .i64 b.i] 24)).cell? ⟨w.heap.size + 1, 2, none⟩ = some (.int .i64 b.i) := by simp
  go_enter Tryd.func6, Tryd.ntmps6
  go_wp2_with (go_at_call 9; refine (shownA s t _ (HS.out.more hB)).mono ?_)
  rintro e w1 ⟨he, bk1⟩
  have he2 : e = .returned (.bool true) := by rw [he]
  subst he2
  clear he
  replace a0 := cell_later bk1 a0
  replace a1 := cell_later bk1 a1
  replace a2 := cell_later bk1 a2
  replace b0 := cell_later bk1 b0
  replace b1 := cell_later bk1 b1
  replace b2 := cell_later bk1 b2
  replace hB := below_more hB bk1
  clear bk1
  go_wp2_with (go_at_call 15; refine (HP.out _ (HS.out.more hB)).mono ?_)
  rintro e w2 ⟨he, bk2⟩
  have he2 : e = .returned (.tuple #[.string (bs []), .int .i64 c]) := by rw [he, HE.out.2.1]
  subst he2
  clear he
  replace a0 := cell_later bk2 a0
  replace a1 := cell_later bk2 a1
  replace a2 := cell_later bk2 a2
  replace b0 := cell_later bk2 b0
  replace b1 := cell_later bk2 b1
  replace b2 := cell_later bk2 b2
  replace hB := below_more hB bk2
  clear bk2
  go_wp2_with (go_at_call 13; refine (HA.out _).mono ?_)
  rintro e w3 ⟨he, hw3⟩
  have he2 : e = .returned (.string (bs l)) := by rw [he, HE.out.1]
  subst he2
  clear he
  obtain rfl := hw3
  go_wp2_with (go_at_call 17; refine (HG2.out _ (HS.out.more hB)).mono ?_)
  rintro e w3 ⟨he, bk3⟩
  have he2 : e = .returned (.tuple #[.agg #[.int .i64 m'.l, .int .u64 m'.c, .int .i64 m'.i], .agg #[.int .i64 n'.l, .int .u64 n'.c, .int .i64 n'.i], .string (bs q'), .int .i64 v']) := by rw [he, HE.out.2.2.1]
  subst he2
  clear he
  replace a0 := cell_later bk3 a0
  replace a1 := cell_later bk3 a1
  replace a2 := cell_later bk3 a2
  replace b0 := cell_later bk3 b0
  replace b1 := cell_later bk3 b1
  replace b2 := cell_later bk3 b2
  replace hB := below_more hB bk3
  clear bk3
  have hn3 := Below.new w3 (.cells #[.int .i64 m'.l, .int .u64 m'.c, .int .i64 m'.i] 24)
  replace a0 := cell_later hn3 a0
  replace a1 := cell_later hn3 a1
  replace a2 := cell_later hn3 a2
  replace b0 := cell_later hn3 b0
  replace b1 := cell_later hn3 b1
  replace b2 := cell_later hn3 b2
  replace hB := below_more hB hn3
  clear hn3
  have ga0 : (w3.alloc (.cells #[.int .i64 m'.l, .int .u64 m'.c, .int .i64 m'.i] 24)).cell? ⟨w3.heap.size, 0, none⟩ = some (.int .i64 m'.l) := by simp
  have ga1 : (w3.alloc (.cells #[.int .i64 m'.l, .int .u64 m'.c, .int .i64 m'.i] 24)).cell? ⟨w3.heap.size, 1, none⟩ = some (.int .u64 m'.c) := by simp
  have ga2 : (w3.alloc (.cells #[.int .i64 m'.l, .int .u64 m'.c, .int .i64 m'.i] 24)).cell? ⟨w3.heap.size, 2, none⟩ = some (.int .i64 m'.i) := by simp
  have hn4 := Below.new (w3.alloc (.cells #[.int .i64 m'.l, .int .u64 m'.c, .int .i64 m'.i] 24)) (.cells #[.int .i64 n'.l, .int .u64 n'.c, .int .i64 n'.i] 24)
  replace a0 := cell_later hn4 a0
  replace a1 := cell_later hn4 a1
  replace a2 := cell_later hn4 a2
  replace b0 := cell_later hn4 b0
  replace b1 := cell_later hn4 b1
  replace b2 := cell_later hn4 b2
  replace ga0 := cell_later hn4 ga0
  replace ga1 := cell_later hn4 ga1
  replace ga2 := cell_later hn4 ga2
  replace hB := below_more hB hn4
  clear hn4
  have gb0 : ((w3.alloc (.cells #[.int .i64 m'.l, .int .u64 m'.c, .int .i64 m'.i] 24)).alloc (.cells #[.int .i64 n'.l, .int .u64 n'.c, .int .i64 n'.i] 24)).cell? ⟨w3.heap.size + 1, 0, none⟩ = some (.int .i64 n'.l) := by simp
  have gb1 : ((w3.alloc (.cells #[.int .i64 m'.l, .int .u64 m'.c, .int .i64 m'.i] 24)).alloc (.cells #[.int .i64 n'.l, .int .u64 n'.c, .int .i64 n'.i] 24)).cell? ⟨w3.heap.size + 1, 1, none⟩ = some (.int .u64 n'.c) := by simp
  have gb2 : ((w3.alloc (.cells #[.int .i64 m'.l, .int .u64 m'.c, .int .i64 m'.i] 24)).alloc (.cells #[.int .i64 n'.l, .int .u64 n'.c, .int .i64 n'.i] 24)).cell? ⟨w3.heap.size + 1, 2, none⟩ = some (.int .i64 n'.i) := by simp
  have hcn := CN.out
  go_wp2_with (go_at_call 13; refine (HA.out _).mono ?_)
  rintro e w4 ⟨he, hw4⟩
  have he2 : e = .returned (.string (bs l)) := by rw [he, HE.out.1]
  subst he2
  clear he
  obtain rfl := hw4
  go_wp2_with (go_at_call 17; refine (HG2.out _ (HS.out.more hB)).mono ?_)
  rintro e w4 ⟨he, bk4⟩
  have he2 : e = .returned (.tuple #[.agg #[.int .i64 0, .int .u64 0, .int .i64 0], .agg #[.int .i64 0, .int .u64 0, .int .i64 0], .string (bs []), .int .i64 v]) := by rw [he, HM.out.1]; rfl
  subst he2
  clear he
  replace a0 := cell_later bk4 a0
  replace a1 := cell_later bk4 a1
  replace a2 := cell_later bk4 a2
  replace b0 := cell_later bk4 b0
  replace b1 := cell_later bk4 b1
  replace b2 := cell_later bk4 b2
  replace ga0 := cell_later bk4 ga0
  replace ga1 := cell_later bk4 ga1
  replace ga2 := cell_later bk4 ga2
  replace gb0 := cell_later bk4 gb0
  replace gb1 := cell_later bk4 gb1
  replace gb2 := cell_later bk4 gb2
  replace hB := below_more hB bk4
  clear bk4
  have hn5 := Below.new w4 (.cells #[.int .i64 0, .int .u64 0, .int .i64 0] 24)
  replace a0 := cell_later hn5 a0
  replace a1 := cell_later hn5 a1
  replace a2 := cell_later hn5 a2
  replace b0 := cell_later hn5 b0
  replace b1 := cell_later hn5 b1
  replace b2 := cell_later hn5 b2
  replace ga0 := cell_later hn5 ga0
  replace ga1 := cell_later hn5 ga1
  replace ga2 := cell_later hn5 ga2
  replace gb0 := cell_later hn5 gb0
  replace gb1 := cell_later hn5 gb1
  replace gb2 := cell_later hn5 gb2
  replace hB := below_more hB hn5
  clear hn5
  have ma0 : (w4.alloc (.cells #[.int .i64 0, .int .u64 0, .int .i64 0] 24)).cell? ⟨w4.heap.size, 0, none⟩ = some (.int .i64 0) := by simp
  have ma1 : (w4.alloc (.cells #[.int .i64 0, .int .u64 0, .int .i64 0] 24)).cell? ⟨w4.heap.size, 1, none⟩ = some (.int .u64 0) := by simp
  have ma2 : (w4.alloc (.cells #[.int .i64 0, .int .u64 0, .int .i64 0] 24)).cell? ⟨w4.heap.size, 2, none⟩ = some (.int .i64 0) := by simp
  have hn6 := Below.new (w4.alloc (.cells #[.int .i64 0, .int .u64 0, .int .i64 0] 24)) (.cells #[.int .i64 0, .int .u64 0, .int .i64 0] 24)
  replace a0 := cell_later hn6 a0
  replace a1 := cell_later hn6 a1
  replace a2 := cell_later hn6 a2
  replace b0 := cell_later hn6 b0
  replace b1 := cell_later hn6 b1
  replace b2 := cell_later hn6 b2
  replace ga0 := cell_later hn6 ga0
  replace ga1 := cell_later hn6 ga1
  replace ga2 := cell_later hn6 ga2
  replace gb0 := cell_later hn6 gb0
  replace gb1 := cell_later hn6 gb1
  replace gb2 := cell_later hn6 gb2
  replace ma0 := cell_later hn6 ma0
  replace ma1 := cell_later hn6 ma1
  replace ma2 := cell_later hn6 ma2
  replace hB := below_more hB hn6
  clear hn6
  have na0 : ((w4.alloc (.cells #[.int .i64 0, .int .u64 0, .int .i64 0] 24)).alloc (.cells #[.int .i64 0, .int .u64 0, .int .i64 0] 24)).cell? ⟨w4.heap.size + 1, 0, none⟩ = some (.int .i64 0) := by simp
  have na1 : ((w4.alloc (.cells #[.int .i64 0, .int .u64 0, .int .i64 0] 24)).alloc (.cells #[.int .i64 0, .int .u64 0, .int .i64 0] 24)).cell? ⟨w4.heap.size + 1, 1, none⟩ = some (.int .u64 0) := by simp
  have na2 : ((w4.alloc (.cells #[.int .i64 0, .int .u64 0, .int .i64 0] 24)).alloc (.cells #[.int .i64 0, .int .u64 0, .int .i64 0] 24)).cell? ⟨w4.heap.size + 1, 2, none⟩ = some (.int .i64 0) := by simp
  go_wp2_with (go_at_call 15; refine (HP2.out _ (HS.out.more hB)).mono ?_)
  rintro e w5 ⟨he, bk5⟩
  have he2 : e = .returned (.tuple #[.string (bs p), .int .i64 k]) := by rw [he, HM.out.2]
  subst he2
  clear he
  replace a0 := cell_later bk5 a0
  replace a1 := cell_later bk5 a1
  replace a2 := cell_later bk5 a2
  replace b0 := cell_later bk5 b0
  replace b1 := cell_later bk5 b1
  replace b2 := cell_later bk5 b2
  replace ga0 := cell_later bk5 ga0
  replace ga1 := cell_later bk5 ga1
  replace ga2 := cell_later bk5 ga2
  replace gb0 := cell_later bk5 gb0
  replace gb1 := cell_later bk5 gb1
  replace gb2 := cell_later bk5 gb2
  replace ma0 := cell_later bk5 ma0
  replace ma1 := cell_later bk5 ma1
  replace ma2 := cell_later bk5 ma2
  replace na0 := cell_later bk5 na0
  replace na1 := cell_later bk5 na1
  replace na2 := cell_later bk5 na2
  replace hB := below_more hB bk5
  clear bk5
  go_wp2_with (go_at_call 25; refine (HU.out _).mono ?_)
  rintro e w6 ⟨he, bk6⟩
  have he2 : e = .returned (.bool false) := by rw [he, HE.out.2.2.2]
  subst he2
  clear he
  replace a0 := cell_later bk6 a0
  replace a1 := cell_later bk6 a1
  replace a2 := cell_later bk6 a2
  replace b0 := cell_later bk6 b0
  replace b1 := cell_later bk6 b1
  replace b2 := cell_later bk6 b2
  replace ga0 := cell_later bk6 ga0
  replace ga1 := cell_later bk6 ga1
  replace ga2 := cell_later bk6 ga2
  replace gb0 := cell_later bk6 gb0
  replace gb1 := cell_later bk6 gb1
  replace gb2 := cell_later bk6 gb2
  replace ma0 := cell_later bk6 ma0
  replace ma1 := cell_later bk6 ma1
  replace ma2 := cell_later bk6 ma2
  replace na0 := cell_later bk6 na0
  replace na1 := cell_later bk6 na1
  replace na2 := cell_later bk6 na2
  replace hB := below_more hB bk6
  clear bk6
  have hkn := KN.out
  go_wp2
  go_ret
  exact ⟨rfl, hB⟩

theorem ranges_walk (s : Sn) (t : SnL) (hq : t.q = true) (a b : Lab) (ha : a.fits) (hb : b.fits) (x : List UInt8) (hx : x.length ≤ 9223372036854775807) (w : World) (hs : SentL s t w) :
    Calls Tryd.prog 6 #[.agg #[.int .i64 a.l, .int .u64 a.c, .int .i64 a.i], .agg #[.int .i64 b.l, .int .u64 b.c, .int .i64 b.i], .string (bs x)] w fun e w' => e = .returned (.bool true) ∧ Below w.heap.size w w' := by
  cases h1 : a.under b
  · by_cases h2 : (getRangeR (x.take 300)).2.2.2 = 0
    · exact ranges_c s t hq a b ha hb x hx h1 h2 w hs
    · exact ranges_d s t hq a b ha hb x hx h1 h2 w hs
  · by_cases h2 : (getRangeR (x.take 300)).2.2.2 = 0
    · exact ranges_a s t hq a b ha hb x hx h1 h2 w hs
    · exact ranges_b s t hq a b ha hb x hx h1 h2 w hs

end Go.Proofs.YtfpjbefhfkembaaDoor
