/- LabcodeBack, walked: for every label and every text it returns true. -/
import Derived.Test.YtfpjbefhfkembaaDoorLcE
namespace Go.Proofs.YtfpjbefhfkembaaDoor
open Go.RowKit Go.Shelf Go.Proofs.Fld Go.Proofs.Cats Go.Proofs.Lcd

attribute [local go_sem] bs_toList

set_option maxRecDepth 100000 in
set_option maxHeartbeats 4000000 in
theorem back_no (s : Sn) (t : SnL) (a : Lab) (ha : a.fits) (h1 : a.right = false) (x : List UInt8) (hx : x.length ≤ 9223372036854775807) (w : World) (hs : SentL s t w) :
    Calls Tryd.prog 5 #[.agg #[.int .i64 a.l, .int .u64 a.c, .int .i64 a.i], .string (bs x)] w fun e w' => e = .returned (.bool true) ∧ Below w.heap.size w w' := by
  have HS := Lib.hid hs
  obtain ⟨l, hl⟩ : ∃ l, x.take 300 = l := ⟨_, rfl⟩
  have zl : (bs l).size ≤ 300 := by rw [bs_size, ← hl, List.length_take]; omega
  have HA := Lib.hid (fun w => cutA x hx w)
  have HP := Lib.hid (fun w h => Put_any s t a ha w h)
  have HR := Lib.hid (fun w => rightA a ha w)
  obtain ⟨g, r, d, hg⟩ : ∃ g r d, getR l = (g, r, d) := ⟨_, _, _, rfl⟩
  have HG := Lib.hid (fun w h => Get_any s t l w h)
  have HE := Lib.hid (And.intro hl (And.intro (putR_no h1) (And.intro hg h1)))
  have hap : bs [] ++ bs l = bs l := by rw [bs_append]; rfl
  have z0 : (bs []).size = 0 := rfl
  clear hs ha hx hl hg h1
  have hn1 := Below.new w (.cells #[.int .i64 a.l, .int .u64 a.c, .int .i64 a.i] 24)
  have hB := hn1
  have a0 : (w.alloc (.cells #[.int .i64 a.l, .int .u64 a.c, .int .i64 a.i] 24)).cell? ⟨w.heap.size, 0, none⟩ = some (.int .i64 a.l) := by simp
  have a1 : (w.alloc (.cells #[.int .i64 a.l, .int .u64 a.c, .int .i64 a.i] 24)).cell? ⟨w.heap.size, 1, none⟩ = some (.int .u64 a.c) := by simp
  have a2 : (w.alloc (.cells #[.int .i64 a.l, .int .u64 a.c, .int .i64 a.i] 24)).cell? ⟨w.heap.size, 2, none⟩ = some (.int .i64 a.i) := by simp
  go_enter Tryd.func5, Tryd.ntmps5
  go_wp2_with (go_at_call 9; refine (shownA s t _ (HS.out.more hB)).mono ?_)
  rintro e w1 ⟨he, bk1⟩
  have he2 : e = .returned (.bool true) := by rw [he]
  subst he2
  clear he
  replace a0 := cell_later bk1 a0
  replace a1 := cell_later bk1 a1
  replace a2 := cell_later bk1 a2
  replace hB := below_more hB bk1
  clear bk1
  go_wp2_with (go_at_call 10; refine (HP.out _ (HS.out.more hB)).mono ?_)
  rintro e w2 ⟨he, bk2⟩
  have he2 : e = .returned (.tuple #[.string (bs []), .int .i64 20]) := by rw [he, HE.out.2.1]
  subst he2
  clear he
  replace a0 := cell_later bk2 a0
  replace a1 := cell_later bk2 a1
  replace a2 := cell_later bk2 a2
  replace hB := below_more hB bk2
  clear bk2
  go_wp2_with (go_at_call 13; refine (HA.out _).mono ?_)
  rintro e w3 ⟨he, hw3⟩
  have he2 : e = .returned (.string (bs l)) := by rw [he, HE.out.1]
  subst he2
  clear he
  obtain rfl := hw3
  go_wp2_with (go_at_call 12; refine (HG.out _ (HS.out.more hB)).mono ?_)
  rintro e w3 ⟨he, bk3⟩
  have he2 : e = .returned (.tuple #[.agg #[.int .i64 g.l, .int .u64 g.c, .int .i64 g.i], .string (bs r), .int .i64 d]) := by rw [he, HE.out.2.2.1]
  subst he2
  clear he
  replace a0 := cell_later bk3 a0
  replace a1 := cell_later bk3 a1
  replace a2 := cell_later bk3 a2
  replace hB := below_more hB bk3
  clear bk3
  have hn2 := Below.new w3 (.cells #[.int .i64 g.l, .int .u64 g.c, .int .i64 g.i] 24)
  replace a0 := cell_later hn2 a0
  replace a1 := cell_later hn2 a1
  replace a2 := cell_later hn2 a2
  replace hB := below_more hB hn2
  clear hn2
  have ga0 : (w3.alloc (.cells #[.int .i64 g.l, .int .u64 g.c, .int .i64 g.i] 24)).cell? ⟨w3.heap.size, 0, none⟩ = some (.int .i64 g.l) := by simp
  have ga1 : (w3.alloc (.cells #[.int .i64 g.l, .int .u64 g.c, .int .i64 g.i] 24)).cell? ⟨w3.heap.size, 1, none⟩ = some (.int .u64 g.c) := by simp
  have ga2 : (w3.alloc (.cells #[.int .i64 g.l, .int .u64 g.c, .int .i64 g.i] 24)).cell? ⟨w3.heap.size, 2, none⟩ = some (.int .i64 g.i) := by simp
  go_wp2_with (go_at_call 24; refine (HR.out _).mono ?_)
  rintro e w4 ⟨he, bk4⟩
  have he2 : e = .returned (.bool false) := by rw [he, HE.out.2.2.2]
  subst he2
  clear he
  replace a0 := cell_later bk4 a0
  replace a1 := cell_later bk4 a1
  replace a2 := cell_later bk4 a2
  replace ga0 := cell_later bk4 ga0
  replace ga1 := cell_later bk4 ga1
  replace ga2 := cell_later bk4 ga2
  replace hB := below_more hB bk4
  clear bk4
  go_wp2
  go_ret
  exact ⟨rfl, hB⟩

set_option maxRecDepth 100000 in
set_option maxHeartbeats 4000000 in
theorem back_1 (s : Sn) (t : SnL) (a : Lab) (ha : a.fits) (h1 : a.right = true) (x : List UInt8) (h2 : (getR (x.take 300)).2.2 ≠ 0) (hx : x.length ≤ 9223372036854775807) (w : World) (hs : SentL s t w) :
    Calls Tryd.prog 5 #[.agg #[.int .i64 a.l, .int .u64 a.c, .int .i64 a.i], .string (bs x)] w fun e w' => e = .returned (.bool true) ∧ Below w.heap.size w w' := by
  have HS := Lib.hid hs
  obtain ⟨l, hl⟩ : ∃ l, x.take 300 = l := ⟨_, rfl⟩
  have zl : (bs l).size ≤ 300 := by rw [bs_size, ← hl, List.length_take]; omega
  have HA := Lib.hid (fun w => cutA x hx w)
  have HP := Lib.hid (fun w h => Put_any s t a ha w h)
  have HR := Lib.hid (fun w => rightA a ha w)
  rw [hl] at h2
  obtain ⟨k, hk⟩ : ∃ k, (getR l).2.2 = k := ⟨_, rfl⟩
  have hg : getR l = (⟨0, 0, 0⟩, [], k) := by rw [getR_err h2, hk]; rfl
  have KN := Lib.hid (show (k != 0) = true by rw [← hk]; simpa using h2)
  obtain ⟨p, c, hp⟩ : ∃ p c, putR ⟨0, 0, 0⟩ = (p, c) := ⟨_, _, rfl⟩
  have HP2 := Lib.hid (fun w h => Put_any s t ⟨0, 0, 0⟩ (by unfold Lab.fits U64; decide) w h)
  have HE := Lib.hid (And.intro hl (And.intro (putR_ok h1) (And.intro (getR_labB ha h1 l) (And.intro hg hp))))
  have HG := Lib.hid (fun w h => Get_any s t (labB a ++ l) w h)
  have HG2 := Lib.hid (fun w h => Get_any s t l w h)
  have hap : bs (labB a) ++ bs l = bs (labB a ++ l) := bs_append _ _
  have z0 : (bs (labB a)).size = 10 := by rw [bs_size, labB_length]
  clear hs ha hx hl hg h1 h2 hk hp
  have hn1 := Below.new w (.cells #[.int .i64 a.l, .int .u64 a.c, .int .i64 a.i] 24)
  have hB := hn1
  have a0 : (w.alloc (.cells #[.int .i64 a.l, .int .u64 a.c, .int .i64 a.i] 24)).cell? ⟨w.heap.size, 0, none⟩ = some (.int .i64 a.l) := by simp
  have a1 : (w.alloc (.cells #[.int .i64 a.l, .int .u64 a.c, .int .i64 a.i] 24)).cell? ⟨w.heap.size, 1, none⟩ = some (.int .u64 a.c) := by simp
  have a2 : (w.alloc (.cells #[.int .i64 a.l, .int .u64 a.c, .int .i64 a.i] 24)).cell? ⟨w.heap.size, 2, none⟩ = some (.int .i64 a.i) := by simp
  have e1 := Lb.eqInL a a
  rw [show Lab.same a a = true from (Lab.same_iff _ _).2 rfl] at e1
  go_enter Tryd.func5, Tryd.ntmps5
  go_wp2_with (go_at_call 9; refine (shownA s t _ (HS.out.more hB)).mono ?_)
  rintro e w1 ⟨he, bk1⟩
  have he2 : e = .returned (.bool true) := by rw [he]
  subst he2
  clear he
  replace a0 := cell_later bk1 a0
  replace a1 := cell_later bk1 a1
  replace a2 := cell_later bk1 a2
  replace hB := below_more hB bk1
  clear bk1
  go_wp2_with (go_at_call 10; refine (HP.out _ (HS.out.more hB)).mono ?_)
  rintro e w2 ⟨he, bk2⟩
  have he2 : e = .returned (.tuple #[.string (bs (labB a)), .int .i64 0]) := by rw [he, HE.out.2.1]
  subst he2
  clear he
  replace a0 := cell_later bk2 a0
  replace a1 := cell_later bk2 a1
  replace a2 := cell_later bk2 a2
  replace hB := below_more hB bk2
  clear bk2
  go_wp2_with (go_at_call 13; refine (HA.out _).mono ?_)
  rintro e w3 ⟨he, hw3⟩
  have he2 : e = .returned (.string (bs l)) := by rw [he, HE.out.1]
  subst he2
  clear he
  obtain rfl := hw3
  go_wp2_with (go_at_call 12; refine (HG.out _ (HS.out.more hB)).mono ?_)
  rintro e w3 ⟨he, bk3⟩
  have he2 : e = .returned (.tuple #[.agg #[.int .i64 a.l, .int .u64 a.c, .int .i64 a.i], .string (bs l), .int .i64 0]) := by rw [he, HE.out.2.2.1]
  subst he2
  clear he
  replace a0 := cell_later bk3 a0
  replace a1 := cell_later bk3 a1
  replace a2 := cell_later bk3 a2
  replace hB := below_more hB bk3
  clear bk3
  have hn2 := Below.new w3 (.cells #[.int .i64 a.l, .int .u64 a.c, .int .i64 a.i] 24)
  replace a0 := cell_later hn2 a0
  replace a1 := cell_later hn2 a1
  replace a2 := cell_later hn2 a2
  replace hB := below_more hB hn2
  clear hn2
  have ga0 : (w3.alloc (.cells #[.int .i64 a.l, .int .u64 a.c, .int .i64 a.i] 24)).cell? ⟨w3.heap.size, 0, none⟩ = some (.int .i64 a.l) := by simp
  have ga1 : (w3.alloc (.cells #[.int .i64 a.l, .int .u64 a.c, .int .i64 a.i] 24)).cell? ⟨w3.heap.size, 1, none⟩ = some (.int .u64 a.c) := by simp
  have ga2 : (w3.alloc (.cells #[.int .i64 a.l, .int .u64 a.c, .int .i64 a.i] 24)).cell? ⟨w3.heap.size, 2, none⟩ = some (.int .i64 a.i) := by simp
  go_wp2_with (go_at_call 13; refine (HA.out _).mono ?_)
  rintro e w4 ⟨he, hw4⟩
  have he2 : e = .returned (.string (bs l)) := by rw [he, HE.out.1]
  subst he2
  clear he
  obtain rfl := hw4
  go_wp2_with (go_at_call 12; refine (HG2.out _ (HS.out.more hB)).mono ?_)
  rintro e w4 ⟨he, bk4⟩
  have he2 : e = .returned (.tuple #[.agg #[.int .i64 0, .int .u64 0, .int .i64 0], .string (bs []), .int .i64 k]) := by rw [he, HE.out.2.2.2.1]; rfl
  subst he2
  clear he
  replace a0 := cell_later bk4 a0
  replace a1 := cell_later bk4 a1
  replace a2 := cell_later bk4 a2
  replace ga0 := cell_later bk4 ga0
  replace ga1 := cell_later bk4 ga1
  replace ga2 := cell_later bk4 ga2
  replace hB := below_more hB bk4
  clear bk4
  have hn3 := Below.new w4 (.cells #[.int .i64 0, .int .u64 0, .int .i64 0] 24)
  replace a0 := cell_later hn3 a0
  replace a1 := cell_later hn3 a1
  replace a2 := cell_later hn3 a2
  replace ga0 := cell_later hn3 ga0
  replace ga1 := cell_later hn3 ga1
  replace ga2 := cell_later hn3 ga2
  replace hB := below_more hB hn3
  clear hn3
  have ga20 : (w4.alloc (.cells #[.int .i64 0, .int .u64 0, .int .i64 0] 24)).cell? ⟨w4.heap.size, 0, none⟩ = some (.int .i64 0) := by simp
  have ga21 : (w4.alloc (.cells #[.int .i64 0, .int .u64 0, .int .i64 0] 24)).cell? ⟨w4.heap.size, 1, none⟩ = some (.int .u64 0) := by simp
  have ga22 : (w4.alloc (.cells #[.int .i64 0, .int .u64 0, .int .i64 0] 24)).cell? ⟨w4.heap.size, 2, none⟩ = some (.int .i64 0) := by simp
  go_wp2_with (go_at_call 10; refine (HP2.out _ (HS.out.more hB)).mono ?_)
  rintro e w5 ⟨he, bk5⟩
  have he2 : e = .returned (.tuple #[.string (bs p), .int .i64 c]) := by rw [he, HE.out.2.2.2.2]
  subst he2
  clear he
  replace a0 := cell_later bk5 a0
  replace a1 := cell_later bk5 a1
  replace a2 := cell_later bk5 a2
  replace ga0 := cell_later bk5 ga0
  replace ga1 := cell_later bk5 ga1
  replace ga2 := cell_later bk5 ga2
  replace ga20 := cell_later bk5 ga20
  replace ga21 := cell_later bk5 ga21
  replace ga22 := cell_later bk5 ga22
  replace hB := below_more hB bk5
  clear bk5
  go_wp2_with (go_at_call 13; refine (HA.out _).mono ?_)
  rintro e w6 ⟨he, hw6⟩
  have he2 : e = .returned (.string (bs l)) := by rw [he, HE.out.1]
  subst he2
  clear he
  obtain rfl := hw6
  have hkn := KN.out
  go_wp2
  go_ret
  exact ⟨rfl, hB⟩

set_option maxRecDepth 100000 in
set_option maxHeartbeats 4000000 in
theorem back_2 (s : Sn) (t : SnL) (a : Lab) (ha : a.fits) (h1 : a.right = true) (x : List UInt8) (h2 : (getR (x.take 300)).2.2 = 0) (hx : x.length ≤ 9223372036854775807) (w : World) (hs : SentL s t w) :
    Calls Tryd.prog 5 #[.agg #[.int .i64 a.l, .int .u64 a.c, .int .i64 a.i], .string (bs x)] w fun e w' => e = .returned (.bool true) ∧ Below w.heap.size w w' := by
  have HS := Lib.hid hs
  obtain ⟨l, hl⟩ : ∃ l, x.take 300 = l := ⟨_, rfl⟩
  have zl : (bs l).size ≤ 300 := by rw [bs_size, ← hl, List.length_take]; omega
  have HA := Lib.hid (fun w => cutA x hx w)
  have HP := Lib.hid (fun w h => Put_any s t a ha w h)
  have HR := Lib.hid (fun w => rightA a ha w)
  rw [hl] at h2
  obtain ⟨h10, hrt, hg0⟩ := getR_zero h2
  obtain ⟨g, hgl⟩ : ∃ g, labOf l = g := ⟨_, rfl⟩
  obtain ⟨r, hr⟩ : ∃ r, l.drop 10 = r := ⟨_, rfl⟩
  have hg : getR l = (g, r, 0) := by rw [hg0, hgl, hr]
  have hfg : g.fits := hgl ▸ labOf_fits l
  rw [hgl] at hrt
  have hback : labB g ++ r = l := by rw [← hgl, ← hr]; exact labB_back h10
  have HP2 := Lib.hid (fun w h => Put_any s t g hfg w h)
  have HR2 := Lib.hid (fun w => rightA g hfg w)
  have HE := Lib.hid (And.intro hl (And.intro (putR_ok h1) (And.intro (getR_labB ha h1 l) (And.intro hg (And.intro (putR_ok hrt) hrt)))))
  have hap2 : bs (labB g) ++ bs r = bs l := by rw [bs_append, hback]
  have z1 : (bs (labB g)).size = 10 := by rw [bs_size, labB_length]
  have z2 : (bs r).size ≤ 300 := by rw [bs_size, ← hr, List.length_drop]; rw [bs_size] at zl; omega
  have HG := Lib.hid (fun w h => Get_any s t (labB a ++ l) w h)
  have HG2 := Lib.hid (fun w h => Get_any s t l w h)
  have hap : bs (labB a) ++ bs l = bs (labB a ++ l) := bs_append _ _
  have z0 : (bs (labB a)).size = 10 := by rw [bs_size, labB_length]
  clear hs ha hx hl hg h1 h2 hg0 h10 hgl hr hrt hback hfg
  have hn1 := Below.new w (.cells #[.int .i64 a.l, .int .u64 a.c, .int .i64 a.i] 24)
  have hB := hn1
  have a0 : (w.alloc (.cells #[.int .i64 a.l, .int .u64 a.c, .int .i64 a.i] 24)).cell? ⟨w.heap.size, 0, none⟩ = some (.int .i64 a.l) := by simp
  have a1 : (w.alloc (.cells #[.int .i64 a.l, .int .u64 a.c, .int .i64 a.i] 24)).cell? ⟨w.heap.size, 1, none⟩ = some (.int .u64 a.c) := by simp
  have a2 : (w.alloc (.cells #[.int .i64 a.l, .int .u64 a.c, .int .i64 a.i] 24)).cell? ⟨w.heap.size, 2, none⟩ = some (.int .i64 a.i) := by simp
  have e1 := Lb.eqInL a a
  rw [show Lab.same a a = true from (Lab.same_iff _ _).2 rfl] at e1
  go_enter Tryd.func5, Tryd.ntmps5
  go_wp2_with (go_at_call 9; refine (shownA s t _ (HS.out.more hB)).mono ?_)
  rintro e w1 ⟨he, bk1⟩
  have he2 : e = .returned (.bool true) := by rw [he]
  subst he2
  clear he
  replace a0 := cell_later bk1 a0
  replace a1 := cell_later bk1 a1
  replace a2 := cell_later bk1 a2
  replace hB := below_more hB bk1
  clear bk1
  go_wp2_with (go_at_call 10; refine (HP.out _ (HS.out.more hB)).mono ?_)
  rintro e w2 ⟨he, bk2⟩
  have he2 : e = .returned (.tuple #[.string (bs (labB a)), .int .i64 0]) := by rw [he, HE.out.2.1]
  subst he2
  clear he
  replace a0 := cell_later bk2 a0
  replace a1 := cell_later bk2 a1
  replace a2 := cell_later bk2 a2
  replace hB := below_more hB bk2
  clear bk2
  go_wp2_with (go_at_call 13; refine (HA.out _).mono ?_)
  rintro e w3 ⟨he, hw3⟩
  have he2 : e = .returned (.string (bs l)) := by rw [he, HE.out.1]
  subst he2
  clear he
  obtain rfl := hw3
  go_wp2_with (go_at_call 12; refine (HG.out _ (HS.out.more hB)).mono ?_)
  rintro e w3 ⟨he, bk3⟩
  have he2 : e = .returned (.tuple #[.agg #[.int .i64 a.l, .int .u64 a.c, .int .i64 a.i], .string (bs l), .int .i64 0]) := by rw [he, HE.out.2.2.1]
  subst he2
  clear he
  replace a0 := cell_later bk3 a0
  replace a1 := cell_later bk3 a1
  replace a2 := cell_later bk3 a2
  replace hB := below_more hB bk3
  clear bk3
  have hn2 := Below.new w3 (.cells #[.int .i64 a.l, .int .u64 a.c, .int .i64 a.i] 24)
  replace a0 := cell_later hn2 a0
  replace a1 := cell_later hn2 a1
  replace a2 := cell_later hn2 a2
  replace hB := below_more hB hn2
  clear hn2
  have ga0 : (w3.alloc (.cells #[.int .i64 a.l, .int .u64 a.c, .int .i64 a.i] 24)).cell? ⟨w3.heap.size, 0, none⟩ = some (.int .i64 a.l) := by simp
  have ga1 : (w3.alloc (.cells #[.int .i64 a.l, .int .u64 a.c, .int .i64 a.i] 24)).cell? ⟨w3.heap.size, 1, none⟩ = some (.int .u64 a.c) := by simp
  have ga2 : (w3.alloc (.cells #[.int .i64 a.l, .int .u64 a.c, .int .i64 a.i] 24)).cell? ⟨w3.heap.size, 2, none⟩ = some (.int .i64 a.i) := by simp
  go_wp2_with (go_at_call 13; refine (HA.out _).mono ?_)
  rintro e w4 ⟨he, hw4⟩
  have he2 : e = .returned (.string (bs l)) := by rw [he, HE.out.1]
  subst he2
  clear he
  obtain rfl := hw4
  go_wp2_with (go_at_call 12; refine (HG2.out _ (HS.out.more hB)).mono ?_)
  rintro e w4 ⟨he, bk4⟩
  have he2 : e = .returned (.tuple #[.agg #[.int .i64 g.l, .int .u64 g.c, .int .i64 g.i], .string (bs r), .int .i64 0]) := by rw [he, HE.out.2.2.2.1]
  subst he2
  clear he
  replace a0 := cell_later bk4 a0
  replace a1 := cell_later bk4 a1
  replace a2 := cell_later bk4 a2
  replace ga0 := cell_later bk4 ga0
  replace ga1 := cell_later bk4 ga1
  replace ga2 := cell_later bk4 ga2
  replace hB := below_more hB bk4
  clear bk4
  have hn3 := Below.new w4 (.cells #[.int .i64 g.l, .int .u64 g.c, .int .i64 g.i] 24)
  replace a0 := cell_later hn3 a0
  replace a1 := cell_later hn3 a1
  replace a2 := cell_later hn3 a2
  replace ga0 := cell_later hn3 ga0
  replace ga1 := cell_later hn3 ga1
  replace ga2 := cell_later hn3 ga2
  replace hB := below_more hB hn3
  clear hn3
  have ga20 : (w4.alloc (.cells #[.int .i64 g.l, .int .u64 g.c, .int .i64 g.i] 24)).cell? ⟨w4.heap.size, 0, none⟩ = some (.int .i64 g.l) := by simp
  have ga21 : (w4.alloc (.cells #[.int .i64 g.l, .int .u64 g.c, .int .i64 g.i] 24)).cell? ⟨w4.heap.size, 1, none⟩ = some (.int .u64 g.c) := by simp
  have ga22 : (w4.alloc (.cells #[.int .i64 g.l, .int .u64 g.c, .int .i64 g.i] 24)).cell? ⟨w4.heap.size, 2, none⟩ = some (.int .i64 g.i) := by simp
  go_wp2_with (go_at_call 10; refine (HP2.out _ (HS.out.more hB)).mono ?_)
  rintro e w5 ⟨he, bk5⟩
  have he2 : e = .returned (.tuple #[.string (bs (labB g)), .int .i64 0]) := by rw [he, HE.out.2.2.2.2.1]
  subst he2
  clear he
  replace a0 := cell_later bk5 a0
  replace a1 := cell_later bk5 a1
  replace a2 := cell_later bk5 a2
  replace ga0 := cell_later bk5 ga0
  replace ga1 := cell_later bk5 ga1
  replace ga2 := cell_later bk5 ga2
  replace ga20 := cell_later bk5 ga20
  replace ga21 := cell_later bk5 ga21
  replace ga22 := cell_later bk5 ga22
  replace hB := below_more hB bk5
  clear bk5
  go_wp2_with (go_at_call 13; refine (HA.out _).mono ?_)
  rintro e w6 ⟨he, hw6⟩
  have he2 : e = .returned (.string (bs l)) := by rw [he, HE.out.1]
  subst he2
  clear he
  obtain rfl := hw6
  go_wp2_with (go_at_call 24; refine (HR2.out _).mono ?_)
  rintro e w6 ⟨he, bk6⟩
  have he2 : e = .returned (.bool true) := by rw [he, HE.out.2.2.2.2.2]
  subst he2
  clear he
  replace a0 := cell_later bk6 a0
  replace a1 := cell_later bk6 a1
  replace a2 := cell_later bk6 a2
  replace ga0 := cell_later bk6 ga0
  replace ga1 := cell_later bk6 ga1
  replace ga2 := cell_later bk6 ga2
  replace ga20 := cell_later bk6 ga20
  replace ga21 := cell_later bk6 ga21
  replace ga22 := cell_later bk6 ga22
  replace hB := below_more hB bk6
  clear bk6
  go_wp2_with (go_at_call 13; refine (HA.out _).mono ?_)
  rintro e w7 ⟨he, hw7⟩
  have he2 : e = .returned (.string (bs l)) := by rw [he, HE.out.1]
  subst he2
  clear he
  obtain rfl := hw7
  go_wp2
  go_ret
  exact ⟨rfl, hB⟩

theorem back_walk (s : Sn) (t : SnL) (a : Lab) (ha : a.fits) (x : List UInt8) (hx : x.length ≤ 9223372036854775807) (w : World) (hs : SentL s t w) :
    Calls Tryd.prog 5 #[.agg #[.int .i64 a.l, .int .u64 a.c, .int .i64 a.i], .string (bs x)] w fun e w' => e = .returned (.bool true) ∧ Below w.heap.size w w' := by
  cases h1 : a.right
  · exact back_no s t a ha h1 x hx w hs
  · by_cases h2 : (getR (x.take 300)).2.2 = 0
    · exact back_2 s t a ha h1 x h2 hx w hs
    · exact back_1 s t a ha h1 x h2 hx w hs

end Go.Proofs.YtfpjbefhfkembaaDoor
