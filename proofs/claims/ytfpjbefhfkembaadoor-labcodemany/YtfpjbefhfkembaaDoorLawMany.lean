/- LabcodeMany, walked: for every labels and every text it returns true. -/
import Derived.Test.YtfpjbefhfkembaaDoorLawLists
namespace Go.Proofs.YtfpjbefhfkembaaDoor
open Go.RowKit Go.Shelf Go.Proofs.Fld Go.Proofs.Cats Go.Proofs.Lcd

attribute [local go_sem] bs_toList

set_option maxRecDepth 100000 in
set_option maxHeartbeats 4000000 in
theorem many_a (s : Sn) (t : SnL) (a : Option Addr) (len cap : Nat) (zs : List Lab) (x : List UInt8) (hx : x.length ≤ 9223372036854775807) (h1 : (zs.take 30).all Lab.right = true) (h2 : listC (x.take 300) = 0) (w : World) (hI : LabsIn w a len cap zs) (hs : SentL s t w) :
    Calls Tryd.prog 7 #[.slice a len cap, .string (bs x)] w fun e w' => e = .returned (.bool true) ∧ Below w.heap.size w w' := by
  have HS := Lib.hid hs
  obtain ⟨hI1, hlen, hlc, hcm, _⟩ := hI
  obtain ⟨ys, hys⟩ : ∃ ys, zs.take 30 = ys := ⟨_, rfl⟩
  have hyl : ys.length = min len 30 := by rw [← hys, List.length_take, hlen, Nat.min_comm]
  have hm : min (len : Int) 30 = (ys.length : Int) := by omega
  have hyc : ys.length ≤ cap := by omega
  have hy30 : ys.length ≤ 30 := by omega
  have IL := Lib.hid (show Lb.Labs w.heap.size w (.slice a ys.length cap) ys by rw [hyl, ← hys]; exact labs_take hI1 30)
  have hyf : ∀ x ∈ ys, x.fits := Lb.Labs.fits IL.out
  have hcm2 : cap ≤ 9223372036854775807 := by unfold maxLen at hcm; omega
  obtain ⟨l, hl⟩ : ∃ l, x.take 300 = l := ⟨_, rfl⟩
  have hll : l.length ≤ 300 := by rw [← hl, List.length_take]; omega
  rw [hys] at h1
  rw [hl] at h2
  have HA := Lib.hid (fun w => cutA x hx w)
  have HP := Lib.hid (fun w h h2 => PutList_any s t a ys.length cap ys (by omega) w h h2)
  have HG2 := Lib.hid (fun w h => GetList_any s t l (by omega) w h)
  have HG := Lib.hid (fun w h => GetList_any s t (listB ys) (by rw [listB_length]; omega) w h)
  have e1 : getListR (listB ys) = (ys, 0) := by obtain ⟨i1, i2⟩ := list_listB ys h1 hyf; rw [getListR_ok i1, i2]
  have HL := Lib.hid (fun aa ab ca cb w h h2 => labelsA ys (by omega) aa ab ca cb w h h2)
  have z0 : (bs (listB ys)).size = 10 * ys.length := by rw [bs_size, listB_length]
  have HE := Lib.hid (And.intro hl (And.intro (putListR_ok h1) e1))
  obtain ⟨gl, hgl⟩ : ∃ gl, listL l = gl := ⟨_, rfl⟩
  have hg : getListR l = (gl, 0) := by rw [getListR_ok h2, hgl]
  have hlen2 : gl.length ≤ 300 := by have := getList_len l; rw [hg] at this; exact Nat.le_trans this hll
  have hback : putListR gl = (l, 0) := by
    rw [← hgl, putListR_ok (listL_right l.length l (Nat.le_refl _)).1, listB_back l.length l (Nat.le_refl _) h2]
  have HP2 := Lib.hid (fun aa ca w h h2 => PutList_any s t aa gl.length ca gl (by omega) w h h2)
  have HM := Lib.hid (And.intro hg hback)
  clear hgl hg hback hlen2
  have Ih := Lib.hid (Below.refl w.heap.size w)
  have HY := Lib.hid hy30
  clear hs hx hl hI1 hlen hys hyl hll hcm hlc hy30 h1 h2 hyf e1
  go_enter Tryd.func7, Tryd.ntmps7
  go_wp2_with (go_at_call 9; refine (shownA s t _ HS.out).mono ?_)
  rintro e w1 ⟨he, bk1⟩
  have he2 : e = .returned (.bool true) := by rw [he]
  subst he2
  clear he
  have In := Lib.hid (below_more Ih.out bk1)
  clear Ih
  have Ih := In
  clear In
  have hB := bk1
  clear bk1
  go_wp2_with (go_at_call 19; refine (HP.out _ (HS.out.more hB) ((IL.out.below Ih.out).mono Ih.out.size)).mono ?_)
  rintro e w2 ⟨he, bk2⟩
  have he2 : e = .returned (.tuple #[.string (bs (listB ys)), .int .i64 0]) := by rw [he, HE.out.2.1]
  subst he2
  clear he
  have In := Lib.hid (below_more Ih.out bk2)
  clear Ih
  have Ih := In
  clear In
  replace hB := below_more hB bk2
  clear bk2
  go_wp2_with (go_at_call 21; refine (HG.out _ (HS.out.more hB)).mono ?_)
  rintro e w3 ⟨Ca, Cc, he, Cl, bk3⟩
  have he2 : e = .returned (.tuple #[.slice Ca ys.length Cc, .int .i64 0]) := by rw [he, HE.out.2.2]
  subst he2
  clear he
  have CL := Lib.hid Cl
  clear Cl
  have CL2 := CL.out
  rw [HE.out.2.2] at CL2
  clear CL
  have CL := Lib.hid CL2
  clear CL2
  have In := Lib.hid (below_more Ih.out bk3)
  clear Ih
  have Ih := In
  clear In
  replace hB := below_more hB bk3
  clear bk3
  have Ch := Lib.hid (Below.refl w3.heap.size w3)
  go_wp2_with (go_at_call 23; refine (HL.out a Ca cap Cc _ ((IL.out.below Ih.out).mono Ih.out.size) ((CL.out.below Ch.out).mono Ch.out.size)).mono ?_)
  rintro e w4 ⟨he, bk4⟩
  have he2 : e = .returned (.bool true) := by rw [he]
  subst he2
  clear he
  have In := Lib.hid (below_more Ih.out bk4)
  clear Ih
  have Ih := In
  clear In
  have Cn := Lib.hid (below_more Ch.out bk4)
  clear Ch
  have Ch := Cn
  clear Cn
  replace hB := below_more hB bk4
  clear bk4
  have hyy := HY.out
  have hwr : IntKind.i64.wrap (10 * (ys.length : Int)) = 10 * (ys.length : Int) := by rw [IntKind.wrap_i64]; omega
  have hnn : (((10 * ys.length : Nat) : Int) != 10 * (ys.length : Int)) = false := by simp
  go_wp2_with (go_at_call 13; refine (HA.out _).mono ?_)
  rintro e w5 ⟨he, hw5⟩
  have he2 : e = .returned (.string (bs l)) := by rw [he, HE.out.1]
  subst he2
  clear he
  obtain rfl := hw5
  clear hyy hwr hnn
  go_wp2_with (go_at_call 21; refine (HG2.out _ (HS.out.more hB)).mono ?_)
  rintro e w5 ⟨Da, Dc, he, Dl, bk5⟩
  have he2 : e = .returned (.tuple #[.slice Da gl.length Dc, .int .i64 0]) := by rw [he, HM.out.1]
  subst he2
  clear he
  have DL := Lib.hid Dl
  clear Dl
  have DL2 := DL.out
  rw [HM.out.1] at DL2
  clear DL
  have DL := Lib.hid DL2
  clear DL2
  have In := Lib.hid (below_more Ih.out bk5)
  clear Ih
  have Ih := In
  clear In
  have Cn := Lib.hid (below_more Ch.out bk5)
  clear Ch
  have Ch := Cn
  clear Cn
  replace hB := below_more hB bk5
  clear bk5
  have Dh := Lib.hid (Below.refl w5.heap.size w5)
  go_wp2_with (go_at_call 19; refine (HP2.out Da Dc _ (HS.out.more hB) ((DL.out.below Dh.out).mono Dh.out.size)).mono ?_)
  rintro e w6 ⟨he, bk6⟩
  have he2 : e = .returned (.tuple #[.string (bs l), .int .i64 0]) := by rw [he, HM.out.2]
  subst he2
  clear he
  have In := Lib.hid (below_more Ih.out bk6)
  clear Ih
  have Ih := In
  clear In
  have Cn := Lib.hid (below_more Ch.out bk6)
  clear Ch
  have Ch := Cn
  clear Cn
  have Dn := Lib.hid (below_more Dh.out bk6)
  clear Dh
  have Dh := Dn
  clear Dn
  replace hB := below_more hB bk6
  clear bk6
  go_wp2_with (go_at_call 13; refine (HA.out _).mono ?_)
  rintro e w7 ⟨he, hw7⟩
  have he2 : e = .returned (.string (bs l)) := by rw [he, HE.out.1]
  subst he2
  clear he
  obtain rfl := hw7
  go_wp2
  go_ret
  exact ⟨rfl, hB⟩

set_option maxRecDepth 100000 in
set_option maxHeartbeats 4000000 in
theorem many_b (s : Sn) (t : SnL) (a : Option Addr) (len cap : Nat) (zs : List Lab) (x : List UInt8) (hx : x.length ≤ 9223372036854775807) (h1 : (zs.take 30).all Lab.right = true) (h2 : listC (x.take 300) ≠ 0) (w : World) (hI : LabsIn w a len cap zs) (hs : SentL s t w) :
    Calls Tryd.prog 7 #[.slice a len cap, .string (bs x)] w fun e w' => e = .returned (.bool true) ∧ Below w.heap.size w w' := by
  have HS := Lib.hid hs
  obtain ⟨hI1, hlen, hlc, hcm, _⟩ := hI
  obtain ⟨ys, hys⟩ : ∃ ys, zs.take 30 = ys := ⟨_, rfl⟩
  have hyl : ys.length = min len 30 := by rw [← hys, List.length_take, hlen, Nat.min_comm]
  have hm : min (len : Int) 30 = (ys.length : Int) := by omega
  have hyc : ys.length ≤ cap := by omega
  have hy30 : ys.length ≤ 30 := by omega
  have IL := Lib.hid (show Lb.Labs w.heap.size w (.slice a ys.length cap) ys by rw [hyl, ← hys]; exact labs_take hI1 30)
  have hyf : ∀ x ∈ ys, x.fits := Lb.Labs.fits IL.out
  have hcm2 : cap ≤ 9223372036854775807 := by unfold maxLen at hcm; omega
  obtain ⟨l, hl⟩ : ∃ l, x.take 300 = l := ⟨_, rfl⟩
  have hll : l.length ≤ 300 := by rw [← hl, List.length_take]; omega
  rw [hys] at h1
  rw [hl] at h2
  have HA := Lib.hid (fun w => cutA x hx w)
  have HP := Lib.hid (fun w h h2 => PutList_any s t a ys.length cap ys (by omega) w h h2)
  have HG2 := Lib.hid (fun w h => GetList_any s t l (by omega) w h)
  have HG := Lib.hid (fun w h => GetList_any s t (listB ys) (by rw [listB_length]; omega) w h)
  have e1 : getListR (listB ys) = (ys, 0) := by obtain ⟨i1, i2⟩ := list_listB ys h1 hyf; rw [getListR_ok i1, i2]
  have HL := Lib.hid (fun aa ab ca cb w h h2 => labelsA ys (by omega) aa ab ca cb w h h2)
  have z0 : (bs (listB ys)).size = 10 * ys.length := by rw [bs_size, listB_length]
  have HE := Lib.hid (And.intro hl (And.intro (putListR_ok h1) e1))
  obtain ⟨gc, hgc⟩ : ∃ gc, listC l = gc := ⟨_, rfl⟩
  have hg : getListR l = ([], gc) := by rw [getListR_no h2, hgc]
  have KN := Lib.hid (show (gc != 0) = true by rw [← hgc]; simpa using h2)
  have HP2 := Lib.hid (fun aa ca w h h2 => PutList_any s t aa 0 ca [] (by simp) w h h2)
  have HM := Lib.hid (And.intro hg (putListR_ok (zs := []) rfl))
  clear hgc hg
  have Ih := Lib.hid (Below.refl w.heap.size w)
  have HY := Lib.hid hy30
  clear hs hx hl hI1 hlen hys hyl hll hcm hlc hy30 h1 h2 hyf e1
  go_enter Tryd.func7, Tryd.ntmps7
  go_wp2_with (go_at_call 9; refine (shownA s t _ HS.out).mono ?_)
  rintro e w1 ⟨he, bk1⟩
  have he2 : e = .returned (.bool true) := by rw [he]
  subst he2
  clear he
  have In := Lib.hid (below_more Ih.out bk1)
  clear Ih
  have Ih := In
  clear In
  have hB := bk1
  clear bk1
  go_wp2_with (go_at_call 19; refine (HP.out _ (HS.out.more hB) ((IL.out.below Ih.out).mono Ih.out.size)).mono ?_)
  rintro e w2 ⟨he, bk2⟩
  have he2 : e = .returned (.tuple #[.string (bs (listB ys)), .int .i64 0]) := by rw [he, HE.out.2.1]
  subst he2
  clear he
  have In := Lib.hid (below_more Ih.out bk2)
  clear Ih
  have Ih := In
  clear In
  replace hB := below_more hB bk2
  clear bk2
  go_wp2_with (go_at_call 21; refine (HG.out _ (HS.out.more hB)).mono ?_)
  rintro e w3 ⟨Ca, Cc, he, Cl, bk3⟩
  have he2 : e = .returned (.tuple #[.slice Ca ys.length Cc, .int .i64 0]) := by rw [he, HE.out.2.2]
  subst he2
  clear he
  have CL := Lib.hid Cl
  clear Cl
  have CL2 := CL.out
  rw [HE.out.2.2] at CL2
  clear CL
  have CL := Lib.hid CL2
  clear CL2
  have In := Lib.hid (below_more Ih.out bk3)
  clear Ih
  have Ih := In
  clear In
  replace hB := below_more hB bk3
  clear bk3
  have Ch := Lib.hid (Below.refl w3.heap.size w3)
  go_wp2_with (go_at_call 23; refine (HL.out a Ca cap Cc _ ((IL.out.below Ih.out).mono Ih.out.size) ((CL.out.below Ch.out).mono Ch.out.size)).mono ?_)
  rintro e w4 ⟨he, bk4⟩
  have he2 : e = .returned (.bool true) := by rw [he]
  subst he2
  clear he
  have In := Lib.hid (below_more Ih.out bk4)
  clear Ih
  have Ih := In
  clear In
  have Cn := Lib.hid (below_more Ch.out bk4)
  clear Ch
  have Ch := Cn
  clear Cn
  replace hB := below_more hB bk4
  clear bk4
  have hyy := HY.out
  have hwr : IntKind.i64.wrap (10 * (ys.length : Int)) = 10 * (ys.length : Int) := by rw [IntKind.wrap_i64]; omega
  have hnn : (((10 * ys.length : Nat) : Int) != 10 * (ys.length : Int)) = false := by simp
  go_wp2_with (go_at_call 13; refine (HA.out _).mono ?_)
  rintro e w5 ⟨he, hw5⟩
  have he2 : e = .returned (.string (bs l)) := by rw [he, HE.out.1]
  subst he2
  clear he
  obtain rfl := hw5
  clear hyy hwr hnn
  go_wp2_with (go_at_call 21; refine (HG2.out _ (HS.out.more hB)).mono ?_)
  rintro e w5 ⟨Da, Dc, he, Dl, bk5⟩
  have he2 : e = .returned (.tuple #[.slice Da 0 Dc, .int .i64 gc]) := by rw [he, HM.out.1]; rfl
  subst he2
  clear he
  have DL := Lib.hid Dl
  clear Dl
  have DL2 := DL.out
  rw [HM.out.1] at DL2
  clear DL
  have DL := Lib.hid DL2
  clear DL2
  have In := Lib.hid (below_more Ih.out bk5)
  clear Ih
  have Ih := In
  clear In
  have Cn := Lib.hid (below_more Ch.out bk5)
  clear Ch
  have Ch := Cn
  clear Cn
  replace hB := below_more hB bk5
  clear bk5
  have Dh := Lib.hid (Below.refl w5.heap.size w5)
  go_wp2_with (go_at_call 19; refine (HP2.out Da Dc _ (HS.out.more hB) ((DL.out.below Dh.out).mono Dh.out.size)).mono ?_)
  rintro e w6 ⟨he, bk6⟩
  have he2 : e = .returned (.tuple #[.string (bs []), .int .i64 0]) := by rw [he, HM.out.2]; rfl
  subst he2
  clear he
  have In := Lib.hid (below_more Ih.out bk6)
  clear Ih
  have Ih := In
  clear In
  have Cn := Lib.hid (below_more Ch.out bk6)
  clear Ch
  have Ch := Cn
  clear Cn
  have Dn := Lib.hid (below_more Dh.out bk6)
  clear Dh
  have Dh := Dn
  clear Dn
  replace hB := below_more hB bk6
  clear bk6
  have hkn := KN.out
  go_wp2
  go_ret
  exact ⟨rfl, hB⟩

set_option maxRecDepth 100000 in
set_option maxHeartbeats 4000000 in
theorem many_c (s : Sn) (t : SnL) (a : Option Addr) (len cap : Nat) (zs : List Lab) (x : List UInt8) (hx : x.length ≤ 9223372036854775807) (h1 : (zs.take 30).all Lab.right = false) (h2 : listC (x.take 300) = 0) (w : World) (hI : LabsIn w a len cap zs) (hs : SentL s t w) :
    Calls Tryd.prog 7 #[.slice a len cap, .string (bs x)] w fun e w' => e = .returned (.bool true) ∧ Below w.heap.size w w' := by
  have HS := Lib.hid hs
  obtain ⟨hI1, hlen, hlc, hcm, _⟩ := hI
  obtain ⟨ys, hys⟩ : ∃ ys, zs.take 30 = ys := ⟨_, rfl⟩
  have hyl : ys.length = min len 30 := by rw [← hys, List.length_take, hlen, Nat.min_comm]
  have hm : min (len : Int) 30 = (ys.length : Int) := by omega
  have hyc : ys.length ≤ cap := by omega
  have hy30 : ys.length ≤ 30 := by omega
  have IL := Lib.hid (show Lb.Labs w.heap.size w (.slice a ys.length cap) ys by rw [hyl, ← hys]; exact labs_take hI1 30)
  have hyf : ∀ x ∈ ys, x.fits := Lb.Labs.fits IL.out
  have hcm2 : cap ≤ 9223372036854775807 := by unfold maxLen at hcm; omega
  obtain ⟨l, hl⟩ : ∃ l, x.take 300 = l := ⟨_, rfl⟩
  have hll : l.length ≤ 300 := by rw [← hl, List.length_take]; omega
  rw [hys] at h1
  rw [hl] at h2
  have HA := Lib.hid (fun w => cutA x hx w)
  have HP := Lib.hid (fun w h h2 => PutList_any s t a ys.length cap ys (by omega) w h h2)
  have HG2 := Lib.hid (fun w h => GetList_any s t l (by omega) w h)
  have HG := Lib.hid (fun w h => GetList_any s t [] (by simp) w h)
  have e1 : getListR [] = ([], 0) := by rw [getListR_ok listC_nil, listL_nil]
  have HE := Lib.hid (And.intro hl (And.intro (putListR_no h1) e1))
  obtain ⟨gl, hgl⟩ : ∃ gl, listL l = gl := ⟨_, rfl⟩
  have hg : getListR l = (gl, 0) := by rw [getListR_ok h2, hgl]
  have hlen2 : gl.length ≤ 300 := by have := getList_len l; rw [hg] at this; exact Nat.le_trans this hll
  have hback : putListR gl = (l, 0) := by
    rw [← hgl, putListR_ok (listL_right l.length l (Nat.le_refl _)).1, listB_back l.length l (Nat.le_refl _) h2]
  have HP2 := Lib.hid (fun aa ca w h h2 => PutList_any s t aa gl.length ca gl (by omega) w h h2)
  have HM := Lib.hid (And.intro hg hback)
  clear hgl hg hback hlen2
  have Ih := Lib.hid (Below.refl w.heap.size w)
  have HY := Lib.hid hy30
  clear hs hx hl hI1 hlen hys hyl hll hcm hlc hy30 h1 h2 hyf e1
  go_enter Tryd.func7, Tryd.ntmps7
  go_wp2_with (go_at_call 9; refine (shownA s t _ HS.out).mono ?_)
  rintro e w1 ⟨he, bk1⟩
  have he2 : e = .returned (.bool true) := by rw [he]
  subst he2
  clear he
  have In := Lib.hid (below_more Ih.out bk1)
  clear Ih
  have Ih := In
  clear In
  have hB := bk1
  clear bk1
  go_wp2_with (go_at_call 19; refine (HP.out _ (HS.out.more hB) ((IL.out.below Ih.out).mono Ih.out.size)).mono ?_)
  rintro e w2 ⟨he, bk2⟩
  have he2 : e = .returned (.tuple #[.string (bs []), .int .i64 20]) := by rw [he, HE.out.2.1]
  subst he2
  clear he
  have In := Lib.hid (below_more Ih.out bk2)
  clear Ih
  have Ih := In
  clear In
  replace hB := below_more hB bk2
  clear bk2
  go_wp2_with (go_at_call 21; refine (HG.out _ (HS.out.more hB)).mono ?_)
  rintro e w3 ⟨Ca, Cc, he, Cl, bk3⟩
  have he2 : e = .returned (.tuple #[.slice Ca 0 Cc, .int .i64 0]) := by rw [he, HE.out.2.2]; rfl
  subst he2
  clear he
  have CL := Lib.hid Cl
  clear Cl
  have CL2 := CL.out
  rw [HE.out.2.2] at CL2
  clear CL
  have CL := Lib.hid CL2
  clear CL2
  have In := Lib.hid (below_more Ih.out bk3)
  clear Ih
  have Ih := In
  clear In
  replace hB := below_more hB bk3
  clear bk3
  have Ch := Lib.hid (Below.refl w3.heap.size w3)
  go_wp2_with (go_at_call 13; refine (HA.out _).mono ?_)
  rintro e w4 ⟨he, hw4⟩
  have he2 : e = .returned (.string (bs l)) := by rw [he, HE.out.1]
  subst he2
  clear he
  obtain rfl := hw4
  go_wp2_with (go_at_call 21; refine (HG2.out _ (HS.out.more hB)).mono ?_)
  rintro e w4 ⟨Da, Dc, he, Dl, bk4⟩
  have he2 : e = .returned (.tuple #[.slice Da gl.length Dc, .int .i64 0]) := by rw [he, HM.out.1]
  subst he2
  clear he
  have DL := Lib.hid Dl
  clear Dl
  have DL2 := DL.out
  rw [HM.out.1] at DL2
  clear DL
  have DL := Lib.hid DL2
  clear DL2
  have In := Lib.hid (below_more Ih.out bk4)
  clear Ih
  have Ih := In
  clear In
  have Cn := Lib.hid (below_more Ch.out bk4)
  clear Ch
  have Ch := Cn
  clear Cn
  replace hB := below_more hB bk4
  clear bk4
  have Dh := Lib.hid (Below.refl w4.heap.size w4)
  go_wp2_with (go_at_call 19; refine (HP2.out Da Dc _ (HS.out.more hB) ((DL.out.below Dh.out).mono Dh.out.size)).mono ?_)
  rintro e w5 ⟨he, bk5⟩
  have he2 : e = .returned (.tuple #[.string (bs l), .int .i64 0]) := by rw [he, HM.out.2]
  subst he2
  clear he
  have In := Lib.hid (below_more Ih.out bk5)
  clear Ih
  have Ih := In
  clear In
  have Cn := Lib.hid (below_more Ch.out bk5)
  clear Ch
  have Ch := Cn
  clear Cn
  have Dn := Lib.hid (below_more Dh.out bk5)
  clear Dh
  have Dh := Dn
  clear Dn
  replace hB := below_more hB bk5
  clear bk5
  go_wp2_with (go_at_call 13; refine (HA.out _).mono ?_)
  rintro e w6 ⟨he, hw6⟩
  have he2 : e = .returned (.string (bs l)) := by rw [he, HE.out.1]
  subst he2
  clear he
  obtain rfl := hw6
  go_wp2
  go_ret
  exact ⟨rfl, hB⟩

set_option maxRecDepth 100000 in
set_option maxHeartbeats 4000000 in
theorem many_d (s : Sn) (t : SnL) (a : Option Addr) (len cap : Nat) (zs : List Lab) (x : List UInt8) (hx : x.length ≤ 9223372036854775807) (h1 : (zs.take 30).all Lab.right = false) (h2 : listC (x.take 300) ≠ 0) (w : World) (hI : LabsIn w a len cap zs) (hs : SentL s t w) :
    Calls Tryd.prog 7 #[.slice a len cap, .string (bs x)] w fun e w' => e = .returned (.bool true) ∧ Below w.heap.size w w' := by
  have HS := Lib.hid hs
  obtain ⟨hI1, hlen, hlc, hcm, _⟩ := hI
  obtain ⟨ys, hys⟩ : ∃ ys, zs.take 30 = ys := ⟨_, rfl⟩
  have hyl : ys.length = min len 30 := by rw [← hys, List.length_take, hlen, Nat.min_comm]
  have hm : min (len : Int) 30 = (ys.length : Int) := by omega
  have hyc : ys.length ≤ cap := by omega
  have hy30 : ys.length ≤ 30 := by omega
  have IL := Lib.hid (show Lb.Labs w.heap.size w (.slice a ys.length cap) ys by rw [hyl, ← hys]; exact labs_take hI1 30)
  have hyf : ∀ x ∈ ys, x.fits := Lb.Labs.fits IL.out
  have hcm2 : cap ≤ 9223372036854775807 := by unfold maxLen at hcm; omega
  obtain ⟨l, hl⟩ : ∃ l, x.take 300 = l := ⟨_, rfl⟩
  have hll : l.length ≤ 300 := by rw [← hl, List.length_take]; omega
  rw [hys] at h1
  rw [hl] at h2
  have HA := Lib.hid (fun w => cutA x hx w)
  have HP := Lib.hid (fun w h h2 => PutList_any s t a ys.length cap ys (by omega) w h h2)
  have HG2 := Lib.hid (fun w h => GetList_any s t l (by omega) w h)
  have HG := Lib.hid (fun w h => GetList_any s t [] (by simp) w h)
  have e1 : getListR [] = ([], 0) := by rw [getListR_ok listC_nil, listL_nil]
  have HE := Lib.hid (And.intro hl (And.intro (putListR_no h1) e1))
  obtain ⟨gc, hgc⟩ : ∃ gc, listC l = gc := ⟨_, rfl⟩
  have hg : getListR l = ([], gc) := by rw [getListR_no h2, hgc]
  have KN := Lib.hid (show (gc != 0) = true by rw [← hgc]; simpa using h2)
  have HP2 := Lib.hid (fun aa ca w h h2 => PutList_any s t aa 0 ca [] (by simp) w h h2)
  have HM := Lib.hid (And.intro hg (putListR_ok (zs := []) rfl))
  clear hgc hg
  have Ih := Lib.hid (Below.refl w.heap.size w)
  have HY := Lib.hid hy30
  clear hs hx hl hI1 hlen hys hyl hll hcm hlc hy30 h1 h2 hyf e1
  go_enter Tryd.func7, Tryd.ntmps7
  go_wp2_with (go_at_call 9; refine (shownA s t _ HS.out).mono ?_)
  rintro e w1 ⟨he, bk1⟩
  have he2 : e = .returned (.bool true) := by rw [he]
  subst he2
  clear he
  have In := Lib.hid (below_more Ih.out bk1)
  clear Ih
  have Ih := In
  clear In
  have hB := bk1
  clear bk1
  go_wp2_with (go_at_call 19; refine (HP.out _ (HS.out.more hB) ((IL.out.below Ih.out).mono Ih.out.size)).mono ?_)
  rintro e w2 ⟨he, bk2⟩
  have he2 : e = .returned (.tuple #[.string (bs []), .int .i64 20]) := by rw [he, HE.out.2.1]
  subst he2
  clear he
  have In := Lib.hid (below_more Ih.out bk2)
  clear Ih
  have Ih := In
  clear In
  replace hB := below_more hB bk2
  clear bk2
  go_wp2_with (go_at_call 21; refine (HG.out _ (HS.out.more hB)).mono ?_)
  rintro e w3 ⟨Ca, Cc, he, Cl, bk3⟩
  have he2 : e = .returned (.tuple #[.slice Ca 0 Cc, .int .i64 0]) := by rw [he, HE.out.2.2]; rfl
  subst he2
  clear he
  have CL := Lib.hid Cl
  clear Cl
  have CL2 := CL.out
  rw [HE.out.2.2] at CL2
  clear CL
  have CL := Lib.hid CL2
  clear CL2
  have In := Lib.hid (below_more Ih.out bk3)
  clear Ih
  have Ih := In
  clear In
  replace hB := below_more hB bk3
  clear bk3
  have Ch := Lib.hid (Below.refl w3.heap.size w3)
  go_wp2_with (go_at_call 13; refine (HA.out _).mono ?_)
  rintro e w4 ⟨he, hw4⟩
  have he2 : e = .returned (.string (bs l)) := by rw [he, HE.out.1]
  subst he2
  clear he
  obtain rfl := hw4
  go_wp2_with (go_at_call 21; refine (HG2.out _ (HS.out.more hB)).mono ?_)
  rintro e w4 ⟨Da, Dc, he, Dl, bk4⟩
  have he2 : e = .returned (.tuple #[.slice Da 0 Dc, .int .i64 gc]) := by rw [he, HM.out.1]; rfl
  subst he2
  clear he
  have DL := Lib.hid Dl
  clear Dl
  have DL2 := DL.out
  rw [HM.out.1] at DL2
  clear DL
  have DL := Lib.hid DL2
  clear DL2
  have In := Lib.hid (below_more Ih.out bk4)
  clear Ih
  have Ih := In
  clear In
  have Cn := Lib.hid (below_more Ch.out bk4)
  clear Ch
  have Ch := Cn
  clear Cn
  replace hB := below_more hB bk4
  clear bk4
  have Dh := Lib.hid (Below.refl w4.heap.size w4)
  go_wp2_with (go_at_call 19; refine (HP2.out Da Dc _ (HS.out.more hB) ((DL.out.below Dh.out).mono Dh.out.size)).mono ?_)
  rintro e w5 ⟨he, bk5⟩
  have he2 : e = .returned (.tuple #[.string (bs []), .int .i64 0]) := by rw [he, HM.out.2]; rfl
  subst he2
  clear he
  have In := Lib.hid (below_more Ih.out bk5)
  clear Ih
  have Ih := In
  clear In
  have Cn := Lib.hid (below_more Ch.out bk5)
  clear Ch
  have Ch := Cn
  clear Cn
  have Dn := Lib.hid (below_more Dh.out bk5)
  clear Dh
  have Dh := Dn
  clear Dn
  replace hB := below_more hB bk5
  clear bk5
  have hkn := KN.out
  go_wp2
  go_ret
  exact ⟨rfl, hB⟩

theorem many_walk (s : Sn) (t : SnL) (a : Option Addr) (len cap : Nat) (zs : List Lab) (x : List UInt8) (hx : x.length ≤ 9223372036854775807) (w : World) (hI : LabsIn w a len cap zs) (hs : SentL s t w) :
    Calls Tryd.prog 7 #[.slice a len cap, .string (bs x)] w fun e w' => e = .returned (.bool true) ∧ Below w.heap.size w w' := by
  cases h1 : (zs.take 30).all Lab.right
  · by_cases h2 : listC (x.take 300) = 0
    · exact many_c s t a len cap zs x hx h1 h2 w hI hs
    · exact many_d s t a len cap zs x hx h1 h2 w hI hs
  · by_cases h2 : listC (x.take 300) = 0
    · exact many_a s t a len cap zs x hx h1 h2 w hI hs
    · exact many_b s t a len cap zs x hx h1 h2 w hI hs

end Go.Proofs.YtfpjbefhfkembaaDoor
