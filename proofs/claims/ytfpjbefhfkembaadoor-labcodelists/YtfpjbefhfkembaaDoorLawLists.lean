/- LabcodeLists, walked: for every labels and every text it returns true. -/
import Derived.Test.YtfpjbefhfkembaaDoorLcE
import Derived.Test.YtfpjbefhfkembaaDoorLcD
namespace Go.Proofs.YtfpjbefhfkembaaDoor
open Go.RowKit Go.Shelf Go.Proofs.Fld Go.Proofs.Cats Go.Proofs.Lcd

attribute [local go_sem] bs_toList

theorem labelsA (zs : List Lab) (hz : zs.length ≤ 1048576) (aa ab : Option Addr) (ca cb : Nat) (w : World) (hA : Lb.Labs w.heap.size w (.slice aa zs.length ca) zs) (hB : Lb.Labs w.heap.size w (.slice ab zs.length cb) zs) :
    Calls Tryd.prog 23 #[.slice aa zs.length ca, .slice ab zs.length cb] w (Ans (.bool true) w) := refLabels_any zs hz aa ab ca cb w hA hB
theorem getList_len (l : List UInt8) : (getListR l).1.length ≤ l.length := by
  by_cases h : listC l = 0
  · rw [getListR_ok h]; exact list_len l.length l (Nat.le_refl _)
  · rw [getListR_no h]; exact Nat.zero_le _

set_option maxRecDepth 100000 in
set_option maxHeartbeats 4000000 in
theorem lists_walk (s : Sn) (t : SnL) (a : Option Addr) (len cap : Nat) (zs : List Lab) (x : List UInt8) (hx : x.length ≤ 9223372036854775807) (w : World) (hI : LabsIn w a len cap zs) (hs : SentL s t w) :
    Calls Tryd.prog 4 #[.slice a len cap, .string (bs x)] w fun e w' => e = .returned (.bool true) ∧ Below w.heap.size w w' := by
  have HS := Lib.hid hs
  obtain ⟨hI1, hlen, hlc, hcm, _⟩ := hI
  obtain ⟨ys, hys⟩ : ∃ ys, zs.take 30 = ys := ⟨_, rfl⟩
  have hyl : ys.length = min len 30 := by rw [← hys, List.length_take, hlen, Nat.min_comm]
  have hm : min (len : Int) 30 = (ys.length : Int) := by omega
  have hyc : ys.length ≤ cap := by omega
  have hy30 : ys.length ≤ 30 := by omega
  have IL := Lib.hid (show Lb.Labs w.heap.size w (.slice a ys.length cap) ys by rw [hyl, ← hys]; exact labs_take hI1 30)
  have hcm2 : cap ≤ 9223372036854775807 := by unfold maxLen at hcm; omega
  obtain ⟨l, hl⟩ : ∃ l, x.take 300 = l := ⟨_, rfl⟩
  have hll : l.length ≤ 300 := by rw [← hl, List.length_take]; omega
  obtain ⟨p, c, hp⟩ : ∃ p c, putListR ys = (p, c) := ⟨_, _, rfl⟩
  obtain ⟨gl, gc, hg⟩ : ∃ gl gc, getListR l = (gl, gc) := ⟨_, _, rfl⟩
  have hgl : gl.length ≤ 300 := by have := getList_len l; rw [hg] at this; exact Nat.le_trans this hll
  have HA := Lib.hid (fun w => cutA x hx w)
  have HP := Lib.hid (fun w h h2 => PutList_any s t a ys.length cap ys (by omega) w h h2)
  have HP2 := Lib.hid (fun w h => refPutList_any a cap ys (by omega) w h)
  have HG := Lib.hid (fun w h => GetList_any s t l (by omega) w h)
  have HG2 := Lib.hid (fun w => refGetList_any l (by omega) w)
  have HL := Lib.hid (fun aa ab ca cb w h h2 => labelsA gl (by omega) aa ab ca cb w h h2)
  have HE := Lib.hid (And.intro hl (And.intro hp hg))
  have Ih := Lib.hid (Below.refl w.heap.size w)
  clear hs hx hl hp hg hI1 hlen hys hyl hll hgl hcm hlc hy30
  go_enter Tryd.func4, Tryd.ntmps4
  go_wp2_with (go_at_call 9; refine (shownA s t _ HS.out).mono ?_)
  rintro e w1 ⟨he, bk1⟩
  have he2 : e = .returned (.bool true) := by rw [he]
  subst he2
  clear he
  have In := Lib.hid (below_more Ih.out bk1)
  clear Ih
  have Ih := In
  clear In
  have hB := bk1
  clear bk1
  go_wp2_with (go_at_call 19; refine (HP.out _ (HS.out.more hB) ((IL.out.below Ih.out).mono Ih.out.size)).mono ?_)
  rintro e w2 ⟨he, bk2⟩
  have he2 : e = .returned (.tuple #[.string (bs p), .int .i64 c]) := by rw [he, HE.out.2.1]
  subst he2
  clear he
  have In := Lib.hid (below_more Ih.out bk2)
  clear Ih
  have Ih := In
  clear In
  replace hB := below_more hB bk2
  clear bk2
  go_wp2_with (go_at_call 20; refine (HP2.out _ ((IL.out.below Ih.out).mono Ih.out.size)).mono ?_)
  rintro e w3 ⟨he, bk3⟩
  have he2 : e = .returned (.tuple #[.string (bs p), .int .i64 c]) := by rw [he, HE.out.2.1]
  subst he2
  clear he
  have In := Lib.hid (below_more Ih.out bk3)
  clear Ih
  have Ih := In
  clear In
  replace hB := below_more hB bk3
  clear bk3
  go_wp2_with (go_at_call 13; refine (HA.out _).mono ?_)
  rintro e w4 ⟨he, hw4⟩
  have he2 : e = .returned (.string (bs l)) := by rw [he, HE.out.1]
  subst he2
  clear he
  obtain rfl := hw4
  go_wp2_with (go_at_call 21; refine (HG.out _ (HS.out.more hB)).mono ?_)
  rintro e w4 ⟨Ca, Cc, he, Cl, bk4⟩
  have he2 : e = .returned (.tuple #[.slice Ca gl.length Cc, .int .i64 gc]) := by rw [he, HE.out.2.2]
  subst he2
  clear he
  have CL := Lib.hid Cl
  clear Cl
  have CL2 := CL.out
  rw [HE.out.2.2] at CL2
  clear CL
  have CL := Lib.hid CL2
  clear CL2
  have In := Lib.hid (below_more Ih.out bk4)
  clear Ih
  have Ih := In
  clear In
  replace hB := below_more hB bk4
  clear bk4
  have Ch := Lib.hid (Below.refl w4.heap.size w4)
  go_wp2_with (go_at_call 13; refine (HA.out _).mono ?_)
  rintro e w5 ⟨he, hw5⟩
  have he2 : e = .returned (.string (bs l)) := by rw [he, HE.out.1]
  subst he2
  clear he
  obtain rfl := hw5
  go_wp2_with (go_at_call 22; refine (HG2.out _).mono ?_)
  rintro e w5 ⟨Da, Dc, he, Dl, bk5⟩
  have he2 : e = .returned (.tuple #[.slice Da gl.length Dc, .int .i64 gc]) := by rw [he, HE.out.2.2]
  subst he2
  clear he
  have DL := Lib.hid Dl
  clear Dl
  have DL2 := DL.out
  rw [HE.out.2.2] at DL2
  clear DL
  have DL := Lib.hid DL2
  clear DL2
  have In := Lib.hid (below_more Ih.out bk5)
  clear Ih
  have Ih := In
  clear In
  have Cn := Lib.hid (below_more Ch.out bk5)
  clear Ch
  have Ch := Cn
  clear Cn
  replace hB := below_more hB bk5
  clear bk5
  have Dh := Lib.hid (Below.refl w5.heap.size w5)
  go_wp2_with (go_at_call 23; refine (HL.out Ca Da Cc Dc _ ((CL.out.below Ch.out).mono Ch.out.size) ((DL.out.below Dh.out).mono Dh.out.size)).mono ?_)
  rintro e w6 ⟨he, bk6⟩
  have he2 : e = .returned (.bool true) := by rw [he]
  subst he2
  clear he
  have In := Lib.hid (below_more Ih.out bk6)
  clear Ih
  have Ih := In
  clear In
  have Cn := Lib.hid (below_more Ch.out bk6)
  clear Ch
  have Ch := Cn
  clear Cn
  have Dn := Lib.hid (below_more Dh.out bk6)
  clear Dh
  have Dh := Dn
  clear Dn
  replace hB := below_more hB bk6
  clear bk6
  go_wp2
  go_ret
  exact ⟨rfl, hB⟩

end Go.Proofs.YtfpjbefhfkembaaDoor
