/- LabtextPrints: the walk. -/
import Derived.Test.YtcjokjipgeaikaaDoorTxShown
import Derived.Test.YtcjokjipgeaikaaDoorTxRef
import Derived.OpenShut
namespace Go.Proofs.YtcjokjipgeaikaaDoor
open Go.RowKit Go.Shelf Go.Proofs.Fld Go.Proofs.Tx Go.Proofs.Cats

attribute [local go_sem] bs_toList

theorem digN_any (ga : Addr) (n : Int) (hn : n ≤ 9223372036854775807) (w : World) (hE : Env ga w) : Calls Tryd.prog 11 #[.int .i64 n] w (StrPost (digN n) w) := by
  by_cases h0 : n < 0
  · refine (digits_neg n h0 w).mono ?_
    rintro e w' ⟨rfl, rfl⟩
    rw [digN_neg h0]
    exact ⟨rfl, Below.refl _ _⟩
  · obtain ⟨m, rfl⟩ := Int.eq_ofNat_of_zero_le (show 0 ≤ n by omega)
    rw [digN_nat]
    exact digits_any ga m (by omega) w hE
theorem refDigN_any (n : Int) (hn : n ≤ 9223372036854775807) (w : World) : Calls Tryd.prog 12 #[.int .i64 n] w (StrPost (digN n) w) := by
  by_cases h0 : n < 0
  · refine (refDigits_neg n h0 w).mono ?_
    rintro e w' ⟨rfl, rfl⟩
    rw [digN_neg h0]
    exact ⟨rfl, Below.refl _ _⟩
  · obtain ⟨m, rfl⟩ := Int.eq_ofNat_of_zero_le (show 0 ≤ n by omega)
    rw [digN_nat]
    exact refDigits_any m (by omega) w

set_option maxRecDepth 100000 in
set_option maxHeartbeats 1000000 in
theorem prints_walk (ga : Addr) (x : Lab) (hf : x.fits) (n : Int) (hn : (Lit.int .i64 n).wf = true) (w : World) (hE : Env ga w) : Calls Tryd.prog 3 #[.agg #[.int .i64 x.l, .int .u64 (x.c : Int), .int .i64 x.i], .int .i64 n] w (TruePost w) := by
  have hnb := (bounds_i64 hn).2
  have hb0 := Below.new w (.cells #[.int .i64 x.l, .int .u64 (x.c : Int), .int .i64 x.i] 24)
  have hl0 : Lb3 (w.alloc (.cells #[.int .i64 x.l, .int .u64 (x.c : Int), .int .i64 x.i] 24)) w.heap.size x := World.alloc_heap_new w _
  have HE := Lib.hid hE
  have HB0 := Lib.hid hb0
  have HL0 := Lib.hid hl0
  have hn2 : n ≤ 9223372036854775807 := by omega
  clear hE hb0 hl0 hn hnb
  go_enter Tryd.func3, Tryd.ntmps3
  go_wp2_with fail
  refine (shown_any ga _ (HE.out.more HB0.out)).mono ?_
  rintro e w1 ⟨rfl, hb1⟩
  have hl1 := HL0.out.block (hb1.block _ HL0.out.lt)
  have HB1 := Lib.hid (below_more HB0.out hb1)
  have HL1 := Lib.hid hl1
  have a0 := hl1.c0
  have a1 := hl1.c1
  have a2 := hl1.c2
  clear hb1 hl1
  go_wp2_with fail
  refine (print_any ga x hf _ (HE.out.more HB1.out)).mono ?_
  rintro e w2 ⟨rfl, hb2⟩
  have HP := Lib.hid (refPrint_any x hf)
  generalize (if x.right = true then prt x else []) = t at *
  generalize (if x.right = true then (0 : Int) else 20) = u at *
  have hl2 := HL1.out.block (hb2.block _ HL1.out.lt)
  have HB2 := Lib.hid (below_more HB1.out hb2)
  have b0 := hl2.c0
  have b1 := hl2.c1
  have b2 := hl2.c2
  clear hb2 hl2 a0 a1 a2
  go_wp2_with fail
  refine (HP.out _).mono ?_
  rintro e w3 ⟨rfl, hb3⟩
  have HB3 := Lib.hid (below_more HB2.out hb3)
  clear hb3 b0 b1 b2
  go_wp2_with fail
  refine (digN_any ga n hn2 _ (HE.out.more HB3.out)).mono ?_
  rintro e w4 ⟨rfl, hb4⟩
  have HB4 := Lib.hid (below_more HB3.out hb4)
  clear hb4
  go_wp2_with fail
  refine (refDigN_any n hn2 _).mono ?_
  rintro e w5 ⟨rfl, hb5⟩
  have HB5 := Lib.hid (below_more HB4.out hb5)
  clear hb5
  go_wp2
  go_ret
  exact ⟨rfl, HB5.out⟩

end Go.Proofs.YtcjokjipgeaikaaDoor
