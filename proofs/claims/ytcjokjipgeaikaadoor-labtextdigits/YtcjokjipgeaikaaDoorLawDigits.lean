/- LabtextDigits: the walk. -/
import Derived.Test.YtcjokjipgeaikaaDoorTxShown
import Derived.Test.YtcjokjipgeaikaaDoorTxRef
import Derived.OpenShut
namespace Go.Proofs.YtcjokjipgeaikaaDoor
open Go.RowKit Go.Shelf Go.Proofs.Fld Go.Proofs.Tx Go.Proofs.Cats

attribute [local go_sem] bs_toList

set_option maxRecDepth 100000 in
set_option maxHeartbeats 1000000 in
theorem digits_walk_neg (ga : Addr) (n : Int) (h : n < 0) (w : World) (hE : Env ga w) : Calls Tryd.prog 7 #[.int .i64 n] w (TruePost w) := by
  have HE := Lib.hid hE
  clear hE
  have h10 : n < 10 := by omega
  go_enter Tryd.func7, Tryd.ntmps7
  go_wp2_with fail
  refine (shown_any ga _ HE.out).mono ?_
  rintro e w1 ⟨rfl, hb1⟩
  have HB1 := Lib.hid hb1
  clear hb1
  go_wp2_with fail
  refine (digits_neg n h _).mono ?_
  rintro e w2 ⟨rfl, rfl⟩
  go_wp2
  go_ret
  exact ⟨rfl, HB1.out⟩

set_option maxRecDepth 100000 in
set_option maxHeartbeats 1000000 in
theorem digits_walk_one (ga : Addr) (n : Nat) (h : n < 10) (w : World) (hE : Env ga w) : Calls Tryd.prog 7 #[.int .i64 (n : Int)] w (TruePost w) := by
  have HE := Lib.hid hE
  clear hE
  have hbs := bs_size
  have hD := digits_any ga n (by omega)
  rw [dd_one h] at hD
  have hcn := toNat_dig h
  obtain ⟨c, hc⟩ : ∃ c, UInt8.ofNat (48 + n) = c := ⟨_, rfl⟩
  rw [hc] at hD hcn
  have HD := Lib.hid hD
  have HC := Lib.hid hcn
  clear hc hcn
  have hq : ¬ (n : Int) < 0 := by omega
  clear hD
  go_enter Tryd.func7, Tryd.ntmps7
  go_wp2_with fail
  refine (shown_any ga _ HE.out).mono ?_
  rintro e w1 ⟨rfl, hb1⟩
  have HB1 := Lib.hid hb1
  clear hb1
  go_wp2_with fail
  refine (HD.out _ (HE.out.more HB1.out)).mono ?_
  rintro e w2 ⟨rfl, hb2⟩
  have HB2 := Lib.hid (below_more HB1.out hb2)
  clear hb2
  go_wp2
  go_ret
  refine ⟨?_, HB2.out⟩
  have e : (((c.toNat : Nat) : Int) == 48 + (n : Int)) = true := by rw [HC.out]; simp
  show Ending.returned (.bool (((c.toNat : Nat) : Int) == 48 + (n : Int))) = _
  rw [e]

set_option maxRecDepth 100000 in
set_option maxHeartbeats 1000000 in
theorem digits_walk_more (ga : Addr) (n : Nat) (h : ¬ n < 10) (hn : n ≤ 9223372036854775807) (w : World) (hE : Env ga w) : Calls Tryd.prog 7 #[.int .i64 (n : Int)] w (TruePost w) := by
  have HE := Lib.hid hE
  clear hE
  have l1 := dd_len19 (n := n / 10) (by omega)
  have l2 := dd_len19 (n := n % 10) (by omega)
  have hbs := bs_size
  have hba := bs_append
  have HD := Lib.hid (digits_any ga n hn)
  have HM := Lib.hid (dd_more h)
  have E1 := Lib.hid (show ((n : Int) / 10) = ((n / 10 : Nat) : Int) by omega)
  have E2 := Lib.hid (show ((n : Int) % 10) = ((n % 10 : Nat) : Int) by omega)
  go_enter Tryd.func7, Tryd.ntmps7
  go_wp2_with fail
  refine (shown_any ga _ HE.out).mono ?_
  rintro e w1 ⟨rfl, hb1⟩
  have HB1 := Lib.hid hb1
  clear hb1
  go_wp2_with fail
  refine (HD.out _ (HE.out.more HB1.out)).mono ?_
  rintro e w2 ⟨rfl, hb2⟩
  rw [HM.out]
  have HB2 := Lib.hid (below_more HB1.out hb2)
  clear hb2
  go_wp2_with fail
  rw [E1.out]
  refine (digits_any ga (n / 10) (by omega) _ (HE.out.more HB2.out)).mono ?_
  rintro e w3 ⟨rfl, hb3⟩
  have HB3 := Lib.hid (below_more HB2.out hb3)
  clear hb3
  go_wp2_with fail
  rw [E2.out]
  refine (digits_any ga (n % 10) (by omega) _ (HE.out.more HB3.out)).mono ?_
  rintro e w4 ⟨rfl, hb4⟩
  have HB4 := Lib.hid (below_more HB3.out hb4)
  clear hb4
  go_wp2
  go_ret
  exact ⟨rfl, HB4.out⟩

theorem digits_walk (ga : Addr) (n : Int) (h : (Lit.int .i64 n).wf = true) (w : World) (hE : Env ga w) : Calls Tryd.prog 7 #[.int .i64 n] w (TruePost w) := by
  have hb := bounds_i64 h
  by_cases h0 : n < 0
  · exact digits_walk_neg ga n h0 w hE
  · obtain ⟨m, rfl⟩ := Int.eq_ofNat_of_zero_le (show 0 ≤ n by omega)
    by_cases h10 : m < 10
    · exact digits_walk_one ga m h10 w hE
    · exact digits_walk_more ga m h10 (by omega) w hE

end Go.Proofs.YtcjokjipgeaikaaDoor
