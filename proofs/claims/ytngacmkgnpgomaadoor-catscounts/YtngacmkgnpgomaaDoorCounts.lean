/- The statement CatsCounts, walked. -/
import Derived.Test.YtngacmkgnpgomaaDoorOne
import Derived.Test.YtngacmkgnpgomaaDoorLaid
namespace Go.Proofs.YtngacmkgnpgomaaDoor
open Go.RowKit Go.Proofs.Cats

set_option maxHeartbeats 400000 in
theorem counts_no (s : Nat) (hs : U64 s) (i : Int) (hi : okC i = false) (ga : Addr) (w : World) (hg : Glob ga w) :
    Calls Tryd.prog 8 #[.int .u64 s, .int .i64 i] w fun e W' => e = .returned (.bool true) ∧ Below w.heap.size w W' := by
  have e1 := Lib.hid (show joinE [i] = 10 by simp [joinE_one, hi])
  have e2 := Lib.hid (hasB_no s i hi)
  clear hi
  go_enter Tryd.func8, Tryd.ntmps8
  go_wp2_with fail
  refine (shown_any ga w hg).mono ?_
  rintro e w1 ⟨rfl, hb1⟩
  have g1 := Lib.hid (hg.below hg.lt hb1)
  have z1 := hb1.size
  go_wp2_with fail
  refine (with_any s hs i ga w1 g1.out).mono ?_
  rintro e w2 ⟨he, hb2⟩
  rw [e1.out] at he
  subst he
  have g2 := Lib.hid (g1.out.below g1.out.lt hb2)
  go_wp2_with fail
  refine (has_any s hs i ga w2 g2.out).mono ?_
  rintro e w3 ⟨he, rfl⟩
  rw [e2.out] at he
  subst he
  go_wp2
  go_ret
  exact ⟨rfl, hb1.trans (hb2.mono z1)⟩

set_option maxHeartbeats 400000 in
theorem counts_yes (s : Nat) (hs : U64 s) (k : Nat) (hk : k < 64) (t : Bool) (ht : s.testBit k = t) (ga : Addr) (w : World) (hg : Glob ga w) :
    Calls Tryd.prog 8 #[.int .u64 s, .int .i64 k] w fun e W' => e = .returned (.bool true) ∧ Below w.heap.size w W' := by
  have e1 := Lib.hid (show joinE [(k : Int)] = 0 by simp [joinE_one, (okC_iff (k : Int)).2 (by omega)])
  have e2 := Lib.hid ((hasB_ok s k hk).trans ht)
  have e3 := Lib.hid (joinV_one s k hk)
  have e4 := cnt_with 64 s k
  have e5 := cnt_less_with s k hs hk
  have e6 := Lib.hid (less_with_zero s k hs hk)
  have c1 := cnt_le 64 s
  have hu := or_pow_u64 s k hs hk
  rw [ht] at e4 e5
  have E5 := Lib.hid e5
  simp only [hk, true_and] at e4
  generalize hA : s ||| 2 ^ k = A at *
  have E4 := Lib.hid e4
  have HL : U64 (lessN A s) := hu.less s
  clear e4 e5 hA ht
  go_enter Tryd.func8, Tryd.ntmps8
  go_wp2_with fail
  refine (shown_any ga w hg).mono ?_
  rintro e w1 ⟨rfl, hb1⟩
  have g1 := Lib.hid (hg.below hg.lt hb1)
  have z1 := hb1.size
  go_wp2_with fail
  refine (with_any s hs k ga w1 g1.out).mono ?_
  rintro e w2 ⟨he, hb2⟩
  rw [e1.out, e3.out] at he
  subst he
  have g2 := Lib.hid (g1.out.below g1.out.lt hb2)
  go_wp2_with fail
  refine (count_any s hs w2).mono ?_
  rintro e w3 ⟨rfl, rfl⟩
  go_wp2_with fail
  refine (has_any s hs k ga w2 g2.out).mono ?_
  rintro e w3 ⟨he, rfl⟩
  rw [e2.out] at he
  subst he
  cases t
  · have f4 : cnt 64 A = cnt 64 s + 1 := by simpa using E4.out
    have f5 : cnt 64 (lessN A s) = 1 := by simpa using E5.out
    have F4 : ((cnt 64 A : Int) == (cnt 64 s : Int) + 1) = true := by rw [beq_iff_eq]; omega
    have F5 := Lib.hid f5
    clear f4 f5 E4 E5
    go_wp2_with fail
    refine (count_any A hu w2).mono ?_
    rintro e w3 ⟨rfl, rfl⟩
    go_wp2_with fail
    refine (sub_any s A hs hu w2).mono ?_
    rintro e w3 ⟨he, rfl⟩
    rw [e6.out] at he
    subst he
    go_wp2_with fail
    refine (less_any A s hu hs w2).mono ?_
    rintro e w3 ⟨rfl, rfl⟩
    go_wp2_with fail
    refine (count_any (lessN A s) HL w2).mono ?_
    rintro e w3 ⟨he, rfl⟩
    rw [F5.out] at he
    subst he
    go_wp2_with fail
    refine (count_any s hs w2).mono ?_
    rintro e w3 ⟨rfl, rfl⟩
    have F6 : ((1 : Int) == (cnt 64 s : Int) + 1 - (cnt 64 s : Int)) = true := by rw [beq_iff_eq]; omega
    go_wp2
    go_ret
    refine ⟨?_, hb1.trans (hb2.mono z1)⟩
    rfl
  · have f4 : cnt 64 A = cnt 64 s := by simpa using E4.out
    have f5 : cnt 64 (lessN A s) = 0 := by simpa using E5.out
    have F4 := Lib.hid f4
    have F5 := Lib.hid f5
    clear f4 f5 E4 E5
    go_wp2_with fail
    refine (count_any A hu w2).mono ?_
    rintro e w3 ⟨he, rfl⟩
    rw [F4.out] at he
    subst he
    go_wp2_with fail
    refine (sub_any s A hs hu w2).mono ?_
    rintro e w3 ⟨he, rfl⟩
    rw [e6.out] at he
    subst he
    go_wp2_with fail
    refine (less_any A s hu hs w2).mono ?_
    rintro e w3 ⟨rfl, rfl⟩
    go_wp2_with fail
    refine (count_any (lessN A s) HL w2).mono ?_
    rintro e w3 ⟨he, rfl⟩
    rw [F5.out] at he
    subst he
    go_wp2_with fail
    refine (count_any s hs w2).mono ?_
    rintro e w3 ⟨rfl, rfl⟩
    go_wp2
    go_ret
    refine ⟨?_, hb1.trans (hb2.mono z1)⟩
    rfl

theorem counts_any (s : Nat) (i : Int) (hs : U64 s) (ga : Addr) (w : World) (hg : Glob ga w) :
    Calls Tryd.prog 8 #[.int .u64 s, .int .i64 i] w fun e W' => e = .returned (.bool true) ∧ Below w.heap.size w W' := by
  cases hi : okC i
  · exact counts_no s hs i hi ga w hg
  · obtain ⟨h0, h1⟩ := (okC_iff i).1 hi
    obtain ⟨k, rfl⟩ := Int.eq_ofNat_of_zero_le h0
    exact counts_yes s hs k (by omega) _ rfl ga w hg

end Go.Proofs.YtngacmkgnpgomaaDoor
