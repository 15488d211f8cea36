/- The statement CatsParts, walked. -/
import Derived.Test.YtngacmkgnpgomaaDoorLaid
namespace Go.Proofs.YtngacmkgnpgomaaDoor
open Go.RowKit Go.Proofs.Cats

set_option maxHeartbeats 400000 in
theorem parts_any (a b : Nat) (ha : U64 a) (hb : U64 b) (ga : Addr) (w : World) (hg : Glob ga w) :
    Calls Tryd.prog 7 #[.int .u64 a, .int .u64 b] w fun e W' => e = .returned (.bool true) ∧ Below w.heap.size w W' := by
  have hl := ha.less b
  have ho := ha.less (lessN a b)
  have s1 := Lib.hid (beq_nat0 (lessN a b))
  have s2 := Lib.hid (show (lessN (lessN a b) a == 0) = true by
    rw [beq_iff_eq]
    exact less_eq_zero _ _ hl ha (fun i h => by rw [lessN_testBit a b i ha hb] at h; simp at h; exact h.1))
  have s3 := Lib.hid (show (lessN (lessN a (lessN a b)) b == 0) = true by
    rw [beq_iff_eq]
    exact less_eq_zero _ _ ho hb (fun i h => by rw [less_less a b ha hb i] at h; simp at h; exact h.2))
  have s4 := Lib.hid (less_add a b ha hb)
  have s5 := Lib.hid (cnt_split 64 a b ha hb)
  have s6 := Lib.hid (cnt_le 64 a)
  generalize hL : lessN a b = L at *
  generalize hO : lessN a L = O at *
  have HL := Lib.hid hL
  have HO := Lib.hid hO
  clear hL hO
  go_enter Tryd.func7, Tryd.ntmps7
  go_wp2_with fail
  refine (shown_any ga w hg).mono ?_
  rintro e w1 ⟨rfl, hb1⟩
  go_wp2_with fail
  refine (less_any a b ha hb w1).mono ?_
  rintro e w2 ⟨he, rfl⟩
  rw [HL.out] at he
  subst he
  go_wp2_with fail
  refine (less_any a L ha hl w1).mono ?_
  rintro e w2 ⟨he, rfl⟩
  rw [HO.out] at he
  subst he
  go_wp2_with fail
  refine (sub_any a b ha hb w1).mono ?_
  rintro e w2 ⟨he, rfl⟩
  rw [HL.out] at he
  subst he
  have t1 := s1.out
  go_wp2_with fail
  refine (sub_any L a hl ha w1).mono ?_
  rintro e w2 ⟨he, rfl⟩
  rw [s2.out] at he
  subst he
  clear t1
  go_wp2_with fail
  refine (sub_any O b ho hb w1).mono ?_
  rintro e w2 ⟨he, rfl⟩
  rw [s3.out] at he
  subst he
  have t4 : (IntKind.u64.wrap ((L : Int) + (O : Int)) == (a : Int)) = true := by
    have h4 := s4.out
    have ha' := ha
    unfold U64 at ha'
    rw [beq_iff_eq, IntKind.wrap_u64]
    omega
  go_wp2_with fail
  refine (count_any L hl w1).mono ?_
  rintro e w2 ⟨rfl, rfl⟩
  clear t4
  go_wp2_with fail
  refine (count_any O ho w1).mono ?_
  rintro e w2 ⟨rfl, rfl⟩
  have c1 := cnt_le 64 L
  have c2 := cnt_le 64 O
  go_wp2_with fail
  refine (count_any a ha w1).mono ?_
  rintro e w2 ⟨rfl, rfl⟩
  have t5 : ((cnt 64 L : Int) + (cnt 64 O : Int) == (cnt 64 a : Int)) = true := by
    have h5 := s5.out
    rw [beq_iff_eq]
    omega
  go_wp2
  go_ret
  exact ⟨rfl, hb1⟩

end Go.Proofs.YtngacmkgnpgomaaDoor
