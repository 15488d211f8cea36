/- What the laws share: the examples, the first three hundred bytes. -/
import Derived.Test.YtpmelbjbkdflgaaDoorFldGet2
namespace Go.Proofs.YtpmelbjbkdflgaaDoor
open Go.RowKit Go.Shelf Go.Proofs.Fld

set_option maxRecDepth 100000 in
set_option maxHeartbeats 2000000 in
theorem shown_any (s : Sn) (w : World) (hs : Sent s w) : Calls Tryd.prog 10 #[] w fun e w' => e = .returned (.bool true) ∧ Below w.heap.size w w' := by
  have HS := Lib.hid hs
  clear hs
  go_enter Tryd.func10, Tryd.ntmps10
  go_wp2_with (go_at_call 11; refine (put_any s 2 (by decide) 300 (by decide) w HS.out).mono ?_)
  rintro e w1 ⟨he, b1⟩
  have he2 : e = .returned (.tuple #[.string { data := #[1, 44] }, .int .i64 0]) := by rw [he]; rfl
  subst he2
  clear he
  go_wp2_with (go_at_call 13; refine (get_any s 4 (by decide) [0, 0, 0, 5, 120] w1 (HS.out.more b1)).mono ?_)
  rintro e w2 ⟨he, b2⟩
  have he2 : e = .returned (.tuple #[.int .u64 5, .string { data := #[120] }, .int .i64 0]) := by rw [he]; rfl
  subst he2
  clear he
  have c2 := below_more b1 b2
  go_wp2_with (go_at_call 16; refine (putText_any s [97, 98] (by decide) w2 (HS.out.more c2)).mono ?_)
  rintro e w3 ⟨he, b3⟩
  have he2 : e = .returned (.tuple #[.string { data := #[2, 97, 98] }, .int .i64 0]) := by rw [he]; rfl
  subst he2
  clear he
  have c3 := below_more c2 b3
  go_wp2_with (go_at_call 18; refine (getText_any s [3, 97, 98] w3 (HS.out.more c3)).mono ?_)
  rintro e w4 ⟨he, b4⟩
  have he2 : e = .returned (.tuple #[.string { data := #[] }, .string { data := #[] }, .int .i64 30]) := by rw [he]; rfl
  subst he2
  clear he
  have c4 := below_more c3 b4
  go_wp2
  go_ret
  exact ⟨rfl, c4⟩

set_option maxHeartbeats 1000000 in
theorem cut300 (l : List UInt8) (hl : l.length ≤ 9223372036854775807) (w : World) : Calls Tryd.prog 14 #[.string (bs l)] w fun e w' => e = .returned (.string (bs (l.take 300))) ∧ w = w' := by
  have hsz := bs_size l
  by_cases h : l.length ≤ 300
  · have hup := str_upto l l.length (Nat.le_refl _)
    have ht : l.take l.length = l := List.take_length
    have ht2 : l.take 300 = l := List.take_of_length_le h
    rw [ht] at hup
    rw [ht2]
    have hm : min (l.length : Int) 300 = (l.length : Int) := by omega
    clear ht ht2
    go_enter Tryd.func14, Tryd.ntmps14
    go_wp2
    go_ret
    exact ⟨rfl, rfl⟩
  · have hup : ∀ w, (Instr.slice 9 (.string (bs l)) none (some (.int .i64 300)) none).run Tryd.prog w = .ok (.string (bs (l.take 300))) w := fun w => str_upto l 300 (by omega) w
    have hm : min (l.length : Int) 300 = 300 := by omega
    go_enter Tryd.func14, Tryd.ntmps14
    go_wp2
    go_ret
    exact ⟨rfl, rfl⟩

end Go.Proofs.YtpmelbjbkdflgaaDoor
