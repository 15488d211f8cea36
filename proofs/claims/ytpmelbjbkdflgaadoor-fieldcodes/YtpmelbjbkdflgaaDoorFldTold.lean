/- What callers are told. -/
import Derived.Test.YtpmelbjbkdflgaaDoorFldErr
namespace Go.Proofs.YtpmelbjbkdflgaaDoor
open Go.RowKit

theorem as_nil_any (t : Value) (w : World) : Calls Tryd.prog 37 #[.nilIface, t] w fun e w' => e = .returned (.bool false) ∧ Below w.heap.size w w' :=
  (as_nil t w).mono fun _ _ ⟨h, hw⟩ => ⟨h, hw ▸ Below.refl _ _⟩

set_option maxHeartbeats 1000000 in
theorem told_nil (w : World) : Calls Tryd.prog 27 #[.nilIface] w fun e w' => e = .returned (.int .i64 0) ∧ Below w.heap.size w w' := by
  go_enter Tryd.func27, Tryd.ntmps27
  go_wp2_with (go_at_call 37; refine (as_nil_any _ _).mono ?_)
  rintro e w1 ⟨rfl, b1⟩
  go_wp2
  go_ret
  exact ⟨rfl, below_more (Below.new _ _) b1⟩

theorem new2 (w : World) (v0 v1 : Value) (t : TypeId) : (w.alloc (.cells #[v0, v1] t)).cell? ⟨w.heap.size, 0, none⟩ = some v0 ∧ (w.alloc (.cells #[v0, v1] t)).cell? ⟨w.heap.size, 1, none⟩ = some v1 ∧
    (w.alloc (.cells #[v0, v1] t)).frozen? ⟨w.heap.size, 0, none⟩ = false ∧ (w.alloc (.cells #[v0, v1] t)).frozen? ⟨w.heap.size, 1, none⟩ = false := by
  refine ⟨?_, ?_, ?_, ?_⟩
  · rw [World.cell?_alloc_at _ _ _ _ rfl]; rfl
  · rw [World.cell?_alloc_at _ _ _ _ rfl]; rfl
  · simp
  · simp

set_option maxHeartbeats 1000000 in
theorem told_w (s : Sn) (k : Int) (w : World) (hs : Sent s w) : Calls Tryd.prog 27 #[faultV k s.w] w fun e w' => e = .returned (.int .i64 2) ∧ Below w.heap.size w w' := by
  unfold faultV
  obtain ⟨n0, n1, n2, n3⟩ := new2 w (.int .i64 0) .nilIface 62
  have s1 := Lib.hid (hs.alloc (.cells #[.int .i64 0, .nilIface] 62))
  go_enter Tryd.func27, Tryd.ntmps27
  go_wp2_with (go_at_call 37; refine (as_hit k 118 (.pointer (some s.w)) w.heap.size _ _ _ s1.out.ct n0 n1 n2 n3).mono ?_)
  rintro e w1 ⟨rfl, c0, c1, b1⟩
  have b2 : Below w.heap.size w w1 := (Below.new w _).trans b1
  have g1 := (hs.more b2).cw
  clear n0 n1 n2 n3 s1
  go_wp2_with (go_at_call 38; refine (is_hit k s.w w1).mono ?_)
  rintro e w2 ⟨rfl, b3⟩
  go_wp2
  go_ret
  exact ⟨rfl, below_more b2 b3⟩

set_option maxHeartbeats 1000000 in
theorem told_f (s : Sn) (k : Int) (w : World) (hs : Sent s w) : Calls Tryd.prog 27 #[faultV k s.f] w fun e w' => e = .returned (.int .i64 30) ∧ Below w.heap.size w w' := by
  unfold faultV
  obtain ⟨n0, n1, n2, n3⟩ := new2 w (.int .i64 0) .nilIface 62
  have s1 := Lib.hid (hs.alloc (.cells #[.int .i64 0, .nilIface] 62))
  go_enter Tryd.func27, Tryd.ntmps27
  go_wp2_with (go_at_call 37; refine (as_hit k 118 (.pointer (some s.f)) w.heap.size _ _ _ s1.out.ct n0 n1 n2 n3).mono ?_)
  rintro e w1 ⟨rfl, c0, c1, b1⟩
  have b2 : Below w.heap.size w w1 := (Below.new w _).trans b1
  have s2 := hs.more b2
  have l1 : w.heap.size < w1.heap.size := World.block_lt_of_cell? w1 _ c0
  have g1 := s2.cw
  have S2 := Lib.hid s2
  clear n0 n1 n2 n3 s1 s2
  go_wp2_with (go_at_call 38; refine (is_miss k s.f s.w w1 (Ne.symm S2.out.wf) S2.out.bf S2.out.bw).mono ?_)
  rintro e w2 ⟨rfl, b3⟩
  have d0 := (b3.cell (p := ⟨w.heap.size, 0, none⟩) l1).trans c0
  have d1 := (b3.cell (p := ⟨w.heap.size, 1, none⟩) l1).trans c1
  have g2 := (S2.out.more b3).cf
  clear c0 c1 g1
  go_wp2_with (go_at_call 38; refine (is_hit k s.f w2).mono ?_)
  rintro e w3 ⟨rfl, b4⟩
  go_wp2
  go_ret
  exact ⟨rfl, below_more (below_more b2 b3) b4⟩

set_option maxHeartbeats 1000000 in
theorem told_g (s : Sn) (k : Int) (w : World) (hs : Sent s w) : Calls Tryd.prog 27 #[faultV k s.g] w fun e w' => e = .returned (.int .i64 31) ∧ Below w.heap.size w w' := by
  unfold faultV
  obtain ⟨n0, n1, n2, n3⟩ := new2 w (.int .i64 0) .nilIface 62
  have s1 := Lib.hid (hs.alloc (.cells #[.int .i64 0, .nilIface] 62))
  go_enter Tryd.func27, Tryd.ntmps27
  go_wp2_with (go_at_call 37; refine (as_hit k 118 (.pointer (some s.g)) w.heap.size _ _ _ s1.out.ct n0 n1 n2 n3).mono ?_)
  rintro e w1 ⟨rfl, c0, c1, b1⟩
  have b2 : Below w.heap.size w w1 := (Below.new w _).trans b1
  have s2 := hs.more b2
  have l1 : w.heap.size < w1.heap.size := World.block_lt_of_cell? w1 _ c0
  have g1 := s2.cw
  have S2 := Lib.hid s2
  clear n0 n1 n2 n3 s1 s2
  go_wp2_with (go_at_call 38; refine (is_miss k s.g s.w w1 (Ne.symm S2.out.wg) S2.out.bg S2.out.bw).mono ?_)
  rintro e w2 ⟨rfl, b3⟩
  have d0 := (b3.cell (p := ⟨w.heap.size, 0, none⟩) l1).trans c0
  have d1 := (b3.cell (p := ⟨w.heap.size, 1, none⟩) l1).trans c1
  have S3 := Lib.hid (S2.out.more b3)
  have g2 := S3.out.cf
  clear c0 c1 g1
  go_wp2_with (go_at_call 38; refine (is_miss k s.g s.f w2 (Ne.symm S3.out.fg) S3.out.bg S3.out.bf).mono ?_)
  rintro e w3 ⟨rfl, b4⟩
  go_wp2
  go_ret
  exact ⟨rfl, below_more (below_more b2 b3) b4⟩

/-- What callers are told, by what went wrong: 0 nothing, 2 no width, 30 too few, else too great. -/
inductive ErrIs (s : Sn) : Value → Int → Prop
  | ok : ErrIs s .nilIface 0
  | width (k : Int) : ErrIs s (faultV k s.w) 2
  | few (k : Int) : ErrIs s (faultV k s.f) 30
  | great (k : Int) : ErrIs s (faultV k s.g) 31

theorem told_any (s : Sn) {v : Value} {c : Int} (h : ErrIs s v c) (w : World) (hs : Sent s w) : Calls Tryd.prog 27 #[v] w fun e w' => e = .returned (.int .i64 c) ∧ Below w.heap.size w w' := by
  cases h with
  | ok => exact told_nil w
  | width k => exact told_w s k w hs
  | few k => exact told_f s k w hs
  | great k => exact told_g s k w hs

end Go.Proofs.YtpmelbjbkdflgaaDoor
