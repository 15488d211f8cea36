/- shown, cut. -/
import Derived.Test.YtcjokjipgeaikaaDoorTxPrint2
import Derived.Lib.QuietBelow
namespace Go.Proofs.YtcjokjipgeaikaaDoor
open Go.RowKit Go.Shelf Go.Proofs.Fld Go.Proofs.Tx Go.Proofs.Cats Go.Sort

attribute [local go_sem] bs_toList

theorem sh1 : prt ⟨3, 4097, 5⟩ = [76, 51, 123, 48, 44, 49, 50, 125, 73, 53] := by
  have h : cl 4097 = [0, 12] := by decide
  unfold prt braced
  rw [h, if_neg (by simp)]
  show 76 :: (dd 3 ++ ((123 :: ((dd 0 ++ 44 :: dd 12) ++ [125])) ++ 73 :: dd 5)) = _
  rw [dd_one (n := 3) (by omega), dd_one (n := 0) (by omega), dd_one (n := 5) (by omega), dd_two (n := 12) (by omega) (by omega)]
  rfl
theorem sh2 : lab [76, 48, 73, 55] = (some ⟨0, 0, 7⟩, []) := by rfl
theorem sh3 : lab [76, 51, 123, 50, 44, 49, 125, 73, 53] = (none, [125, 73, 53]) := by rfl
theorem sh4 : dd 120 = [49, 50, 48] := by
  show Lib.decDigits _ = _
  rw [Lib.decDigits, dif_neg (by omega), show (120 / 10 : Nat) = 12 from rfl]
  show dd 12 ++ _ = _
  rw [dd_two (by omega) (by omega)]
  rfl

theorem parse1 (ga : Addr) (w : World) (hE : Env ga w) : Calls Tryd.prog 13 #[.string { data := #[76, 48, 73, 55] }] w fun e w' => e = .returned (.tuple #[.agg #[.int .i64 0, .int .u64 0, .int .i64 7], .int .i64 0, .int .i64 0]) ∧ Below w.heap.size w w' := by
  refine (parse_any ga [76, 48, 73, 55] (by simp) w hE).mono ?_
  rintro e w' ⟨he, hb⟩
  unfold parseL parseP parseE at he
  rw [sh2] at he
  exact ⟨he, hb⟩
theorem parse2 (ga : Addr) (w : World) (hE : Env ga w) : Calls Tryd.prog 13 #[.string { data := #[76, 51, 123, 50, 44, 49, 125, 73, 53] }] w fun e w' => e = .returned (.tuple #[.agg #[.int .i64 0, .int .u64 0, .int .i64 0], .int .i64 6, .int .i64 50]) ∧ Below w.heap.size w w' := by
  refine (parse_any ga [76, 51, 123, 50, 44, 49, 125, 73, 53] (by simp) w hE).mono ?_
  rintro e w' ⟨he, hb⟩
  unfold parseL parseP parseE at he
  rw [sh3] at he
  exact ⟨he, hb⟩
theorem print1 (ga : Addr) (w : World) (hE : Env ga w) : Calls Tryd.prog 9 #[.agg #[.int .i64 3, .int .u64 4097, .int .i64 5]] w fun e w' => e = .returned (.tuple #[.string (bs [76, 51, 123, 48, 44, 49, 50, 125, 73, 53]), .int .i64 0]) ∧ Below w.heap.size w w' := by
  refine (print_any ga ⟨3, 4097, 5⟩ (by unfold Lab.fits U64; decide) w hE).mono ?_
  rintro e w' ⟨he, hb⟩
  have h : Lab.right ⟨3, 4097, 5⟩ = true := by decide
  rw [h] at he
  simp only [if_true] at he
  rw [sh1] at he
  exact ⟨he, hb⟩

def TruePost (w : World) (e : Ending) (w' : World) : Prop := e = .returned (.bool true) ∧ Below w.heap.size w w'

set_option maxRecDepth 100000 in
set_option maxHeartbeats 4000000 in
theorem shown_any (ga : Addr) (w : World) (hE : Env ga w) : Calls Tryd.prog 8 #[] w (TruePost w) := by
  have HE := Lib.hid hE
  clear hE
  go_enter Tryd.func8, Tryd.ntmps8
  go_wp2_with fail
  refine (print1 ga _ HE.out).mono ?_
  rintro e w1 ⟨rfl, hb1⟩
  have HB1 := Lib.hid hb1
  clear hb1
  go_wp2_with fail
  refine (parse1 ga _ (HE.out.more HB1.out)).mono ?_
  rintro e w2 ⟨rfl, hb2⟩
  have HB2 := Lib.hid (below_more HB1.out hb2)
  clear hb2
  go_wp2_with fail
  have hl3 : Lb3 (w2.alloc (.cells #[.int .i64 0, .int .u64 0, .int .i64 7] 24)) w2.heap.size Lab.bot := World.alloc_heap_new w2 _
  have HB3 := Lib.hid (below_more HB2.out (Below.new w2 (.cells #[.int .i64 0, .int .u64 0, .int .i64 7] 24)))
  refine (parse2 ga _ (HE.out.more HB3.out)).mono ?_
  rintro e w4 ⟨rfl, hb4⟩
  have hl4 := hl3.block (hb4.block _ hl3.lt)
  have HB4 := Lib.hid (below_more HB3.out hb4)
  clear hb4 hl3
  have HL4 := Lib.hid hl4
  clear hl4
  go_wp2
  have hl4 := HL4.out
  have hl5 := hl4.block ((Below.new w4 (.cells #[.int .i64 0, .int .u64 0, .int .i64 0] 24)).block _ hl4.lt)
  obtain ⟨V, hV⟩ : ∃ V, w4.alloc (.cells #[.int .i64 0, .int .u64 0, .int .i64 0] 24) = V := ⟨_, rfl⟩
  rw [hV] at hl5
  rw [hV]
  have HB5 := Lib.hid (below_more HB4.out (Eq.mp (congrArg (fun V => Below w4.heap.size w4 V) hV) (Below.new w4 _)))
  have HE5 := Lib.hid (HE.out.more HB5.out)
  have k0 := cell_regrown (show V.cell? ⟨w2.heap.size, 0, none⟩ = some (.int .i64 0) from hl5.c0)
  have k1 := cell_regrown (show V.cell? ⟨w2.heap.size, 1, none⟩ = some (.int .u64 0) from hl5.c1)
  have k2 := cell_regrown (show V.cell? ⟨w2.heap.size, 2, none⟩ = some (.int .i64 7) from hl5.c2)
  have cB : ∀ d os, Calls Tryd.prog 16 #[] (grow (redrawn V d) os) fun e w'' => e = .returned (.agg #[.int .i64 0, .int .u64 0, .int .i64 7]) ∧ ∃ p : Regrown, w'' = grow (redrawn V p.d) p.os := fun d os => Calls.regrown_of (Lb.bottom_any _)
  have cD : ∀ d os, Calls Tryd.prog 11 #[.int .i64 120] (grow (redrawn V d) os) fun e w'' => e = .returned (.string { data := #[49, 50, 48] }) ∧ ∃ p : Regrown, w'' = grow (redrawn V p.d) p.os := fun d os => Calls.regrown_of (by
    have := digits_any ga 120 (by omega) _ (HE5.out.more (below_regrown V d os))
    rw [sh4] at this
    exact this)
  have heq : ∀ w, (binOp .eql 24 (.agg #[.int .i64 0, .int .u64 0, .int .i64 7]) (.agg #[.int .i64 0, .int .u64 0, .int .i64 7])).run Tryd.prog w = .ok (.bool true) w := fun w => Lb.eqL Lab.bot Lab.bot w
  clear hl4 hl5 hV
  refine wp_region_quiet_below (by kernel_rfl) (by kernel_rfl) ?_
  repeat (quiet_step (first | exact cB _ _ | exact cD _ _))
  refine wpQuiet_nil ?_
  intro _ hw'
  obtain ⟨⟨dq, osq⟩, hw''⟩ := hw'
  subst hw''
  go_wp2
  go_ret
  exact ⟨rfl, below_more HB5.out (below_regrown V dq osq)⟩

set_option maxHeartbeats 400000 in
theorem cut_any (l : List UInt8) (hl : l.length ≤ 9223372036854775807) (w : World) : Calls Tryd.prog 15 #[.string (bs l)] w fun e w' => e = .returned (.string (bs (l.take 300))) ∧ w = w' := by
  have hsz := bs_size l
  by_cases h : l.length ≤ 300
  · have hup := str_upto l l.length (Nat.le_refl _)
    have ht : l.take l.length = l := List.take_length
    have ht2 : l.take 300 = l := List.take_of_length_le h
    rw [ht] at hup
    rw [ht2]
    have hm : min (l.length : Int) 300 = (l.length : Int) := by omega
    clear ht ht2
    go_enter Tryd.func15, Tryd.ntmps15
    go_wp2
    go_ret
    exact ⟨rfl, rfl⟩
  · have hup : ∀ w, (Instr.slice 9 (.string (bs l)) none (some (.int .i64 300)) none).run Tryd.prog w = .ok (.string (bs (l.take 300))) w := fun w => str_upto l 300 (by omega) w
    have hm : min (l.length : Int) 300 = 300 := by omega
    go_enter Tryd.func15, Tryd.ntmps15
    go_wp2
    go_ret
    exact ⟨rfl, rfl⟩

end Go.Proofs.YtcjokjipgeaikaaDoor
