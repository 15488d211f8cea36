/- LabtextBack: the walk. -/
import Derived.Test.YtcjokjipgeaikaaDoorTxShown
namespace Go.Proofs.YtcjokjipgeaikaaDoor
open Go.RowKit Go.Shelf Go.Proofs.Fld Go.Proofs.Tx Go.Proofs.Cats

attribute [local go_sem] bs_toList

theorem parse_of {ga : Addr} {s : List UInt8} {x : Lab} (h : lab s = (some x, [])) (hs : s.length ≤ 4611686018427387904) (w : World) (hE : Env ga w) :
    Calls Tryd.prog 13 #[.string (bs s)] w fun e w' => e = .returned (.tuple #[.agg #[.int .i64 x.l, .int .u64 (x.c : Int), .int .i64 x.i], .int .i64 0, .int .i64 0]) ∧ Below w.heap.size w w' := by
  refine (parse_any ga s hs w hE).mono ?_
  rintro e w' ⟨he, hb⟩
  unfold parseL parseP parseE at he
  rw [h] at he
  exact ⟨he, hb⟩
theorem parse_no {ga : Addr} {s r : List UInt8} (h : lab s = (none, r)) (hs : s.length ≤ 4611686018427387904) (w : World) (hE : Env ga w) :
    Calls Tryd.prog 13 #[.string (bs s)] w fun e w' => e = .returned (.tuple #[.agg #[.int .i64 0, .int .u64 0, .int .i64 0], .int .i64 ((s.length - r.length : Nat) : Int), .int .i64 50]) ∧ Below w.heap.size w w' := by
  refine (parse_any ga s hs w hE).mono ?_
  rintro e w' ⟨he, hb⟩
  unfold parseL parseP parseE at he
  rw [h] at he
  exact ⟨he, hb⟩
theorem print_of {ga : Addr} {x : Lab} (hf : x.fits) (h : x.right = true) (w : World) (hE : Env ga w) :
    Calls Tryd.prog 9 #[.agg #[.int .i64 x.l, .int .u64 (x.c : Int), .int .i64 x.i]] w fun e w' => e = .returned (.tuple #[.string (bs (prt x)), .int .i64 0]) ∧ Below w.heap.size w w' := by
  refine (print_any ga x hf w hE).mono ?_
  rintro e w' ⟨he, hb⟩
  rw [h] at he
  exact ⟨he, hb⟩
/-- A label that was parsed lies in a block of its own. -/
theorem lab_new (w : World) (x : Lab) : Lb3 (w.alloc (.cells #[.int .i64 x.l, .int .u64 (x.c : Int), .int .i64 x.i] 24)) w.heap.size x := World.alloc_heap_new w _

set_option maxRecDepth 100000 in
set_option maxHeartbeats 2000000 in
theorem back_no (ga : Addr) (x : Lab) (hf : x.fits) (hr : x.right = false) (s : List UInt8) (w : World) (hE : Env ga w) : Calls Tryd.prog 4 #[.agg #[.int .i64 x.l, .int .u64 (x.c : Int), .int .i64 x.i], .string (bs s)] w (TruePost w) := by
  have HE := Lib.hid hE
  have HB0 := Lib.hid (Below.new w (.cells #[.int .i64 x.l, .int .u64 (x.c : Int), .int .i64 x.i] 24))
  have HL0 := Lib.hid (lab_new w x)
  have HR := Lib.hid hr
  clear hE hr
  go_enter Tryd.func4, Tryd.ntmps4
  go_wp2_with fail
  refine (shown_any ga _ (HE.out.more HB0.out)).mono ?_
  rintro e w1 ⟨rfl, hb1⟩
  have hl1 := HL0.out.block (hb1.block _ HL0.out.lt)
  have HB1 := Lib.hid (below_more HB0.out hb1)
  have HL1 := Lib.hid hl1
  have a0 := hl1.c0
  have a1 := hl1.c1
  have a2 := hl1.c2
  clear hb1 hl1
  go_wp2_with fail
  refine (print_no x hf HR.out _).mono ?_
  rintro e w2 ⟨rfl, hb2⟩
  have hl2 := HL1.out.block (hb2.block _ HL1.out.lt)
  have HB2 := Lib.hid (below_more HB1.out hb2)
  have HL2 := Lib.hid hl2
  clear hb2 hl2 a0 a1 a2
  go_wp2_with fail
  refine (parse_any ga [] (by simp) _ (HE.out.more HB2.out)).mono ?_
  rintro e w3 ⟨rfl, hb3⟩
  generalize parseL [] = y at *
  generalize parseP [] = p at *
  generalize parseE [] = q at *
  have hl3 := HL2.out.block (hb3.block _ HL2.out.lt)
  have HB3 := Lib.hid (below_more HB2.out hb3)
  have hl4 := hl3.block ((Below.new w3 (.cells #[.int .i64 y.l, .int .u64 (y.c : Int), .int .i64 y.i] 24)).block _ hl3.lt)
  have HB4 := Lib.hid (below_more HB3.out (Below.new w3 (.cells #[.int .i64 y.l, .int .u64 (y.c : Int), .int .i64 y.i] 24)))
  have b0 := hl4.c0
  have b1 := hl4.c1
  have b2 := hl4.c2
  clear hb3 hl3 hl4
  go_wp2_with fail
  refine (Lb.right_any x hf _).mono ?_
  rintro e w5 ⟨he, hb5⟩
  rw [HR.out] at he
  subst he
  have HB5 := Lib.hid (below_more HB4.out hb5)
  clear hb5
  go_wp2
  go_ret
  exact ⟨rfl, HB5.out⟩

set_option maxRecDepth 100000 in
set_option maxHeartbeats 2000000 in
theorem back_yes (ga : Addr) (x : Lab) (hf : x.fits) (hr : x.right = true) (s : List UInt8) (hs : s.length ≤ 9223372036854775807) (w : World) (hE : Env ga w) : Calls Tryd.prog 4 #[.agg #[.int .i64 x.l, .int .u64 (x.c : Int), .int .i64 x.i], .string (bs s)] w (TruePost w) := by
  have HE := Lib.hid hE
  have HB0 := Lib.hid (Below.new w (.cells #[.int .i64 x.l, .int .u64 (x.c : Int), .int .i64 x.i] 24))
  have HL0 := Lib.hid (lab_new w x)
  have HR := Lib.hid hr
  have HPP := Lib.hid (parse_print x hr hf)
  have hpl := prt_len x hr
  have hcl : (s.take 300).length ≤ 4611686018427387904 := by rw [List.length_take]; omega
  have hsame : ∀ w, (binOp .eql 24 (.agg #[.int .i64 x.l, .int .u64 (x.c : Int), .int .i64 x.i]) (.agg #[.int .i64 x.l, .int .u64 (x.c : Int), .int .i64 x.i])).run Tryd.prog w = .ok (.bool true) w := fun w => by
    have := Lb.eqL x x w
    rw [(Lab.same_iff x x).2 rfl] at this
    exact this
  clear hE hr
  go_enter Tryd.func4, Tryd.ntmps4
  go_wp2_with fail
  refine (shown_any ga _ (HE.out.more HB0.out)).mono ?_
  rintro e w1 ⟨rfl, hb1⟩
  have hl1 := HL0.out.block (hb1.block _ HL0.out.lt)
  have HB1 := Lib.hid (below_more HB0.out hb1)
  have HL1 := Lib.hid hl1
  have a0 := hl1.c0
  have a1 := hl1.c1
  have a2 := hl1.c2
  clear hb1 hl1
  go_wp2_with fail
  refine (print_of hf HR.out _ (HE.out.more HB1.out)).mono ?_
  rintro e w2 ⟨rfl, hb2⟩
  have hl2 := HL1.out.block (hb2.block _ HL1.out.lt)
  have HB2 := Lib.hid (below_more HB1.out hb2)
  have HL2 := Lib.hid hl2
  clear hb2 hl2 a0 a1 a2
  go_wp2_with fail
  refine (parse_of HPP.out (by omega) _ (HE.out.more HB2.out)).mono ?_
  rintro e w3 ⟨rfl, hb3⟩
  have hl3 := HL2.out.block (hb3.block _ HL2.out.lt)
  have HB3 := Lib.hid (below_more HB2.out hb3)
  have HL4 := Lib.hid (hl3.block ((Below.new w3 (.cells #[.int .i64 x.l, .int .u64 (x.c : Int), .int .i64 x.i] 24)).block _ hl3.lt))
  have HM4 := Lib.hid (lab_new w3 x)
  have HB4 := Lib.hid (below_more HB3.out (Below.new w3 (.cells #[.int .i64 x.l, .int .u64 (x.c : Int), .int .i64 x.i] 24)))
  clear hb3 hl3
  go_wp2_with fail
  refine (cut_any s hs _).mono ?_
  rintro e w' ⟨rfl, rfl⟩
  obtain ⟨⟨o, r⟩, hx⟩ : ∃ z, lab (s.take 300) = z := ⟨_, rfl⟩
  cases o with
  | none =>
    have HX := Lib.hid hx
    clear hx
    go_wp2_with fail
    refine (parse_no HX.out hcl _ (HE.out.more HB4.out)).mono ?_
    rintro e w5 ⟨rfl, hb5⟩
    have HL5 := Lib.hid (HL4.out.block (hb5.block _ HL4.out.lt))
    have HM5 := Lib.hid (HM4.out.block (hb5.block _ HM4.out.lt))
    have HB5 := Lib.hid (below_more HB4.out hb5)
    have hn := Below.new w5 (.cells #[.int .i64 0, .int .u64 0, .int .i64 0] 24)
    have HL6 := Lib.hid (HL5.out.block (hn.block _ HL5.out.lt))
    have HM6 := Lib.hid (HM5.out.block (hn.block _ HM5.out.lt))
    have HB6 := Lib.hid (below_more HB5.out hn)
    clear hb5 hn
    go_wp2_with fail
    refine (print_any ga Lab.zero (by unfold Lab.fits U64 Lab.zero; decide) _ (HE.out.more HB6.out)).mono ?_
    rintro e w7 ⟨rfl, hb7⟩
    have hl7 := HL6.out.block (hb7.block _ HL6.out.lt)
    have hm7 := HM6.out.block (hb7.block _ HM6.out.lt)
    have HB7 := Lib.hid (below_more HB6.out hb7)
    have d0 := hl7.c0
    have d1 := hl7.c1
    have d2 := hl7.c2
    have f0 := hm7.c0
    have f1 := hm7.c1
    have f2 := hm7.c2
    generalize (if Lab.zero.right = true then prt Lab.zero else []) = t at *
    generalize (if Lab.zero.right = true then (0 : Int) else 20) = u at *
    clear hb7 hl7 hm7
    go_wp2
    go_ret
    exact ⟨rfl, HB7.out⟩
  | some y =>
    obtain ⟨rfl, _⟩ := lab_some hx
    obtain ⟨hyr, hyu, hyp⟩ := print_parse hx
    have HX := Lib.hid hx
    have HYP := Lib.hid hyp
    have HYR := Lib.hid hyr
    clear hx hyp hyr
    go_wp2_with fail
    refine (parse_of HX.out hcl _ (HE.out.more HB4.out)).mono ?_
    rintro e w5 ⟨rfl, hb5⟩
    have HL5 := Lib.hid (HL4.out.block (hb5.block _ HL4.out.lt))
    have HM5 := Lib.hid (HM4.out.block (hb5.block _ HM4.out.lt))
    have HB5 := Lib.hid (below_more HB4.out hb5)
    have hn := Below.new w5 (.cells #[.int .i64 y.l, .int .u64 (y.c : Int), .int .i64 y.i] 24)
    have HL6 := Lib.hid (HL5.out.block (hn.block _ HL5.out.lt))
    have HM6 := Lib.hid (HM5.out.block (hn.block _ HM5.out.lt))
    have HB6 := Lib.hid (below_more HB5.out hn)
    clear hb5 hn
    go_wp2_with fail
    refine (print_of hyu HYR.out _ (HE.out.more HB6.out)).mono ?_
    rintro e w7 ⟨rfl, hb7⟩
    rw [HYP.out]
    have hl7 := HL6.out.block (hb7.block _ HL6.out.lt)
    have hm7 := HM6.out.block (hb7.block _ HM6.out.lt)
    have HB7 := Lib.hid (below_more HB6.out hb7)
    have d0 := hl7.c0
    have d1 := hl7.c1
    have d2 := hl7.c2
    have f0 := hm7.c0
    have f1 := hm7.c1
    have f2 := hm7.c2
    clear hb7 hl7 hm7
    go_wp2_with fail
    refine (cut_any s hs _).mono ?_
    rintro e w' ⟨rfl, rfl⟩
    go_wp2
    go_ret
    exact ⟨rfl, HB7.out⟩

theorem back_walk (ga : Addr) (x : Lab) (hf : x.fits) (s : List UInt8) (hs : s.length ≤ 9223372036854775807) (w : World) (hE : Env ga w) : Calls Tryd.prog 4 #[.agg #[.int .i64 x.l, .int .u64 (x.c : Int), .int .i64 x.i], .string (bs s)] w (TruePost w) := by
  cases h : x.right
  · exact back_no ga x hf h s w hE
  · exact back_yes ga x hf h s hs w hE

end Go.Proofs.YtcjokjipgeaikaaDoor
