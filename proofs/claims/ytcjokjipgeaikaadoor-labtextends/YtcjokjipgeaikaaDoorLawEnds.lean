/- LabtextEnds: the walk. -/
import Derived.Test.YtcjokjipgeaikaaDoorLawBack
import Derived.OpenShut
namespace Go.Proofs.YtcjokjipgeaikaaDoor
open Go.RowKit Go.Shelf Go.Proofs.Fld Go.Proofs.Tx Go.Proofs.Cats

attribute [local go_sem] bs_toList

theorem lit_r120 (l : List UInt8) : bs l ++ (⟨#[120]⟩ : ByteArray) = bs (l ++ [120]) := bs_append l [120]
theorem lit_sz (c : UInt8) : (⟨#[c]⟩ : ByteArray).size = 1 := rfl

/-- Ahead of the parsing: the label is none, or the number is no place. -/
def Quits (x : Lab) (n : Int) : Prop := x.right = false ∨ n < 0 ∨ (prt x).length ≤ n

set_option maxRecDepth 100000 in
set_option maxHeartbeats 2000000 in
theorem ends_quit (ga : Addr) (x : Lab) (hf : x.fits) (n : Int) (hq : Quits x n) (w : World) (hE : Env ga w) : Calls Tryd.prog 5 #[.agg #[.int .i64 x.l, .int .u64 (x.c : Int), .int .i64 x.i], .int .i64 n] w (TruePost w) := by
  have HE := Lib.hid hE
  have HB0 := Lib.hid (Below.new w (.cells #[.int .i64 x.l, .int .u64 (x.c : Int), .int .i64 x.i] 24))
  have HL0 := Lib.hid (lab_new w x)
  have hbs := bs_size
  clear hE
  cases hr : x.right
  · have HR := Lib.hid hr
    clear hr hq
    go_enter Tryd.func5, Tryd.ntmps5
    go_wp2_with fail
    refine (shown_any ga _ (HE.out.more HB0.out)).mono ?_
    rintro e w1 ⟨rfl, hb1⟩
    have hl1 := HL0.out.block (hb1.block _ HL0.out.lt)
    have HB1 := Lib.hid (below_more HB0.out hb1)
    have a0 := hl1.c0
    have a1 := hl1.c1
    have a2 := hl1.c2
    clear hb1 hl1
    go_wp2_with fail
    refine (print_no x hf HR.out _).mono ?_
    rintro e w2 ⟨rfl, hb2⟩
    have HB2 := Lib.hid (below_more HB1.out hb2)
    clear hb2 a0 a1 a2
    go_wp2
    go_ret
    exact ⟨rfl, HB2.out⟩
  · have HR := Lib.hid hr
    have hq2 : n < 0 ∨ (prt x).length ≤ n := by
      rcases hq with h | h
      · rw [hr] at h; cases h
      · exact h
    clear hr hq
    by_cases h0 : n < 0
    · clear hq2
      go_enter Tryd.func5, Tryd.ntmps5
      go_wp2_with fail
      refine (shown_any ga _ (HE.out.more HB0.out)).mono ?_
      rintro e w1 ⟨rfl, hb1⟩
      have hl1 := HL0.out.block (hb1.block _ HL0.out.lt)
      have HB1 := Lib.hid (below_more HB0.out hb1)
      have a0 := hl1.c0
      have a1 := hl1.c1
      have a2 := hl1.c2
      clear hb1 hl1
      go_wp2_with fail
      refine (print_of hf HR.out _ (HE.out.more HB1.out)).mono ?_
      rintro e w2 ⟨rfl, hb2⟩
      have HB2 := Lib.hid (below_more HB1.out hb2)
      clear hb2 a0 a1 a2
      go_wp2
      go_ret
      exact ⟨rfl, HB2.out⟩
    · have hge : ((prt x).length : Int) ≤ n := by omega
      clear hq2
      go_enter Tryd.func5, Tryd.ntmps5
      go_wp2_with fail
      refine (shown_any ga _ (HE.out.more HB0.out)).mono ?_
      rintro e w1 ⟨rfl, hb1⟩
      have hl1 := HL0.out.block (hb1.block _ HL0.out.lt)
      have HB1 := Lib.hid (below_more HB0.out hb1)
      have a0 := hl1.c0
      have a1 := hl1.c1
      have a2 := hl1.c2
      clear hb1 hl1
      go_wp2_with fail
      refine (print_of hf HR.out _ (HE.out.more HB1.out)).mono ?_
      rintro e w2 ⟨rfl, hb2⟩
      have HB2 := Lib.hid (below_more HB1.out hb2)
      clear hb2 a0 a1 a2
      go_wp2
      go_ret
      exact ⟨rfl, HB2.out⟩

set_option maxRecDepth 100000 in
set_option maxHeartbeats 2000000 in
theorem ends_goes (ga : Addr) (x : Lab) (hf : x.fits) (hr : x.right = true) (k : Nat) (hk : k < (prt x).length) (w : World) (hE : Env ga w) : Calls Tryd.prog 5 #[.agg #[.int .i64 x.l, .int .u64 (x.c : Int), .int .i64 x.i], .int .i64 (k : Int)] w (TruePost w) := by
  have HE := Lib.hid hE
  have HB0 := Lib.hid (Below.new w (.cells #[.int .i64 x.l, .int .u64 (x.c : Int), .int .i64 x.i] 24))
  have HL0 := Lib.hid (lab_new w x)
  have hbs := bs_size
  have hlit := lit_r120
  have hls := lit_sz
  have hpl := prt_len x hr
  have hpp := parse_print x hr hf
  have HR := Lib.hid hr
  have htl : ((prt x).take k).length = k := by rw [List.length_take]; omega
  have HP1 := Lib.hid (show lab ((prt x).take k) = (none, []) from ends ((prt x).take k) ((prt x).drop k) (fun h => by
    have := congrArg List.length h
    rw [List.length_drop] at this
    simp at this
    omega) x (by rw [List.take_append_drop]; exact hpp))
  have HP2 := Lib.hid (show lab (prt x ++ [120]) = (none, [120]) from lab_more hpp 120 [])
  have hup := str_upto (prt x) k (by omega)
  have hz : ∀ w, (binOp .eql 24 (.agg #[.int .i64 0, .int .u64 0, .int .i64 0]) (.agg #[.int .i64 0, .int .u64 0, .int .i64 0])).run Tryd.prog w = .ok (.bool true) w := fun w => Lb.eqL Lab.zero Lab.zero w
  have HTL := Lib.hid htl
  have q1 : ¬ (k : Int) < 0 := by omega
  have q2 : ¬ ((prt x).length : Int) ≤ (k : Int) := by omega
  clear hE hr hpp htl
  go_enter Tryd.func5, Tryd.ntmps5
  go_wp2_with fail
  refine (shown_any ga _ (HE.out.more HB0.out)).mono ?_
  rintro e w1 ⟨rfl, hb1⟩
  have hl1 := HL0.out.block (hb1.block _ HL0.out.lt)
  have HB1 := Lib.hid (below_more HB0.out hb1)
  have a0 := hl1.c0
  have a1 := hl1.c1
  have a2 := hl1.c2
  clear hb1 hl1
  go_wp2_with fail
  refine (print_of hf HR.out _ (HE.out.more HB1.out)).mono ?_
  rintro e w2 ⟨rfl, hb2⟩
  have HB2 := Lib.hid (below_more HB1.out hb2)
  clear hb2 a0 a1 a2
  go_wp2_with fail
  refine (parse_no HP1.out (by rw [HTL.out]; omega) _ (HE.out.more HB2.out)).mono ?_
  rintro e w3 ⟨rfl, hb3⟩
  rw [HTL.out]
  have HB3 := Lib.hid (below_more HB2.out hb3)
  have hl4 := lab_new w3 Lab.zero
  have HL4 := Lib.hid hl4
  have HB4 := Lib.hid (below_more HB3.out (Below.new w3 (.cells #[.int .i64 0, .int .u64 0, .int .i64 0] 24)))
  clear hb3 hl4
  go_wp2_with fail
  refine (parse_no HP2.out (by rw [List.length_append]; simp; omega) _ (HE.out.more HB4.out)).mono ?_
  rintro e w5 ⟨rfl, hb5⟩
  have hl5 : Lb3 w5 w3.heap.size Lab.zero := HL4.out.block (hb5.block _ HL4.out.lt)
  have HB5 := Lib.hid (below_more HB4.out hb5)
  have hn := Below.new w5 (.cells #[.int .i64 0, .int .u64 0, .int .i64 0] 24)
  have hl6 := hl5.block (hn.block _ hl5.lt)
  have HB6 := Lib.hid (below_more HB5.out hn)
  have e1 : (prt x ++ [120]).length - [(120 : UInt8)].length = (prt x).length := by rw [List.length_append]; simp
  rw [e1]
  have d0 : (w5.alloc (.cells #[.int .i64 0, .int .u64 0, .int .i64 0] 24)).cell? ⟨w3.heap.size, 0, none⟩ = some (.int .i64 0) := hl6.c0
  have d1 : (w5.alloc (.cells #[.int .i64 0, .int .u64 0, .int .i64 0] 24)).cell? ⟨w3.heap.size, 1, none⟩ = some (.int .u64 0) := hl6.c1
  have d2 : (w5.alloc (.cells #[.int .i64 0, .int .u64 0, .int .i64 0] 24)).cell? ⟨w3.heap.size, 2, none⟩ = some (.int .i64 0) := hl6.c2
  clear hb5 hl5 hn hl6 e1
  go_wp2
  go_ret
  exact ⟨rfl, HB6.out⟩

theorem ends_walk (ga : Addr) (x : Lab) (hf : x.fits) (n : Int) (w : World) (hE : Env ga w) : Calls Tryd.prog 5 #[.agg #[.int .i64 x.l, .int .u64 (x.c : Int), .int .i64 x.i], .int .i64 n] w (TruePost w) := by
  by_cases hq : Quits x n
  · exact ends_quit ga x hf n hq w hE
  · have h1 : x.right = true := by
      cases h : x.right
      · exact absurd (Or.inl h) hq
      · rfl
    have h2 : 0 ≤ n ∧ n < (prt x).length :=
      ⟨Int.not_lt.1 (fun h => hq (Or.inr (Or.inl h))), Int.not_le.1 (fun h => hq (Or.inr (Or.inr h)))⟩
    obtain ⟨k, rfl⟩ := Int.eq_ofNat_of_zero_le h2.1
    exact ends_goes ga x hf h1 k (by omega) w hE

end Go.Proofs.YtcjokjipgeaikaaDoor
