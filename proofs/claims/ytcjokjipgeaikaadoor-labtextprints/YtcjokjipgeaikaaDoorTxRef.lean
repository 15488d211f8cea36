/- The document's Digits, Print. -/
import Derived.Test.YtcjokjipgeaikaaDoorTxPrint
import Derived.Laws.BytesString
namespace Go.Proofs.YtcjokjipgeaikaaDoor
open Go.RowKit Go.Shelf Go.Proofs.Fld Go.Proofs.Tx Go.Proofs.Cats

attribute [local go_sem] bs_toList

theorem dd_more {n : Nat} (h : ¬ n < 10) : dd n = dd (n / 10) ++ dd (n % 10) := by
  have e : dd n = dd (n / 10) ++ [UInt8.ofNat (48 + n % 10)] := by
    show Lib.decDigits _ = Lib.decDigits _ ++ _
    rw [Lib.decDigits, dif_neg h]
  rw [e, dd_one (n := n % 10) (by omega)]
set_option maxHeartbeats 400000 in
theorem refDigits_neg (n : Int) (h : n < 0) (w : World) : Calls Tryd.prog 12 #[.int .i64 n] w fun e w' => e = .returned (.string (bs [])) ∧ w = w' := by
  go_enter Tryd.func12, Tryd.ntmps12
  go_wp2
  go_ret
  exact ⟨rfl, rfl⟩
set_option maxRecDepth 100000 in
set_option maxHeartbeats 400000 in
theorem refDigits_one (n : Nat) (h : n < 10) (w : World) : Calls Tryd.prog 12 #[.int .i64 (n : Int)] w (StrPost (dd n) w) := by
  have hconv : ∀ u : Int, u = ((48 + n : Nat) : Int) → (convert 43 9 (.slice (some ⟨w.heap.size, 0, none⟩) 1 1)).run Tryd.prog (w.alloc (.cells #[.int .u8 u] 5)) = .ok (.string (bs (dd n))) (w.alloc (.cells #[.int .u8 u] 5)) := by
    rintro u rfl
    rw [run_convert_bytes_string _ 43 9 5 _ 1 1 Tryd.underlying43 Tryd.underlying5 Tryd.underlying9]
    have := run_bytesToString (P := Tryd.prog) (w.alloc (.cells #[.int .u8 ((48 + n : Nat) : Int)] 5)) ⟨w.heap.size, 0, none⟩ 1 1 [((48 + n : Nat) : Int)] (run_loadCells_list (P := Tryd.prog) _ ⟨w.heap.size, 0, none⟩ [.int .u8 ((48 + n : Nat) : Int)] (fun j v hj => by
      match j with
      | 0 => obtain rfl := Option.some.inj hj; exact (Boxed.new w 5 _).cell
      | j + 1 => simp at hj))
    rw [this, dd_one h]
    rfl
  have hw : IntKind.u8.wrap (48 + (n : Int)) = ((48 + n : Nat) : Int) := by rw [IntKind.wrap_u8]; omega
  have hc := hconv _ hw
  have hc2 := hconv _ rfl
  go_enter Tryd.func12, Tryd.ntmps12
  have q1 : ¬ (n : Int) < 0 := by omega
  go_wp2
  go_ret
  exact ⟨rfl, Below.new _ _⟩
theorem dd_len19 {n : Nat} (h : n ≤ 9223372036854775807) : (dd n).length ≤ 19 := dd_len n 18 (by omega)

set_option maxHeartbeats 400000 in
theorem refDigits_step (n : Nat) (h : n ≤ 9223372036854775807) (h10 : ¬ n < 10) (ih : ∀ m, m < n → ∀ w, Calls Tryd.prog 12 #[.int .i64 (m : Int)] w (StrPost (dd m) w)) (w : World) : Calls Tryd.prog 12 #[.int .i64 (n : Int)] w (StrPost (dd n) w) := by
  have I1 := Lib.hid (ih (n / 10) (by omega))
  have I2 := Lib.hid (ih (n % 10) (by omega))
  have l1 := dd_len19 (n := n / 10) (by omega)
  have l2 := dd_len19 (n := n % 10) (by omega)
  have hbs := bs_size
  have hba := bs_append
  have HD := Lib.hid (dd_more h10)
  have e1 : ((n : Int) / 10) = ((n / 10 : Nat) : Int) := by omega
  have e2 : ((n : Int) % 10) = ((n % 10 : Nat) : Int) := by omega
  have E1 := Lib.hid e1
  have E2 := Lib.hid e2
  clear ih e1 e2
  go_enter Tryd.func12, Tryd.ntmps12
  go_wp2_with fail
  rw [E1.out]
  refine (I1.out _).mono ?_
  rintro e w1 ⟨rfl, hb1⟩
  have HB1 := Lib.hid hb1
  clear hb1
  go_wp2_with fail
  rw [E2.out]
  refine (I2.out _).mono ?_
  rintro e w2 ⟨rfl, hb2⟩
  have HB2 := Lib.hid (below_more HB1.out hb2)
  clear hb2
  go_wp2
  go_ret
  unfold StrPost
  rw [HD.out]
  exact ⟨rfl, HB2.out⟩
theorem refDigits_any (n : Nat) (h : n ≤ 9223372036854775807) (w : World) : Calls Tryd.prog 12 #[.int .i64 (n : Int)] w (StrPost (dd n) w) := by
  induction n using Nat.strongRecOn generalizing w with
  | _ n ih =>
    by_cases h10 : n < 10
    · exact refDigits_one n h10 w
    · exact refDigits_step n h h10 (fun m hm w => ih m hm (by omega) w) w

/-- The text of the first k. -/
def preT (l : List Nat) : List UInt8 := if l = [] then [] else 123 :: setT l
theorem setT_snoc (l : List Nat) (i : Nat) (h : l ≠ []) : setT (l ++ [i]) = setT l ++ 44 :: dd i := by
  induction l with
  | nil => exact absurd rfl h
  | cons j l ih =>
    cases l with
    | nil => rfl
    | cons k l =>
      show dd j ++ 44 :: setT ((k :: l) ++ [i]) = (dd j ++ 44 :: setT (k :: l)) ++ 44 :: dd i
      rw [ih (by simp)]
      simp
theorem preT_len (l : List Nat) (h : ∀ i, i ∈ l → i < 64) (hl : l.length ≤ 64) : (preT l).length ≤ 200 := by
  unfold preT
  split
  · simp
  · have := setT_len l h
    rw [List.length_cons]
    omega
theorem take_cl_lt {s k i : Nat} (h : i ∈ (cl s).take k) : i < 64 := ((mem_cl s i).1 (List.mem_of_mem_take h)).1

theorem lit_l (c : UInt8) (l : List UInt8) : (⟨#[c]⟩ : ByteArray) ++ bs l = bs (c :: l) := bs_append [c] l
theorem lit_r (c : UInt8) (l : List UInt8) : bs l ++ (⟨#[c]⟩ : ByteArray) = bs (l ++ [c]) := bs_append l [c]
theorem lit_size (c : UInt8) : (⟨#[c]⟩ : ByteArray).size = 1 := rfl

set_option maxHeartbeats 400000 in
theorem refPrint_no (x : Lab) (h : x.right = false) (w : World) :
    Calls Tryd.prog 10 #[.agg #[.int .i64 x.l, .int .u64 (x.c : Int), .int .i64 x.i]] w fun e w' => e = .returned (.tuple #[.string (bs []), .int .i64 20]) ∧ Below w.heap.size w w' := by
  have HR := Lib.hid (Lb.refRight_any x (w.alloc (.cells #[.int .i64 x.l, .int .u64 (x.c : Int), .int .i64 x.i] 24)))
  have HB0 := Lib.hid (Below.new w (.cells #[.int .i64 x.l, .int .u64 (x.c : Int), .int .i64 x.i] 24))
  have HH := Lib.hid h
  clear h
  go_enter Tryd.func10, Tryd.ntmps10
  go_wp2_with fail
  refine HR.out.mono ?_
  rintro e w1 ⟨he, hb1⟩
  rw [HH.out] at he
  subst he
  have HB := Lib.hid (below_more HB0.out hb1)
  clear hb1
  go_wp2
  go_ret2
  exact ⟨rfl, HB.out⟩

set_option maxRecDepth 100000 in
set_option maxHeartbeats 2000000 in
theorem refPrint_yes (a b c : Nat) (ha : a ≤ 15) (hb : b ≤ 7) (_hu : U64 c) (w : World) :
    Calls Tryd.prog 10 #[.agg #[.int .i64 (a : Int), .int .u64 (c : Int), .int .i64 (b : Int)]] w fun e w' => e = .returned (.tuple #[.string (bs (prt ⟨(a : Int), c, (b : Int)⟩)), .int .i64 0]) ∧ Below w.heap.size w w' := by
  obtain ⟨x, hx⟩ : ∃ x : Lab, x = ⟨(a : Int), c, (b : Int)⟩ := ⟨_, rfl⟩
  have hr : x.right = true := by rw [hx, Lab.right_iff]; simp only; omega
  have HR := Lib.hid (Lb.refRight_any x (w.alloc (.cells #[.int .i64 (a : Int), .int .u64 (c : Int), .int .i64 (b : Int)] 24)))
  have hb0 := Below.new w (.cells #[.int .i64 (a : Int), .int .u64 (c : Int), .int .i64 (b : Int)] 24)
  have hl0 : Lb3 (w.alloc (.cells #[.int .i64 (a : Int), .int .u64 (c : Int), .int .i64 (b : Int)] 24)) w.heap.size ⟨(a : Int), c, (b : Int)⟩ := World.alloc_heap_new w _
  have HB0 := Lib.hid hb0
  have HL0 := Lib.hid hl0
  have HX := Lib.hid hx
  have HHR := Lib.hid hr
  have la := dd_len a 1 (by omega)
  have lb := dd_len b 0 (by omega)
  have hcl := cl_length c
  have hbs := bs_size
  have hba := bs_append
  have l76 := lit_l 76
  have l123 := lit_r 123
  have l44 := lit_r 44
  have l125 := lit_r 125
  have l73 := lit_r 73
  have ls := lit_size
  clear hb0 hl0 hx hr
  go_enter Tryd.func10, Tryd.ntmps10
  go_wp2_with fail
  have HRO := HR.out
  rw [HX.out] at HRO
  refine HRO.mono ?_
  rintro e w1 ⟨he, hb1⟩
  rw [← HX.out, HHR.out] at he
  subst he
  have hl1 := HL0.out.block (hb1.block _ HL0.out.lt)
  have HB1 := Lib.hid (below_more HB0.out hb1)
  have HL1 := Lib.hid hl1
  have k0 := hl1.c0
  have k1 := hl1.c1
  clear hb1 HRO HR hl1
  go_wp2_with fail
  refine (refDigits_any a (by omega) _).mono ?_
  rintro e w2 ⟨rfl, hb2⟩
  have hl2 := HL1.out.block (hb2.block _ HL1.out.lt)
  have HB2 := Lib.hid (below_more HB1.out hb2)
  have HL2 := Lib.hid hl2
  have k12 := hl2.c1
  clear hb2 hl2 k0 k1
  go_wp2_with fail
  refine (Ct.refList_any c _).mono ?_
  rintro e w3 ⟨ar, len, cap, rfl, hlen, hrow, hb3⟩
  rw [listTo_cl, List.length_map] at hlen hrow
  subst hlen
  have HI := Lib.hid (Ct.ints_of_owns (zs := (cl c).map fun (i : Nat) => (i : Int)) (by rw [List.length_map]; exact hrow))
  have HB3 := Lib.hid (below_more HB2.out hb3)
  have HL3 := Lib.hid (HL2.out.block (hb3.block _ HL2.out.lt))
  clear hb3 hrow k12
  go_wp2
  go_loopw [4, 6] (fun v i wr => ∃ k : Nat, k ≤ (cl c).length ∧ i = .int .i64 (k : Int) ∧ v = .string (bs (76 :: (dd a ++ preT ((cl c).take k)))) ∧ Below w3.heap.size w3 wr) (fun _ i _ => (cl c).length - (intOf i).toNat)
  case atStart => exact ⟨0, Nat.zero_le _, rfl, by rw [List.take_zero]; unfold preT; rw [if_pos rfl, List.append_nil], Below.refl _ _⟩
  case round =>
    obtain ⟨k, hk, rfl, rfl, hB⟩ := hrel
    have hpl := preT_len ((cl c).take k) (fun i hi => take_cl_lt hi) (by rw [List.length_take]; omega)
    by_cases hlt : k < (cl c).length
    · obtain ⟨i, hik⟩ : ∃ i, (cl c)[k]? = some i := ⟨_, List.getElem?_eq_getElem hlt⟩
      have hi64 : i < 64 := ((mem_cl c i).1 (List.mem_of_getElem? hik)).1
      obtain ⟨ao, cp, hsl, hII⟩ := HI.out
      obtain ⟨bb, off, hao, hbw, hcell⟩ := hII (fun h => by rw [List.map_eq_nil_iff] at h; rw [h] at hlt; simp at hlt)
      have hsl2 : ar = ao := by injection hsl
      subst hsl2
      subst hao
      have hc1 := hcell k (by rw [List.length_map]; exact hlt)
      have hget : ((cl c).map fun (i : Nat) => (i : Int))[k]?.getD 0 = (i : Int) := by rw [List.getElem?_map, hik]; rfl
      rw [hget] at hc1
      have hcr := (hB.cell (p := ⟨bb, off + k, none⟩) hbw).trans hc1
      have li := dd_len i 1 (by omega)
      have HK := Lib.hid hik
      have HB := Lib.hid hB
      have htk : (cl c).take (k + 1) = (cl c).take k ++ [i] := by rw [List.take_add_one, hik]; rfl
      have HTK := Lib.hid htk
      have ltk : ((cl c).take k).length = k := by rw [List.length_take]; omega
      have HLK := Lib.hid ltk
      clear hik hsl hII hcell hc1 hget hB htk ltk
      by_cases h0 : k = 0
      · have q0 : ((k : Int) == 0) = true := by rw [h0]; rfl
        have HP := Lib.hid (show preT ((cl c).take (k + 1)) = preT ((cl c).take k) ++ 123 :: dd i by
          rw [HTK.out, h0, List.take_zero]
          rfl)
        clear h0
        go_wp2_with fail
        refine (refDigits_any i (by omega) _).mono ?_
        rintro e w4 ⟨rfl, hb4⟩
        have HB4 := Lib.hid (HB.out.trans (hb4.mono HB.out.size))
        clear hb4
        go_wp2
        go_roundw
        case rel =>
          refine ⟨k + 1, by omega, by go_num, ?_, HB4.out⟩
          rw [HP.out]
          try simp
        case measure => simp [intOf]; omega
      · have q0 : ((k : Int) == 0) = false := by rw [beq_eq_false_iff_ne]; omega
        have HP := Lib.hid (show preT ((cl c).take (k + 1)) = preT ((cl c).take k) ++ 44 :: dd i by
          have hne : (cl c).take k ≠ [] := fun h => by
            have := HLK.out
            rw [h] at this
            exact h0 this.symm
          rw [HTK.out]
          unfold preT
          rw [if_neg (by simp), if_neg hne, setT_snoc _ _ hne]
          rfl)
        clear h0
        go_wp2_with fail
        refine (refDigits_any i (by omega) _).mono ?_
        rintro e w4 ⟨rfl, hb4⟩
        have HB4 := Lib.hid (HB.out.trans (hb4.mono HB.out.size))
        clear hb4
        go_wp2
        go_roundw
        case rel =>
          refine ⟨k + 1, by omega, by go_num, ?_, HB4.out⟩
          rw [HP.out]
          try simp
        case measure => simp [intOf]; omega
    · obtain rfl : k = (cl c).length := by omega
      rw [List.take_of_length_le (Nat.le_refl _)] at hpl
      rw [List.take_of_length_le (Nat.le_refl _)]
      have hl4 := HL3.out.block (hB.block _ HL3.out.lt)
      have k2 := hl4.c2
      have HB4 := Lib.hid (below_more HB3.out hB)
      have HL4 := Lib.hid hl4
      clear hl4 hB
      by_cases h0 : cl c = []
      · have q0 : ¬ 0 < (cl c).length := by rw [h0]; simp
        have HBR := Lib.hid (show braced c = preT (cl c) by unfold braced preT; rw [if_pos h0, if_pos h0])
        clear h0
        go_wp2_with fail
        refine (refDigits_any b (by omega) _).mono ?_
        rintro e w5 ⟨rfl, hb5⟩
        have HB5 := Lib.hid (below_more HB4.out hb5)
        clear hb5
        go_wp2
        go_ret2
        refine ⟨?_, HB5.out⟩
        unfold prt
        rw [HBR.out]
        simp
      · have q0 : 0 < (cl c).length := Nat.pos_of_ne_zero (fun h => h0 (List.length_eq_zero_iff.1 h))
        have HBR := Lib.hid (show braced c = preT (cl c) ++ [125] by unfold braced preT; rw [if_neg h0, if_neg h0]; rfl)
        clear h0
        go_wp2_with fail
        refine (refDigits_any b (by omega) _).mono ?_
        rintro e w5 ⟨rfl, hb5⟩
        have HB5 := Lib.hid (below_more HB4.out hb5)
        clear hb5
        go_wp2
        go_ret2
        refine ⟨?_, HB5.out⟩
        unfold prt
        rw [HBR.out]
        simp

theorem refPrint_any (x : Lab) (hf : x.fits) (w : World) :
    Calls Tryd.prog 10 #[.agg #[.int .i64 x.l, .int .u64 (x.c : Int), .int .i64 x.i]] w fun e w' => e = .returned (.tuple #[.string (bs (if x.right then prt x else [])), .int .i64 (if x.right then 0 else 20)]) ∧ Below w.heap.size w w' := by
  cases h : x.right
  · refine (refPrint_no x h w).mono fun e w' ⟨he, hb⟩ => ⟨?_, hb⟩
    rw [he]
    rfl
  · have hr := (Lab.right_iff x).1 h
    have hx : x = ⟨((x.l.toNat : Nat) : Int), x.c, ((x.i.toNat : Nat) : Int)⟩ := Lab.ext (by simp only; omega) rfl (by simp only; omega)
    have k := refPrint_yes x.l.toNat x.i.toNat x.c (by omega) (by omega) hf w
    rw [← hx] at k
    have e1 : ((x.l.toNat : Nat) : Int) = x.l := by omega
    have e2 : ((x.i.toNat : Nat) : Int) = x.i := by omega
    rw [e1, e2] at k
    refine k.mono fun e w' ⟨he, hb⟩ => ⟨?_, hb⟩
    rw [he]
    rfl

end Go.Proofs.YtcjokjipgeaikaaDoor
