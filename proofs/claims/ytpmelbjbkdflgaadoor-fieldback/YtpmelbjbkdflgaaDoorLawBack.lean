/- FieldBack, walked: for every width, number and text it returns true. -/
import Derived.Test.YtpmelbjbkdflgaaDoorLawOrders
namespace Go.Proofs.YtpmelbjbkdflgaaDoor
open Go.RowKit Go.Shelf Go.Proofs.Fld

attribute [local go_sem] bs_toList

theorem get_put {m n : Nat} (hm : isW (m : Int)) (hn : n < 256 ^ m) (l : List UInt8) : getRes (m : Int) (enc m n ++ l) = (n, l, 0) := by
  have hc : getC (m : Int) (enc m n ++ l) = 0 := getC_ok hm (by rw [List.length_append, enc_length]; omega)
  have h1 : (enc m n ++ l).take m = enc m n := by rw [List.take_append_of_le_length (by rw [enc_length]; exact Nat.le_refl _), List.take_of_length_le (by rw [enc_length]; exact Nat.le_refl _)]
  have h2 : (enc m n ++ l).drop m = l := by
    have := List.drop_left (l₁ := enc m n) (l₂ := l)
    rwa [enc_length] at this
  unfold getRes
  rw [if_pos hc]
  show (dec 0 ((enc m n ++ l).take m), (enc m n ++ l).drop m, (0 : Int)) = _
  rw [h1, h2, dec_enc_lt hn]
theorem getRes_cases (k : Int) (l : List UInt8) : (∃ (m : Nat) (x : Nat), k = m ∧ isW (m : Int) ∧ m ≤ l.length ∧ x < 18446744073709551616 ∧ getRes k l = (x, l.drop m, 0) ∧ putRes k x = (l.take m, 0)) ∨ (∃ d : Int, (d != 0) = true ∧ getRes k l = (0, [], d)) := by
  by_cases hz : getC k l = 0
  · by_cases hk : isW k
    · obtain ⟨m, rfl, _, hm8⟩ := isW_le hk
      have hm : m ≤ l.length := by
        rcases Nat.lt_or_ge l.length m with h | h
        · rw [getC_few hk h] at hz; exact absurd hz (by decide)
        · exact h
      have hl : (l.take m).length = m := by rw [List.length_take]; omega
      have hx := dec_lt (l.take m)
      rw [hl] at hx
      have hp : (256 : Nat) ^ m ≤ 256 ^ 8 := Nat.pow_le_pow_right (by decide) hm8
      have he := enc_dec (l.take m)
      rw [hl] at he
      refine .inl ⟨m, dec 0 (l.take m), rfl, hk, hm, by omega, ?_, ?_⟩
      · unfold getRes; rw [if_pos hz]; rfl
      · rw [putRes_ok hk hx, he]
    · unfold getC at hz; rw [if_neg hk] at hz; exact absurd hz (by decide)
  · refine .inr ⟨getC k l, by simpa using hz, ?_⟩
    unfold getRes
    rw [if_neg hz]

set_option maxRecDepth 100000 in
set_option maxHeartbeats 2000000 in
theorem back_oo (s : Sn) (k : Int) (hk : (Lit.int .i64 k).wf = true) (n : Nat) (hn : n < 18446744073709551616) (a : List UInt8) (ha : a.length ≤ 9223372036854775807) (w : World) (hs : Sent s w) (m : Nat) (hkm : k = m) (hm : isW (m : Int)) (hnm : n < 256 ^ m) (e1 : putRes k n = (enc m n, 0)) (q : Nat) (x : Nat) (hkq : k = q) (hq : q ≤ (a.take 300).length) (hx : x < 18446744073709551616) (e2 : getRes k (a.take 300) = (x, (a.take 300).drop q, 0)) (e3 : putRes k x = ((a.take 300).take q, 0)) :
    Calls Tryd.prog 5 #[.int .i64 k, .int .u64 n, .string (bs a)] w fun e w' => e = .returned (.bool true) ∧ Below w.heap.size w w' := by
  have HS := Lib.hid hs
  obtain ⟨l, hl⟩ : ∃ l, a.take 300 = l := ⟨_, rfl⟩
  have hll : l.length ≤ 300 := by rw [← hl]; simp; omega
  rw [hl] at e2 e3 hq
  have HA := Lib.hid (fun w => cut300 a ha w)
  have HP := Lib.hid (fun w h => put_any s k hk n hn w h)
  have HG := Lib.hid (fun w h => get_any s k hk l w h)
  have HL := Lib.hid hl
  have hsl := bs_size l
  subst hkm
  obtain ⟨p, hp⟩ : ∃ p, enc m n = p := ⟨_, rfl⟩
  have hpl : p.length = m := by rw [← hp, enc_length]
  have hsp : (bs p).size = m := by rw [bs_size, hpl]
  have hap : bs p ++ bs l = bs (p ++ l) := bs_append _ _
  have e4 := get_put hm hnm l
  have HG1 := Lib.hid (fun w h => get_any s m hk (p ++ l) w h)
  obtain ⟨_, hmm, _, hm8⟩ := isW_le hm
  have hm8' : m ≤ 8 := by omega
  rw [hp] at e1 e4
  have HE1 := Lib.hid (And.intro e1 e4)
  clear e1 e4 hp hm hnm hpl hmm hm8
  have HP2 := Lib.hid (fun w h => put_any s m hk x hx w h)
  have _hu := hkq
  clear _hu
  obtain ⟨y, hy⟩ : ∃ y, l.take q = y := ⟨_, rfl⟩
  obtain ⟨z, hz⟩ : ∃ z, l.drop q = z := ⟨_, rfl⟩
  have hyz : y ++ z = l := by rw [← hy, ← hz, List.take_append_drop]
  have hap2 : bs y ++ bs z = bs l := by rw [bs_append, hyz]
  have hyl : y.length ≤ 300 := by rw [← hy, List.length_take]; omega
  have hzl : z.length ≤ 300 := by rw [← hz, List.length_drop]; omega
  have hsy := bs_size y
  have hsz := bs_size z
  rw [hz] at e2
  rw [hy] at e3
  have HE2 := Lib.hid (And.intro e2 e3)
  clear e2 e3 hy hz hyz hx hq hkq
  clear hs hk hn ha hl
  go_enter Tryd.func5, Tryd.ntmps5
  go_wp2_with (go_at_call 10; refine (shown_any s w HS.out).mono ?_)
  rintro e w1 ⟨he, b1⟩
  have he2 : e = .returned (.bool true) := by rw [he]
  subst he2
  clear he
  go_wp2_with (go_at_call 11; refine (HP.out w1 (HS.out.more b1)).mono ?_)
  rintro e w2 ⟨he, b2⟩
  have he2 : e = .returned (.tuple #[.string (bs p), .int .i64 0]) := by rw [he, HE1.out.1]
  subst he2
  clear he
  have d2 := below_more b1 b2
  go_wp2_with (go_at_call 14; refine (HA.out w2).mono ?_)
  rintro e w3 ⟨he, hw3⟩
  have he2 : e = .returned (.string (bs l)) := by rw [he, HL.out]
  subst he2
  clear he
  obtain rfl := hw3
  go_wp2_with (go_at_call 13; refine (HG1.out w2 (HS.out.more d2)).mono ?_)
  rintro e w3 ⟨he, b3⟩
  have he2 : e = .returned (.tuple #[.int .u64 (n : Int), .string (bs l), .int .i64 0]) := by rw [he, HE1.out.2]
  subst he2
  clear he
  have d3 := below_more d2 b3
  go_wp2_with (go_at_call 14; refine (HA.out w3).mono ?_)
  rintro e w4 ⟨he, hw4⟩
  have he2 : e = .returned (.string (bs l)) := by rw [he, HL.out]
  subst he2
  clear he
  obtain rfl := hw4
  go_wp2_with (go_at_call 14; refine (HA.out w3).mono ?_)
  rintro e w4 ⟨he, hw4⟩
  have he2 : e = .returned (.string (bs l)) := by rw [he, HL.out]
  subst he2
  clear he
  obtain rfl := hw4
  go_wp2_with (go_at_call 13; refine (HG.out w3 (HS.out.more d3)).mono ?_)
  rintro e w4 ⟨he, b4⟩
  have he2 : e = .returned (.tuple #[.int .u64 (x : Int), .string (bs z), .int .i64 0]) := by rw [he, HE2.out.1]
  subst he2
  clear he
  have d4 := below_more d3 b4
  go_wp2_with (go_at_call 11; refine (HP2.out w4 (HS.out.more d4)).mono ?_)
  rintro e w5 ⟨he, b5⟩
  have he2 : e = .returned (.tuple #[.string (bs y), .int .i64 0]) := by rw [he, HE2.out.2]
  subst he2
  clear he
  have d5 := below_more d4 b5
  go_wp2_with (go_at_call 14; refine (HA.out w5).mono ?_)
  rintro e w6 ⟨he, hw6⟩
  have he2 : e = .returned (.string (bs l)) := by rw [he, HL.out]
  subst he2
  clear he
  obtain rfl := hw6
  go_wp2
  go_ret
  exact ⟨rfl, d5⟩

set_option maxRecDepth 100000 in
set_option maxHeartbeats 2000000 in
theorem back_oe (s : Sn) (k : Int) (hk : (Lit.int .i64 k).wf = true) (n : Nat) (hn : n < 18446744073709551616) (a : List UInt8) (ha : a.length ≤ 9223372036854775807) (w : World) (hs : Sent s w) (m : Nat) (hkm : k = m) (hm : isW (m : Int)) (hnm : n < 256 ^ m) (e1 : putRes k n = (enc m n, 0)) (d : Int) (hd : (d != 0) = true) (e2 : getRes k (a.take 300) = (0, [], d)) :
    Calls Tryd.prog 5 #[.int .i64 k, .int .u64 n, .string (bs a)] w fun e w' => e = .returned (.bool true) ∧ Below w.heap.size w w' := by
  have HS := Lib.hid hs
  obtain ⟨l, hl⟩ : ∃ l, a.take 300 = l := ⟨_, rfl⟩
  have hll : l.length ≤ 300 := by rw [← hl]; simp; omega
  rw [hl] at e2
  have HA := Lib.hid (fun w => cut300 a ha w)
  have HP := Lib.hid (fun w h => put_any s k hk n hn w h)
  have HG := Lib.hid (fun w h => get_any s k hk l w h)
  have HL := Lib.hid hl
  have hsl := bs_size l
  subst hkm
  obtain ⟨p, hp⟩ : ∃ p, enc m n = p := ⟨_, rfl⟩
  have hpl : p.length = m := by rw [← hp, enc_length]
  have hsp : (bs p).size = m := by rw [bs_size, hpl]
  have hap : bs p ++ bs l = bs (p ++ l) := bs_append _ _
  have e4 := get_put hm hnm l
  have HG1 := Lib.hid (fun w h => get_any s m hk (p ++ l) w h)
  obtain ⟨_, hmm, _, hm8⟩ := isW_le hm
  have hm8' : m ≤ 8 := by omega
  rw [hp] at e1 e4
  have HE1 := Lib.hid (And.intro e1 e4)
  clear e1 e4 hp hm hnm hpl hmm hm8
  obtain ⟨p2, c2, e3⟩ : ∃ p2 c2, putRes m 0 = (p2, c2) := ⟨_, _, rfl⟩
  have HP2 := Lib.hid (fun w h => put_any s m hk 0 (by decide) w h)
  have HE2 := Lib.hid (And.intro e2 e3)
  clear e2 e3
  clear hs hk hn ha hl
  go_enter Tryd.func5, Tryd.ntmps5
  go_wp2_with (go_at_call 10; refine (shown_any s w HS.out).mono ?_)
  rintro e w1 ⟨he, b1⟩
  have he2 : e = .returned (.bool true) := by rw [he]
  subst he2
  clear he
  go_wp2_with (go_at_call 11; refine (HP.out w1 (HS.out.more b1)).mono ?_)
  rintro e w2 ⟨he, b2⟩
  have he2 : e = .returned (.tuple #[.string (bs p), .int .i64 0]) := by rw [he, HE1.out.1]
  subst he2
  clear he
  have d2 := below_more b1 b2
  go_wp2_with (go_at_call 14; refine (HA.out w2).mono ?_)
  rintro e w3 ⟨he, hw3⟩
  have he2 : e = .returned (.string (bs l)) := by rw [he, HL.out]
  subst he2
  clear he
  obtain rfl := hw3
  go_wp2_with (go_at_call 13; refine (HG1.out w2 (HS.out.more d2)).mono ?_)
  rintro e w3 ⟨he, b3⟩
  have he2 : e = .returned (.tuple #[.int .u64 (n : Int), .string (bs l), .int .i64 0]) := by rw [he, HE1.out.2]
  subst he2
  clear he
  have d3 := below_more d2 b3
  go_wp2_with (go_at_call 14; refine (HA.out w3).mono ?_)
  rintro e w4 ⟨he, hw4⟩
  have he2 : e = .returned (.string (bs l)) := by rw [he, HL.out]
  subst he2
  clear he
  obtain rfl := hw4
  go_wp2_with (go_at_call 14; refine (HA.out w3).mono ?_)
  rintro e w4 ⟨he, hw4⟩
  have he2 : e = .returned (.string (bs l)) := by rw [he, HL.out]
  subst he2
  clear he
  obtain rfl := hw4
  go_wp2_with (go_at_call 13; refine (HG.out w3 (HS.out.more d3)).mono ?_)
  rintro e w4 ⟨he, b4⟩
  have he2 : e = .returned (.tuple #[.int .u64 0, .string (bs []), .int .i64 d]) := by rw [he, HE2.out.1]; rfl
  subst he2
  clear he
  have d4 := below_more d3 b4
  go_wp2_with (go_at_call 11; refine (HP2.out w4 (HS.out.more d4)).mono ?_)
  rintro e w5 ⟨he, b5⟩
  have he2 : e = .returned (.tuple #[.string (bs p2), .int .i64 c2]) := by rw [he, HE2.out.2]
  subst he2
  clear he
  have d5 := below_more d4 b5
  go_wp2
  go_ret
  exact ⟨rfl, d5⟩

set_option maxRecDepth 100000 in
set_option maxHeartbeats 2000000 in
theorem back_eo (s : Sn) (k : Int) (hk : (Lit.int .i64 k).wf = true) (n : Nat) (hn : n < 18446744073709551616) (a : List UInt8) (ha : a.length ≤ 9223372036854775807) (w : World) (hs : Sent s w) (c : Int) (hc1 : (c == 0) = false) (e1 : putRes k n = ([], c)) (q : Nat) (x : Nat) (hkq : k = q) (hq : q ≤ (a.take 300).length) (hx : x < 18446744073709551616) (e2 : getRes k (a.take 300) = (x, (a.take 300).drop q, 0)) (e3 : putRes k x = ((a.take 300).take q, 0)) :
    Calls Tryd.prog 5 #[.int .i64 k, .int .u64 n, .string (bs a)] w fun e w' => e = .returned (.bool true) ∧ Below w.heap.size w w' := by
  have HS := Lib.hid hs
  obtain ⟨l, hl⟩ : ∃ l, a.take 300 = l := ⟨_, rfl⟩
  have hll : l.length ≤ 300 := by rw [← hl]; simp; omega
  rw [hl] at e2 e3 hq
  have HA := Lib.hid (fun w => cut300 a ha w)
  have HP := Lib.hid (fun w h => put_any s k hk n hn w h)
  have HG := Lib.hid (fun w h => get_any s k hk l w h)
  have HL := Lib.hid hl
  have hsl := bs_size l
  obtain ⟨x0, r0, d0, e4⟩ : ∃ x0 r0 d0, getRes k l = (x0, r0, d0) := ⟨_, _, _, rfl⟩
  have HE1 := Lib.hid (And.intro e1 e4)
  have hse : (bs []).size = 0 := rfl
  have hap : bs [] ++ bs l = bs l := bs_append [] l
  have hee : (bs []).toList.isEmpty = true := by rw [bs_toList]; rfl
  clear e1 e4
  have HP2 := Lib.hid (fun w h => put_any s k hk x hx w h)
  have _hu := hkq
  clear _hu
  obtain ⟨y, hy⟩ : ∃ y, l.take q = y := ⟨_, rfl⟩
  obtain ⟨z, hz⟩ : ∃ z, l.drop q = z := ⟨_, rfl⟩
  have hyz : y ++ z = l := by rw [← hy, ← hz, List.take_append_drop]
  have hap2 : bs y ++ bs z = bs l := by rw [bs_append, hyz]
  have hyl : y.length ≤ 300 := by rw [← hy, List.length_take]; omega
  have hzl : z.length ≤ 300 := by rw [← hz, List.length_drop]; omega
  have hsy := bs_size y
  have hsz := bs_size z
  rw [hz] at e2
  rw [hy] at e3
  have HE2 := Lib.hid (And.intro e2 e3)
  clear e2 e3 hy hz hyz hx hq hkq
  clear hs hk hn ha hl
  go_enter Tryd.func5, Tryd.ntmps5
  go_wp2_with (go_at_call 10; refine (shown_any s w HS.out).mono ?_)
  rintro e w1 ⟨he, b1⟩
  have he2 : e = .returned (.bool true) := by rw [he]
  subst he2
  clear he
  go_wp2_with (go_at_call 11; refine (HP.out w1 (HS.out.more b1)).mono ?_)
  rintro e w2 ⟨he, b2⟩
  have he2 : e = .returned (.tuple #[.string (bs []), .int .i64 c]) := by rw [he, HE1.out.1]
  subst he2
  clear he
  have d2 := below_more b1 b2
  go_wp2_with (go_at_call 14; refine (HA.out w2).mono ?_)
  rintro e w3 ⟨he, hw3⟩
  have he2 : e = .returned (.string (bs l)) := by rw [he, HL.out]
  subst he2
  clear he
  obtain rfl := hw3
  go_wp2_with (go_at_call 13; refine (HG.out w2 (HS.out.more d2)).mono ?_)
  rintro e w3 ⟨he, b3⟩
  have he2 : e = .returned (.tuple #[.int .u64 (x0 : Int), .string (bs r0), .int .i64 d0]) := by rw [he, HE1.out.2]
  subst he2
  clear he
  have d3 := below_more d2 b3
  go_wp2_with (go_at_call 14; refine (HA.out w3).mono ?_)
  rintro e w4 ⟨he, hw4⟩
  have he2 : e = .returned (.string (bs l)) := by rw [he, HL.out]
  subst he2
  clear he
  obtain rfl := hw4
  go_wp2_with (go_at_call 13; refine (HG.out w3 (HS.out.more d3)).mono ?_)
  rintro e w4 ⟨he, b4⟩
  have he2 : e = .returned (.tuple #[.int .u64 (x : Int), .string (bs z), .int .i64 0]) := by rw [he, HE2.out.1]
  subst he2
  clear he
  have d4 := below_more d3 b4
  go_wp2_with (go_at_call 11; refine (HP2.out w4 (HS.out.more d4)).mono ?_)
  rintro e w5 ⟨he, b5⟩
  have he2 : e = .returned (.tuple #[.string (bs y), .int .i64 0]) := by rw [he, HE2.out.2]
  subst he2
  clear he
  have d5 := below_more d4 b5
  go_wp2_with (go_at_call 14; refine (HA.out w5).mono ?_)
  rintro e w6 ⟨he, hw6⟩
  have he2 : e = .returned (.string (bs l)) := by rw [he, HL.out]
  subst he2
  clear he
  obtain rfl := hw6
  go_wp2
  go_ret
  exact ⟨rfl, d5⟩

set_option maxRecDepth 100000 in
set_option maxHeartbeats 2000000 in
theorem back_ee (s : Sn) (k : Int) (hk : (Lit.int .i64 k).wf = true) (n : Nat) (hn : n < 18446744073709551616) (a : List UInt8) (ha : a.length ≤ 9223372036854775807) (w : World) (hs : Sent s w) (c : Int) (hc1 : (c == 0) = false) (e1 : putRes k n = ([], c)) (d : Int) (hd : (d != 0) = true) (e2 : getRes k (a.take 300) = (0, [], d)) :
    Calls Tryd.prog 5 #[.int .i64 k, .int .u64 n, .string (bs a)] w fun e w' => e = .returned (.bool true) ∧ Below w.heap.size w w' := by
  have HS := Lib.hid hs
  obtain ⟨l, hl⟩ : ∃ l, a.take 300 = l := ⟨_, rfl⟩
  have hll : l.length ≤ 300 := by rw [← hl]; simp; omega
  rw [hl] at e2
  have HA := Lib.hid (fun w => cut300 a ha w)
  have HP := Lib.hid (fun w h => put_any s k hk n hn w h)
  have HG := Lib.hid (fun w h => get_any s k hk l w h)
  have HL := Lib.hid hl
  have hsl := bs_size l
  obtain ⟨x0, r0, d0, e4⟩ : ∃ x0 r0 d0, getRes k l = (x0, r0, d0) := ⟨_, _, _, rfl⟩
  have HE1 := Lib.hid (And.intro e1 e4)
  have hse : (bs []).size = 0 := rfl
  have hap : bs [] ++ bs l = bs l := bs_append [] l
  have hee : (bs []).toList.isEmpty = true := by rw [bs_toList]; rfl
  clear e1 e4
  obtain ⟨p2, c2, e3⟩ : ∃ p2 c2, putRes k 0 = (p2, c2) := ⟨_, _, rfl⟩
  have HP2 := Lib.hid (fun w h => put_any s k hk 0 (by decide) w h)
  have HE2 := Lib.hid (And.intro e2 e3)
  clear e2 e3
  clear hs hk hn ha hl
  go_enter Tryd.func5, Tryd.ntmps5
  go_wp2_with (go_at_call 10; refine (shown_any s w HS.out).mono ?_)
  rintro e w1 ⟨he, b1⟩
  have he2 : e = .returned (.bool true) := by rw [he]
  subst he2
  clear he
  go_wp2_with (go_at_call 11; refine (HP.out w1 (HS.out.more b1)).mono ?_)
  rintro e w2 ⟨he, b2⟩
  have he2 : e = .returned (.tuple #[.string (bs []), .int .i64 c]) := by rw [he, HE1.out.1]
  subst he2
  clear he
  have d2 := below_more b1 b2
  go_wp2_with (go_at_call 14; refine (HA.out w2).mono ?_)
  rintro e w3 ⟨he, hw3⟩
  have he2 : e = .returned (.string (bs l)) := by rw [he, HL.out]
  subst he2
  clear he
  obtain rfl := hw3
  go_wp2_with (go_at_call 13; refine (HG.out w2 (HS.out.more d2)).mono ?_)
  rintro e w3 ⟨he, b3⟩
  have he2 : e = .returned (.tuple #[.int .u64 (x0 : Int), .string (bs r0), .int .i64 d0]) := by rw [he, HE1.out.2]
  subst he2
  clear he
  have d3 := below_more d2 b3
  go_wp2_with (go_at_call 14; refine (HA.out w3).mono ?_)
  rintro e w4 ⟨he, hw4⟩
  have he2 : e = .returned (.string (bs l)) := by rw [he, HL.out]
  subst he2
  clear he
  obtain rfl := hw4
  go_wp2_with (go_at_call 13; refine (HG.out w3 (HS.out.more d3)).mono ?_)
  rintro e w4 ⟨he, b4⟩
  have he2 : e = .returned (.tuple #[.int .u64 0, .string (bs []), .int .i64 d]) := by rw [he, HE2.out.1]; rfl
  subst he2
  clear he
  have d4 := below_more d3 b4
  go_wp2_with (go_at_call 11; refine (HP2.out w4 (HS.out.more d4)).mono ?_)
  rintro e w5 ⟨he, b5⟩
  have he2 : e = .returned (.tuple #[.string (bs p2), .int .i64 c2]) := by rw [he, HE2.out.2]
  subst he2
  clear he
  have d5 := below_more d4 b5
  go_wp2
  go_ret
  exact ⟨rfl, d5⟩

theorem back_walk (s : Sn) (k : Int) (hk : (Lit.int .i64 k).wf = true) (n : Nat) (hn : n < 18446744073709551616) (a : List UInt8) (ha : a.length ≤ 9223372036854775807) (w : World) (hs : Sent s w) :
    Calls Tryd.prog 5 #[.int .i64 k, .int .u64 n, .string (bs a)] w fun e w' => e = .returned (.bool true) ∧ Below w.heap.size w w' := by
  rcases putRes_cases k n with ⟨m, e0, hm, hnm, e1⟩ | ⟨c, _, hc1, _, e1⟩
  · rcases getRes_cases k (a.take 300) with ⟨q, x, f0, hq, hql, hx, e2, e3⟩ | ⟨d, hd, e2⟩
    · exact back_oo s k hk n hn a ha w hs m e0 hm hnm e1 q x f0 hql hx e2 e3
    · exact back_oe s k hk n hn a ha w hs m e0 hm hnm e1 d hd e2
  · rcases getRes_cases k (a.take 300) with ⟨q, x, f0, hq, hql, hx, e2, e3⟩ | ⟨d, hd, e2⟩
    · exact back_eo s k hk n hn a ha w hs c hc1 e1 q x f0 hql hx e2 e3
    · exact back_ee s k hk n hn a ha w hs c hc1 e1 d hd e2

end Go.Proofs.YtpmelbjbkdflgaaDoor
