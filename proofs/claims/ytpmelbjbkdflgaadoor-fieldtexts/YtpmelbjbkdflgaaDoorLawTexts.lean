/- FieldTexts, walked: for every two texts it returns true. -/
import Derived.Test.YtpmelbjbkdflgaaDoorLawOrders
namespace Go.Proofs.YtpmelbjbkdflgaaDoor
open Go.RowKit Go.Shelf Go.Proofs.Fld

attribute [local go_sem] bs_toList

theorem text_put {t : List UInt8} (ht : t.length ≤ 200) (l : List UInt8) : textRes (UInt8.ofNat t.length :: t ++ l) = (t, l, 0) := by
  have hb : (UInt8.ofNat t.length).toNat = t.length := by rw [ofNat_toNat]; omega
  show textRes (UInt8.ofNat t.length :: (t ++ l)) = _
  rw [textRes_cons, hb, if_neg (by omega), if_neg (by rw [List.length_append]; omega)]
  rw [List.take_left, List.drop_left]
theorem textRes_cases (l : List UInt8) : (∃ (v r : List UInt8), textRes l = (v, r, 0) ∧ v.length ≤ 200 ∧ UInt8.ofNat v.length :: v ++ r = l ∧ putTextRes v = (UInt8.ofNat v.length :: v, 0)) ∨ (∃ d : Int, (d != 0) = true ∧ textRes l = ([], [], d)) := by
  cases l with
  | nil => exact .inr ⟨30, rfl, rfl⟩
  | cons b r =>
    rw [textRes_cons]
    by_cases h1 : 200 < b.toNat
    · exact .inr ⟨31, rfl, by rw [if_pos h1]⟩
    · by_cases h2 : r.length < b.toNat
      · exact .inr ⟨30, rfl, by rw [if_neg h1, if_pos h2]⟩
      · have hl : (r.take b.toNat).length = b.toNat := by rw [List.length_take]; omega
        refine .inl ⟨r.take b.toNat, r.drop b.toNat, by rw [if_neg h1, if_neg h2], by omega, ?_, ?_⟩
        · rw [hl, List.cons_append, List.take_append_drop]
          congr 1
          apply UInt8.toNat_inj.1
          rw [ofNat_toNat]
          have := b.toNat_lt
          omega
        · unfold putTextRes
          rw [if_neg (by omega)]

set_option maxRecDepth 100000 in
set_option maxHeartbeats 2000000 in
theorem texts_oo (s : Sn) (b : List UInt8) (hb : b.length ≤ 9223372036854775807) (a : List UInt8) (ha : a.length ≤ 9223372036854775807) (w : World) (hs : Sent s w) (hq : (b.take 300).length ≤ 200) (v r : List UInt8) (e2 : textRes (a.take 300) = (v, r, 0)) (hv2 : v.length ≤ 200) (hvr : UInt8.ofNat v.length :: v ++ r = a.take 300) (e3 : putTextRes v = (UInt8.ofNat v.length :: v, 0)) :
    Calls Tryd.prog 6 #[.string (bs b), .string (bs a)] w fun e w' => e = .returned (.bool true) ∧ Below w.heap.size w w' := by
  have HS := Lib.hid hs
  obtain ⟨l, hl⟩ : ∃ l, a.take 300 = l := ⟨_, rfl⟩
  obtain ⟨t, ht⟩ : ∃ t, b.take 300 = t := ⟨_, rfl⟩
  have hll : l.length ≤ 300 := by rw [← hl]; simp; omega
  have htl : t.length ≤ 300 := by rw [← ht]; simp; omega
  rw [ht] at hq
  rw [hl] at e2 hvr
  have HA := Lib.hid (fun w => cut300 a ha w)
  have HB := Lib.hid (fun w => cut300 b hb w)
  have HP := Lib.hid (fun w h => putText_any s t (by omega) w h)
  have HG := Lib.hid (fun w h => getText_any s l w h)
  have HL := Lib.hid (And.intro hl ht)
  have hsl := bs_size l
  have hst := bs_size t
  have e1 : putTextRes t = (UInt8.ofNat t.length :: t, 0) := by unfold putTextRes; rw [if_neg (by omega)]
  have e4 := text_put hq l
  obtain ⟨p, hp⟩ : ∃ p, UInt8.ofNat t.length :: t = p := ⟨_, rfl⟩
  rw [hp] at e1 e4
  have hpl : p.length = t.length + 1 := by rw [← hp]; rfl
  have hsp : (bs p).size = t.length + 1 := by rw [bs_size, hpl]
  have hap : bs p ++ bs l = bs (p ++ l) := bs_append _ _
  have HG1 := Lib.hid (fun w h => getText_any s (p ++ l) w h)
  have HE1 := Lib.hid (And.intro e1 e4)
  clear e1 e4 hp hpl
  have HP2 := Lib.hid (fun w h => putText_any s v (by omega) w h)
  obtain ⟨y, hy⟩ : ∃ y, UInt8.ofNat v.length :: v = y := ⟨_, rfl⟩
  rw [hy] at e3 hvr
  have hap2 : bs y ++ bs r = bs l := by rw [bs_append, hvr]
  have hyl : y.length ≤ 300 := by have := congrArg List.length hvr; rw [List.length_append] at this; omega
  have hrl : r.length ≤ 300 := by have := congrArg List.length hvr; rw [List.length_append] at this; omega
  have hsy := bs_size y
  have hsr := bs_size r
  have HE2 := Lib.hid (And.intro e2 e3)
  clear e2 e3 hy hvr hv2
  clear hs ha hb hl ht
  go_enter Tryd.func6, Tryd.ntmps6
  go_wp2_with (go_at_call 10; refine (shown_any s w HS.out).mono ?_)
  rintro e w1 ⟨he, b1⟩
  have he2 : e = .returned (.bool true) := by rw [he]
  subst he2
  clear he
  go_wp2_with (go_at_call 14; refine (HB.out w1).mono ?_)
  rintro e w2 ⟨he, hw2⟩
  have he2 : e = .returned (.string (bs t)) := by rw [he, HL.out.2]
  subst he2
  clear he
  obtain rfl := hw2
  go_wp2_with (go_at_call 16; refine (HP.out w1 (HS.out.more b1)).mono ?_)
  rintro e w2 ⟨he, b2⟩
  have he2 : e = .returned (.tuple #[.string (bs p), .int .i64 0]) := by rw [he, HE1.out.1]
  subst he2
  clear he
  have d2 := below_more b1 b2
  go_wp2_with (go_at_call 14; refine (HA.out w2).mono ?_)
  rintro e w3 ⟨he, hw3⟩
  have he2 : e = .returned (.string (bs l)) := by rw [he, HL.out.1]
  subst he2
  clear he
  obtain rfl := hw3
  go_wp2_with (go_at_call 18; refine (HG1.out w2 (HS.out.more d2)).mono ?_)
  rintro e w3 ⟨he, b3⟩
  have he2 : e = .returned (.tuple #[.string (bs t), .string (bs l), .int .i64 0]) := by rw [he, HE1.out.2]
  subst he2
  clear he
  have d3 := below_more d2 b3
  go_wp2_with (go_at_call 14; refine (HA.out w3).mono ?_)
  rintro e w4 ⟨he, hw4⟩
  have he2 : e = .returned (.string (bs l)) := by rw [he, HL.out.1]
  subst he2
  clear he
  obtain rfl := hw4
  go_wp2_with (go_at_call 18; refine (HG.out w3 (HS.out.more d3)).mono ?_)
  rintro e w4 ⟨he, b4⟩
  have he2 : e = .returned (.tuple #[.string (bs v), .string (bs r), .int .i64 0]) := by rw [he, HE2.out.1]
  subst he2
  clear he
  have d4 := below_more d3 b4
  go_wp2_with (go_at_call 16; refine (HP2.out w4 (HS.out.more d4)).mono ?_)
  rintro e w5 ⟨he, b5⟩
  have he2 : e = .returned (.tuple #[.string (bs y), .int .i64 0]) := by rw [he, HE2.out.2]
  subst he2
  clear he
  have d5 := below_more d4 b5
  go_wp2_with (go_at_call 14; refine (HB.out w5).mono ?_)
  rintro e w6 ⟨he, hw6⟩
  have he2 : e = .returned (.string (bs t)) := by rw [he, HL.out.2]
  subst he2
  clear he
  obtain rfl := hw6
  go_wp2_with (go_at_call 14; refine (HA.out w5).mono ?_)
  rintro e w6 ⟨he, hw6⟩
  have he2 : e = .returned (.string (bs l)) := by rw [he, HL.out.1]
  subst he2
  clear he
  obtain rfl := hw6
  go_wp2_with (go_at_call 14; refine (HA.out w5).mono ?_)
  rintro e w6 ⟨he, hw6⟩
  have he2 : e = .returned (.string (bs l)) := by rw [he, HL.out.1]
  subst he2
  clear he
  obtain rfl := hw6
  go_wp2
  go_ret
  exact ⟨rfl, d5⟩

set_option maxRecDepth 100000 in
set_option maxHeartbeats 2000000 in
theorem texts_oe (s : Sn) (b : List UInt8) (hb : b.length ≤ 9223372036854775807) (a : List UInt8) (ha : a.length ≤ 9223372036854775807) (w : World) (hs : Sent s w) (hq : (b.take 300).length ≤ 200) (d : Int) (hd : (d != 0) = true) (e2 : textRes (a.take 300) = ([], [], d)) :
    Calls Tryd.prog 6 #[.string (bs b), .string (bs a)] w fun e w' => e = .returned (.bool true) ∧ Below w.heap.size w w' := by
  have HS := Lib.hid hs
  obtain ⟨l, hl⟩ : ∃ l, a.take 300 = l := ⟨_, rfl⟩
  obtain ⟨t, ht⟩ : ∃ t, b.take 300 = t := ⟨_, rfl⟩
  have hll : l.length ≤ 300 := by rw [← hl]; simp; omega
  have htl : t.length ≤ 300 := by rw [← ht]; simp; omega
  rw [ht] at hq
  rw [hl] at e2
  have HA := Lib.hid (fun w => cut300 a ha w)
  have HB := Lib.hid (fun w => cut300 b hb w)
  have HP := Lib.hid (fun w h => putText_any s t (by omega) w h)
  have HG := Lib.hid (fun w h => getText_any s l w h)
  have HL := Lib.hid (And.intro hl ht)
  have hsl := bs_size l
  have hst := bs_size t
  have e1 : putTextRes t = (UInt8.ofNat t.length :: t, 0) := by unfold putTextRes; rw [if_neg (by omega)]
  have e4 := text_put hq l
  obtain ⟨p, hp⟩ : ∃ p, UInt8.ofNat t.length :: t = p := ⟨_, rfl⟩
  rw [hp] at e1 e4
  have hpl : p.length = t.length + 1 := by rw [← hp]; rfl
  have hsp : (bs p).size = t.length + 1 := by rw [bs_size, hpl]
  have hap : bs p ++ bs l = bs (p ++ l) := bs_append _ _
  have HG1 := Lib.hid (fun w h => getText_any s (p ++ l) w h)
  have HE1 := Lib.hid (And.intro e1 e4)
  clear e1 e4 hp hpl
  obtain ⟨p2, c2, e3⟩ : ∃ p2 c2, putTextRes [] = (p2, c2) := ⟨_, _, rfl⟩
  have HP2 := Lib.hid (fun w h => putText_any s [] (by decide) w h)
  have HE2 := Lib.hid (And.intro e2 e3)
  clear e2 e3
  clear hs ha hb hl ht
  go_enter Tryd.func6, Tryd.ntmps6
  go_wp2_with (go_at_call 10; refine (shown_any s w HS.out).mono ?_)
  rintro e w1 ⟨he, b1⟩
  have he2 : e = .returned (.bool true) := by rw [he]
  subst he2
  clear he
  go_wp2_with (go_at_call 14; refine (HB.out w1).mono ?_)
  rintro e w2 ⟨he, hw2⟩
  have he2 : e = .returned (.string (bs t)) := by rw [he, HL.out.2]
  subst he2
  clear he
  obtain rfl := hw2
  go_wp2_with (go_at_call 16; refine (HP.out w1 (HS.out.more b1)).mono ?_)
  rintro e w2 ⟨he, b2⟩
  have he2 : e = .returned (.tuple #[.string (bs p), .int .i64 0]) := by rw [he, HE1.out.1]
  subst he2
  clear he
  have d2 := below_more b1 b2
  go_wp2_with (go_at_call 14; refine (HA.out w2).mono ?_)
  rintro e w3 ⟨he, hw3⟩
  have he2 : e = .returned (.string (bs l)) := by rw [he, HL.out.1]
  subst he2
  clear he
  obtain rfl := hw3
  go_wp2_with (go_at_call 18; refine (HG1.out w2 (HS.out.more d2)).mono ?_)
  rintro e w3 ⟨he, b3⟩
  have he2 : e = .returned (.tuple #[.string (bs t), .string (bs l), .int .i64 0]) := by rw [he, HE1.out.2]
  subst he2
  clear he
  have d3 := below_more d2 b3
  go_wp2_with (go_at_call 14; refine (HA.out w3).mono ?_)
  rintro e w4 ⟨he, hw4⟩
  have he2 : e = .returned (.string (bs l)) := by rw [he, HL.out.1]
  subst he2
  clear he
  obtain rfl := hw4
  go_wp2_with (go_at_call 18; refine (HG.out w3 (HS.out.more d3)).mono ?_)
  rintro e w4 ⟨he, b4⟩
  have he2 : e = .returned (.tuple #[.string (bs []), .string (bs []), .int .i64 d]) := by rw [he, HE2.out.1]
  subst he2
  clear he
  have d4 := below_more d3 b4
  go_wp2_with (go_at_call 16; refine (HP2.out w4 (HS.out.more d4)).mono ?_)
  rintro e w5 ⟨he, b5⟩
  have he2 : e = .returned (.tuple #[.string (bs p2), .int .i64 c2]) := by rw [he, HE2.out.2]
  subst he2
  clear he
  have d5 := below_more d4 b5
  go_wp2_with (go_at_call 14; refine (HB.out w5).mono ?_)
  rintro e w6 ⟨he, hw6⟩
  have he2 : e = .returned (.string (bs t)) := by rw [he, HL.out.2]
  subst he2
  clear he
  obtain rfl := hw6
  go_wp2_with (go_at_call 14; refine (HA.out w5).mono ?_)
  rintro e w6 ⟨he, hw6⟩
  have he2 : e = .returned (.string (bs l)) := by rw [he, HL.out.1]
  subst he2
  clear he
  obtain rfl := hw6
  go_wp2
  go_ret
  exact ⟨rfl, d5⟩

set_option maxRecDepth 100000 in
set_option maxHeartbeats 2000000 in
theorem texts_e (s : Sn) (b : List UInt8) (hb : b.length ≤ 9223372036854775807) (a : List UInt8) (ha : a.length ≤ 9223372036854775807) (w : World) (hs : Sent s w) (hq : 200 < (b.take 300).length) :
    Calls Tryd.prog 6 #[.string (bs b), .string (bs a)] w fun e w' => e = .returned (.bool true) ∧ Below w.heap.size w w' := by
  have HS := Lib.hid hs
  obtain ⟨l, hl⟩ : ∃ l, a.take 300 = l := ⟨_, rfl⟩
  obtain ⟨t, ht⟩ : ∃ t, b.take 300 = t := ⟨_, rfl⟩
  have hll : l.length ≤ 300 := by rw [← hl]; simp; omega
  have htl : t.length ≤ 300 := by rw [← ht]; simp; omega
  rw [ht] at hq
  have HA := Lib.hid (fun w => cut300 a ha w)
  have HB := Lib.hid (fun w => cut300 b hb w)
  have HP := Lib.hid (fun w h => putText_any s t (by omega) w h)
  have HG := Lib.hid (fun w h => getText_any s l w h)
  have HL := Lib.hid (And.intro hl ht)
  have hsl := bs_size l
  have hst := bs_size t
  have e1 : putTextRes t = ([], 31) := by unfold putTextRes; rw [if_pos hq]
  obtain ⟨v0, r0, d0, e4⟩ : ∃ v0 r0 d0, textRes l = (v0, r0, d0) := ⟨_, _, _, rfl⟩
  have hse : (bs []).size = 0 := rfl
  have hap : bs [] ++ bs l = bs l := bs_append [] l
  have hee : (bs []).toList.isEmpty = true := by rw [bs_toList]; rfl
  have HE1 := Lib.hid (And.intro e1 e4)
  clear e1 e4
  clear hs ha hb hl ht
  go_enter Tryd.func6, Tryd.ntmps6
  go_wp2_with (go_at_call 10; refine (shown_any s w HS.out).mono ?_)
  rintro e w1 ⟨he, b1⟩
  have he2 : e = .returned (.bool true) := by rw [he]
  subst he2
  clear he
  go_wp2_with (go_at_call 14; refine (HB.out w1).mono ?_)
  rintro e w2 ⟨he, hw2⟩
  have he2 : e = .returned (.string (bs t)) := by rw [he, HL.out.2]
  subst he2
  clear he
  obtain rfl := hw2
  go_wp2_with (go_at_call 16; refine (HP.out w1 (HS.out.more b1)).mono ?_)
  rintro e w2 ⟨he, b2⟩
  have he2 : e = .returned (.tuple #[.string (bs []), .int .i64 31]) := by rw [he, HE1.out.1]
  subst he2
  clear he
  have d2 := below_more b1 b2
  go_wp2_with (go_at_call 14; refine (HA.out w2).mono ?_)
  rintro e w3 ⟨he, hw3⟩
  have he2 : e = .returned (.string (bs l)) := by rw [he, HL.out.1]
  subst he2
  clear he
  obtain rfl := hw3
  go_wp2_with (go_at_call 18; refine (HG.out w2 (HS.out.more d2)).mono ?_)
  rintro e w3 ⟨he, b3⟩
  have he2 : e = .returned (.tuple #[.string (bs v0), .string (bs r0), .int .i64 d0]) := by rw [he, HE1.out.2]
  subst he2
  clear he
  have d3 := below_more d2 b3
  go_wp2_with (go_at_call 14; refine (HB.out w3).mono ?_)
  rintro e w4 ⟨he, hw4⟩
  have he2 : e = .returned (.string (bs t)) := by rw [he, HL.out.2]
  subst he2
  clear he
  obtain rfl := hw4
  go_wp2
  go_ret
  exact ⟨rfl, d3⟩

theorem texts_walk (s : Sn) (b : List UInt8) (hb : b.length ≤ 9223372036854775807) (a : List UInt8) (ha : a.length ≤ 9223372036854775807) (w : World) (hs : Sent s w) :
    Calls Tryd.prog 6 #[.string (bs b), .string (bs a)] w fun e w' => e = .returned (.bool true) ∧ Below w.heap.size w w' := by
  by_cases hq : 200 < (b.take 300).length
  · exact texts_e s b hb a ha w hs hq
  · rcases textRes_cases (a.take 300) with ⟨v, r, e2, hv, hvr, e3⟩ | ⟨d, hd, e2⟩
    · exact texts_oo s b hb a ha w hs (by omega) v r e2 hv hvr e3
    · exact texts_oe s b hb a ha w hs (by omega) d hd e2

end Go.Proofs.YtpmelbjbkdflgaaDoor
