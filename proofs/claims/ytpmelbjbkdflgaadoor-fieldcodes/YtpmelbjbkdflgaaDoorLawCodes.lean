/- FieldCodes, walked: for every width, number and two texts it returns true. -/
import Derived.Test.YtpmelbjbkdflgaaDoorLawOrders
import Derived.Test.YtpmelbjbkdflgaaDoorFldRef2
namespace Go.Proofs.YtpmelbjbkdflgaaDoor
open Go.RowKit Go.Shelf Go.Proofs.Fld

attribute [local go_sem] bs_toList

set_option maxRecDepth 100000 in
set_option maxHeartbeats 2000000 in
theorem codes_walk (s : Sn) (k : Int) (hk : (Lit.int .i64 k).wf = true) (n : Nat) (hn : n < 18446744073709551616) (a : List UInt8) (ha : a.length ≤ 9223372036854775807) (b : List UInt8) (hb : b.length ≤ 9223372036854775807) (w : World) (hs : Sent s w) :
    Calls Tryd.prog 3 #[.int .i64 k, .int .u64 n, .string (bs a), .string (bs b)] w fun e w' => e = .returned (.bool true) ∧ Below w.heap.size w w' := by
  have HS := Lib.hid hs
  obtain ⟨l, hl⟩ : ∃ l, a.take 300 = l := ⟨_, rfl⟩
  obtain ⟨t, ht⟩ : ∃ t, b.take 300 = t := ⟨_, rfl⟩
  have hll : l.length ≤ 300 := by rw [← hl]; simp; omega
  have htl : t.length ≤ 300 := by rw [← ht]; simp; omega
  obtain ⟨p, c, hp⟩ : ∃ p c, putRes k n = (p, c) := ⟨_, _, rfl⟩
  obtain ⟨x, r, d, hx⟩ : ∃ x r d, getRes k l = (x, r, d) := ⟨_, _, _, rfl⟩
  obtain ⟨u, f, hu⟩ : ∃ u f, putTextRes t = (u, f) := ⟨_, _, rfl⟩
  obtain ⟨v, q, g, hv⟩ : ∃ v q g, textRes l = (v, q, g) := ⟨_, _, _, rfl⟩
  have HA := Lib.hid (fun w => cut300 a ha w)
  have HB := Lib.hid (fun w => cut300 b hb w)
  have HP := Lib.hid (fun w h => put_any s k hk n hn w h)
  have HP2 := Lib.hid (fun w => refPut_any k n hn w)
  have HG := Lib.hid (fun w h => get_any s k hk l w h)
  have HG2 := Lib.hid (fun w => refGet_any k l w)
  have HT := Lib.hid (fun w h => putText_any s t (by omega) w h)
  have HT2 := Lib.hid (fun w => refPutText_any t (by omega) w)
  have HU := Lib.hid (fun w h => getText_any s l w h)
  have HU2 := Lib.hid (fun w => refGetText_any l (by omega) w)
  have HE := Lib.hid (And.intro hl (And.intro ht (And.intro hp (And.intro hx (And.intro hu hv)))))
  clear hs hk hn ha hb hl ht hp hx hu hv hll htl
  go_enter Tryd.func3, Tryd.ntmps3
  go_wp2_with (go_at_call 10; refine (shown_any s w HS.out).mono ?_)
  rintro e w1 ⟨he, b1⟩
  have he2 : e = .returned (.bool true) := by rw [he]
  subst he2
  clear he
  go_wp2_with (go_at_call 11; refine (HP.out w1 (HS.out.more b1)).mono ?_)
  rintro e w2 ⟨he, b2⟩
  have he2 : e = .returned (.tuple #[.string (bs p), .int .i64 c]) := by rw [he, HE.out.2.2.1]
  subst he2
  clear he
  have d2 := below_more b1 b2
  go_wp2_with (go_at_call 12; refine (HP2.out w2).mono ?_)
  rintro e w3 ⟨he, b3⟩
  have he2 : e = .returned (.tuple #[.string (bs p), .int .i64 c]) := by rw [he, HE.out.2.2.1]
  subst he2
  clear he
  have d3 := below_more d2 b3
  go_wp2_with (go_at_call 14; refine (HA.out w3).mono ?_)
  rintro e w4 ⟨he, hw4⟩
  have he2 : e = .returned (.string (bs l)) := by rw [he, HE.out.1]
  subst he2
  clear he
  obtain rfl := hw4
  go_wp2_with (go_at_call 13; refine (HG.out w3 (HS.out.more d3)).mono ?_)
  rintro e w4 ⟨he, b4⟩
  have he2 : e = .returned (.tuple #[.int .u64 (x : Int), .string (bs r), .int .i64 d]) := by rw [he, HE.out.2.2.2.1]
  subst he2
  clear he
  have d4 := below_more d3 b4
  go_wp2_with (go_at_call 14; refine (HA.out w4).mono ?_)
  rintro e w5 ⟨he, hw5⟩
  have he2 : e = .returned (.string (bs l)) := by rw [he, HE.out.1]
  subst he2
  clear he
  obtain rfl := hw5
  go_wp2_with (go_at_call 15; refine (HG2.out w4).mono ?_)
  rintro e w5 ⟨he, b5⟩
  have he2 : e = .returned (.tuple #[.int .u64 (x : Int), .string (bs r), .int .i64 d]) := by rw [he, HE.out.2.2.2.1]
  subst he2
  clear he
  have d5 := below_more d4 b5
  go_wp2_with (go_at_call 14; refine (HB.out w5).mono ?_)
  rintro e w6 ⟨he, hw6⟩
  have he2 : e = .returned (.string (bs t)) := by rw [he, HE.out.2.1]
  subst he2
  clear he
  obtain rfl := hw6
  go_wp2_with (go_at_call 16; refine (HT.out w5 (HS.out.more d5)).mono ?_)
  rintro e w6 ⟨he, b6⟩
  have he2 : e = .returned (.tuple #[.string (bs u), .int .i64 f]) := by rw [he, HE.out.2.2.2.2.1]
  subst he2
  clear he
  have d6 := below_more d5 b6
  go_wp2_with (go_at_call 14; refine (HB.out w6).mono ?_)
  rintro e w7 ⟨he, hw7⟩
  have he2 : e = .returned (.string (bs t)) := by rw [he, HE.out.2.1]
  subst he2
  clear he
  obtain rfl := hw7
  go_wp2_with (go_at_call 17; refine (HT2.out w6).mono ?_)
  rintro e w7 ⟨he, b7⟩
  have he2 : e = .returned (.tuple #[.string (bs u), .int .i64 f]) := by rw [he, HE.out.2.2.2.2.1]
  subst he2
  clear he
  have d7 := below_more d6 b7
  go_wp2_with (go_at_call 14; refine (HA.out w7).mono ?_)
  rintro e w8 ⟨he, hw8⟩
  have he2 : e = .returned (.string (bs l)) := by rw [he, HE.out.1]
  subst he2
  clear he
  obtain rfl := hw8
  go_wp2_with (go_at_call 18; refine (HU.out w7 (HS.out.more d7)).mono ?_)
  rintro e w8 ⟨he, b8⟩
  have he2 : e = .returned (.tuple #[.string (bs v), .string (bs q), .int .i64 g]) := by rw [he, HE.out.2.2.2.2.2]
  subst he2
  clear he
  have d8 := below_more d7 b8
  go_wp2_with (go_at_call 14; refine (HA.out w8).mono ?_)
  rintro e w9 ⟨he, hw9⟩
  have he2 : e = .returned (.string (bs l)) := by rw [he, HE.out.1]
  subst he2
  clear he
  obtain rfl := hw9
  go_wp2_with (go_at_call 19; refine (HU2.out w8).mono ?_)
  rintro e w9 ⟨he, b9⟩
  have he2 : e = .returned (.tuple #[.string (bs v), .string (bs q), .int .i64 g]) := by rw [he, HE.out.2.2.2.2.2]
  subst he2
  clear he
  have d9 := below_more d8 b9
  go_wp2
  go_ret
  exact ⟨rfl, d9⟩

end Go.Proofs.YtpmelbjbkdflgaaDoor
