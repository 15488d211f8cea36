/- FieldOrders, walked: for every width and two numbers it returns true. -/
import Derived.Test.YtpmelbjbkdflgaaDoorLawWidths
namespace Go.Proofs.YtpmelbjbkdflgaaDoor
open Go.RowKit Go.Shelf Go.Proofs.Fld

attribute [local go_sem] bs_toList

/-- What Put answers, by its parts: what is told, and the bytes. -/
theorem putRes_cases (k : Int) (n : Nat) : (∃ m : Nat, k = m ∧ isW (m : Int) ∧ n < 256 ^ m ∧ putRes k n = (enc m n, 0)) ∨ (∃ c : Int, c ≠ 0 ∧ (c == 0) = false ∧ (c != 0) = true ∧ putRes k n = ([], c)) := by
  by_cases h : isW k
  · obtain ⟨m, rfl, _, _⟩ := isW_le h
    by_cases hn : n < 256 ^ m
    · exact .inl ⟨m, rfl, h, hn, putRes_ok h hn⟩
    · exact .inr ⟨31, by decide, rfl, rfl, putRes_great h hn⟩
  · exact .inr ⟨2, by decide, rfl, rfl, putRes_bad h⟩

set_option maxRecDepth 100000 in
set_option maxHeartbeats 1000000 in
theorem orders_walk (s : Sn) (k : Int) (hk : (Lit.int .i64 k).wf = true) (n : Nat) (hn : n < 18446744073709551616) (m : Nat) (hm : m < 18446744073709551616) (w : World) (hs : Sent s w) :
    Calls Tryd.prog 9 #[.int .i64 k, .int .u64 n, .int .u64 m] w fun e w' => e = .returned (.bool true) ∧ Below w.heap.size w w' := by
  have HS := Lib.hid hs
  have HP := Lib.hid (fun w h => put_any s k hk n hn w h)
  have HQ := Lib.hid (fun w h => put_any s k hk m hm w h)
  clear hs hk hn hm
  have hee : (bs []).toList.isEmpty = true := by rw [bs_toList]; rfl
  rcases putRes_cases k n with ⟨p, rfl, hp, hpn, e1⟩ | ⟨c, hc, hc1, hc2, e1⟩
  · rcases putRes_cases p m with ⟨q, hpq, hq, hqm, e2⟩ | ⟨d, hd, hd1, hd2, e2⟩
    · obtain rfl : p = q := by omega
      obtain ⟨x, hx⟩ : ∃ x, enc p n = x := ⟨_, rfl⟩
      obtain ⟨y, hy⟩ : ∃ y, enc p m = y := ⟨_, rfl⟩
      have hless := enc_less p n m hpn hqm
      have hinj : x = y → n = m := fun h => enc_inj hpn hqm (by rw [hx, hy, h])
      have hsame : n = m → x = y := fun h => by rw [← hx, ← hy, h]
      rw [hx] at e1 hless
      rw [hy] at e2 hless
      have HE := Lib.hid (And.intro e1 e2)
      clear e1 e2 hx hy hp hq hpq hpn hqm
      rcases Nat.lt_trichotomy n m with h | h | h
      · have hl : Op.bytesLess x y = true := by rw [hless]; simpa using h
        have h2 : (n : Int) < m := by omega
        have h3 : (x == y) = false := by rw [beq_eq_false_iff_ne]; intro e; have := hinj e; omega
        have h4 : ((n : Int) == m) = false := by rw [beq_eq_false_iff_ne]; omega
        have h5 : (n : Int) ≠ m := by omega
        have h6 : n ≠ m := by omega
        clear hless hinj hsame
        go_enter Tryd.func9, Tryd.ntmps9
        go_wp2_with (go_at_call 10; refine (shown_any s w HS.out).mono ?_)
        rintro e w1 ⟨rfl, b1⟩
        go_wp2_with (go_at_call 11; refine (HP.out w1 (HS.out.more b1)).mono ?_)
        rintro e w2 ⟨he, b2⟩
        have he2 : e = .returned (.tuple #[.string (bs x), .int .i64 0]) := by rw [he, HE.out.1]
        subst he2
        clear he
        have c2 := below_more b1 b2
        go_wp2_with (go_at_call 11; refine (HQ.out w2 (HS.out.more c2)).mono ?_)
        rintro e w3 ⟨he, b3⟩
        have he2 : e = .returned (.tuple #[.string (bs y), .int .i64 0]) := by rw [he, HE.out.2]
        subst he2
        clear he
        go_wp2
        go_ret
        exact ⟨rfl, below_more c2 b3⟩
      · subst h
        obtain rfl := hsame rfl
        have hl : Op.bytesLess x x = false := by rw [hless]; simp
        clear hless hinj hsame
        go_enter Tryd.func9, Tryd.ntmps9
        go_wp2_with (go_at_call 10; refine (shown_any s w HS.out).mono ?_)
        rintro e w1 ⟨rfl, b1⟩
        go_wp2_with (go_at_call 11; refine (HP.out w1 (HS.out.more b1)).mono ?_)
        rintro e w2 ⟨he, b2⟩
        have he2 : e = .returned (.tuple #[.string (bs x), .int .i64 0]) := by rw [he, HE.out.1]
        subst he2
        clear he
        have c2 := below_more b1 b2
        go_wp2_with (go_at_call 11; refine (HQ.out w2 (HS.out.more c2)).mono ?_)
        rintro e w3 ⟨he, b3⟩
        have he2 : e = .returned (.tuple #[.string (bs x), .int .i64 0]) := by rw [he, HE.out.2]
        subst he2
        clear he
        go_wp2
        go_ret
        exact ⟨rfl, below_more c2 b3⟩
      · have hl : Op.bytesLess x y = false := by rw [hless]; simp; omega
        have H2 := Lib.hid h
        have h3 : (x == y) = false := by rw [beq_eq_false_iff_ne]; intro e; have := hinj e; omega
        have h4 : ((n : Int) == m) = false := by rw [beq_eq_false_iff_ne]; omega
        have h5 : (n : Int) ≠ m := by omega
        have h6 : n ≠ m := by omega
        clear hless hinj hsame h
        go_enter Tryd.func9, Tryd.ntmps9
        go_wp2_with (go_at_call 10; refine (shown_any s w HS.out).mono ?_)
        rintro e w1 ⟨rfl, b1⟩
        go_wp2_with (go_at_call 11; refine (HP.out w1 (HS.out.more b1)).mono ?_)
        rintro e w2 ⟨he, b2⟩
        have he2 : e = .returned (.tuple #[.string (bs x), .int .i64 0]) := by rw [he, HE.out.1]
        subst he2
        clear he
        have c2 := below_more b1 b2
        go_wp2_with (go_at_call 11; refine (HQ.out w2 (HS.out.more c2)).mono ?_)
        rintro e w3 ⟨he, b3⟩
        have he2 : e = .returned (.tuple #[.string (bs y), .int .i64 0]) := by rw [he, HE.out.2]
        subst he2
        clear he
        have h2 : decide (n < m) = false := by
          have := H2.out
          simp
          omega
        go_wp2
        go_ret
        exact ⟨rfl, below_more c2 b3⟩
    · have HE := Lib.hid (And.intro e1 e2)
      clear e1 e2 hp hpn
      go_enter Tryd.func9, Tryd.ntmps9
      go_wp2_with (go_at_call 10; refine (shown_any s w HS.out).mono ?_)
      rintro e w1 ⟨rfl, b1⟩
      go_wp2_with (go_at_call 11; refine (HP.out w1 (HS.out.more b1)).mono ?_)
      rintro e w2 ⟨he, b2⟩
      have he2 : e = .returned (.tuple #[.string (bs (enc p n)), .int .i64 0]) := by rw [he, HE.out.1]
      subst he2
      clear he
      have c2 := below_more b1 b2
      go_wp2_with (go_at_call 11; refine (HQ.out w2 (HS.out.more c2)).mono ?_)
      rintro e w3 ⟨he, b3⟩
      have he2 : e = .returned (.tuple #[.string { data := #[] }, .int .i64 d]) := by rw [he, HE.out.2]; rfl
      subst he2
      clear he
      go_wp2
      go_ret
      exact ⟨rfl, below_more c2 b3⟩
  · rcases putRes_cases k m with ⟨q, rfl, hq, hqm, e2⟩ | ⟨d, hd, hd1, hd2, e2⟩
    · have HE := Lib.hid (And.intro e1 e2)
      clear e1 e2 hq hqm
      go_enter Tryd.func9, Tryd.ntmps9
      go_wp2_with (go_at_call 10; refine (shown_any s w HS.out).mono ?_)
      rintro e w1 ⟨rfl, b1⟩
      go_wp2_with (go_at_call 11; refine (HP.out w1 (HS.out.more b1)).mono ?_)
      rintro e w2 ⟨he, b2⟩
      have he2 : e = .returned (.tuple #[.string { data := #[] }, .int .i64 c]) := by rw [he, HE.out.1]; rfl
      subst he2
      clear he
      have c2 := below_more b1 b2
      go_wp2_with (go_at_call 11; refine (HQ.out w2 (HS.out.more c2)).mono ?_)
      rintro e w3 ⟨he, b3⟩
      have he2 : e = .returned (.tuple #[.string (bs (enc q m)), .int .i64 0]) := by rw [he, HE.out.2]
      subst he2
      clear he
      go_wp2
      go_ret
      exact ⟨rfl, below_more c2 b3⟩
    · have HE := Lib.hid (And.intro e1 e2)
      clear e1 e2
      go_enter Tryd.func9, Tryd.ntmps9
      go_wp2_with (go_at_call 10; refine (shown_any s w HS.out).mono ?_)
      rintro e w1 ⟨rfl, b1⟩
      go_wp2_with (go_at_call 11; refine (HP.out w1 (HS.out.more b1)).mono ?_)
      rintro e w2 ⟨he, b2⟩
      have he2 : e = .returned (.tuple #[.string { data := #[] }, .int .i64 c]) := by rw [he, HE.out.1]; rfl
      subst he2
      clear he
      have c2 := below_more b1 b2
      go_wp2_with (go_at_call 11; refine (HQ.out w2 (HS.out.more c2)).mono ?_)
      rintro e w3 ⟨he, b3⟩
      have he2 : e = .returned (.tuple #[.string { data := #[] }, .int .i64 d]) := by rw [he, HE.out.2]; rfl
      subst he2
      clear he
      go_wp2
      go_ret
      exact ⟨rfl, below_more c2 b3⟩

end Go.Proofs.YtpmelbjbkdflgaaDoor
