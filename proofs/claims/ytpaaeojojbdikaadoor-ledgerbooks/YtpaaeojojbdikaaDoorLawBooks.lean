/- LedgerBooks: the walk. -/
import Derived.Test.YtpaaeojojbdikaaDoorLgRef4
namespace Go.Proofs.YtpaaeojojbdikaaDoor
open Go.RowKit Go.Proofs.Cats Go.Proofs.Lgr Go.Shelf Go.Sort

set_option maxRecDepth 100000 in
set_option maxHeartbeats 4000000 in
theorem books_walk (a : Lab) (ha : a.fits) (q n : Int) (ao : Option Addr) (len cap : Nat) (zs : List Ln) (w : World) (hL : Lns w ao len cap zs) (hg : ErrT w) :
    Calls Tryd.prog 4 #[.slice ao len cap, .int .i64 q, .agg #[.int .i64 a.l, .int .u64 a.c, .int .i64 a.i], .int .i64 n] w (TruePost w) := by
  have hB := Below.new w (.cells #[.int .i64 a.l, .int .u64 a.c, .int .i64 a.i] 25)
  have D0 := Lib.hid (Wd.new hg (.cells #[.int .i64 a.l, .int .u64 a.c, .int .i64 a.i] 25))
  have L0 := Lib.hid (hL.more hB)
  have A0 := Lib.hid (La3.new w a)
  have hle := hL.hle
  have hmx := hL.hmax
  clear hB hL hg
  go_enter Tryd.func4, Tryd.ntmps4
  go_wp2_with (go_at_call 11; refine (shown_any _ D0.out.err).mono ?_)
  rintro e w1 ⟨rfl, hb1⟩
  have D1 := Lib.hid (D0.out.more hb1)
  have L1 := Lib.hid (L0.out.more hb1)
  have A1 := Lib.hid (A0.out.more hb1)
  clear hb1
  go_wp2_with (go_at_call 12; refine (few_any ao len cap hle hmx _).mono ?_)
  rintro e w2 ⟨rfl, hb2⟩
  obtain ⟨k, hk⟩ : ∃ k, min len 42 = k := ⟨_, rfl⟩
  obtain ⟨ys, hys⟩ : ∃ ys, zs.take 42 = ys := ⟨_, rfl⟩
  have L2 := (L1.out.more hb2).few 42
  rw [hk, hys] at L2
  rw [hk]
  have hk42 : k ≤ 42 := by omega
  have hyl := L2.hlen
  have D2 := Lib.hid (D1.out.more hb2)
  have A2 := Lib.hid (A1.out.more hb2)
  have L2 := Lib.hid L2
  clear hb2 hys
  obtain ⟨a0, a1, a2⟩ := A2.out
  obtain ⟨⟨bs, ce⟩, hbs⟩ : ∃ r, chargeL ys q a n = r := ⟨_, rfl⟩
  obtain ⟨⟨ds, cf⟩, hds⟩ : ∃ r, refundL ys a n = r := ⟨_, rfl⟩
  have l1 := charge_len ys q a n
  rw [hbs] at l1
  have l2 := refund_len ys a n
  rw [hds] at l2
  obtain ⟨kb, hkb⟩ : ∃ kb, bs.length = kb := ⟨_, rfl⟩
  obtain ⟨kc, hkc⟩ : ∃ kc, ds.length = kc := ⟨_, rfl⟩
  replace l1 : kb ≤ k + 1 := by rw [← hkb, ← hyl]; exact l1
  replace l2 : kc ≤ k + 1 := by rw [← hkc, ← hyl]; exact l2
  have HH := Lib.hid (And.intro hbs (And.intro hkb (And.intro hds hkc)))
  clear hbs hkb hds hkc
  go_wp2_with (go_at_call 23; refine (Charge_p ha HH.out.1 HH.out.2.1 L2.out D2.out.err).mono ?_)
  rintro e w3 ⟨v3, c3, rfl, ⟨hl3, _⟩, hb3⟩
  have D3 := Lib.hid (D2.out.more hb3)
  have L3 := Lib.hid (L2.out.more hb3)
  have P3 := Lib.hid hl3
  have A3 := Lib.hid (A2.out.more hb3)
  clear hl3 hb3 a0 a1 a2
  obtain ⟨a0, a1, a2⟩ := A3.out
  go_wp2_with (go_at_call 24; refine (refCharge_any a ha q n ao k cap ys bs ce kb (by omega) HH.out.1 HH.out.2.1 w3 L3.out).mono ?_)
  rintro e w4 ⟨v4, c4, rfl, ⟨hl4, _⟩, hb4⟩
  have D4 := Lib.hid (D3.out.more hb4)
  have L4 := Lib.hid (L3.out.more hb4)
  have P4 := Lib.hid (P3.out.more hb4)
  have Q4 := Lib.hid hl4
  have A4 := Lib.hid (A3.out.more hb4)
  clear hl4 hb4 a0 a1 a2
  obtain ⟨a0, a1, a2⟩ := A4.out
  go_wp2_with (go_at_call 25; refine (Refund_p ha HH.out.2.2.1 HH.out.2.2.2 L4.out D4.out.err).mono ?_)
  rintro e w5 ⟨v5, c5, rfl, ⟨hl5, _⟩, hb5⟩
  have D5 := Lib.hid (D4.out.more hb5)
  have L5 := Lib.hid (L4.out.more hb5)
  have P5 := Lib.hid (P4.out.more hb5)
  have Q5 := Lib.hid (Q4.out.more hb5)
  have R5 := Lib.hid hl5
  have A5 := Lib.hid (A4.out.more hb5)
  clear hl5 hb5 a0 a1 a2
  obtain ⟨a0, a1, a2⟩ := A5.out
  go_wp2_with (go_at_call 26; refine (refRefund_any a ha n ao k cap ys ds cf kc (by omega) HH.out.2.2.1 HH.out.2.2.2 w5 L5.out).mono ?_)
  rintro e w6 ⟨v6, c6, rfl, ⟨hl6, _⟩, hb6⟩
  have D6 := Lib.hid (D5.out.more hb6)
  have P6 := Lib.hid (P5.out.more hb6)
  have Q6 := Lib.hid (Q5.out.more hb6)
  have R6 := Lib.hid (R5.out.more hb6)
  have S6 := Lib.hid hl6
  clear hl6 hb6 a0 a1 a2
  go_wp2_with (go_at_call 17; refine (refSame_p (by omega) (by omega) (sameL_refl bs) P6.out Q6.out).mono ?_)
  rintro e w7 ⟨rfl, hb7⟩
  have D7 := Lib.hid (D6.out.more hb7)
  have R7 := Lib.hid (R6.out.more hb7)
  have S7 := Lib.hid (S6.out.more hb7)
  clear hb7
  go_wp2_with (go_at_call 17; refine (refSame_p (by omega) (by omega) (sameL_refl ds) R7.out S7.out).mono ?_)
  rintro e w8 ⟨rfl, hb8⟩
  have D8 := Lib.hid (D7.out.more hb8)
  clear hb8
  go_wp2
  go_ret
  exact ⟨rfl, D8.out.below⟩

end Go.Proofs.YtpaaeojojbdikaaDoor
