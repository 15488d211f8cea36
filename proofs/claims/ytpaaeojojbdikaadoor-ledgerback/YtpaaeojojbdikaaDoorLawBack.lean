/- LedgerBack: the walk. -/
import Derived.Test.YtpaaeojojbdikaaDoorLgLaws
namespace Go.Proofs.YtpaaeojojbdikaaDoor
open Go.RowKit Go.Proofs.Cats Go.Proofs.Lgr Go.Shelf Go.Sort

set_option maxRecDepth 100000 in
set_option maxHeartbeats 2000000 in
theorem back_walk (a : Lab) (ha : a.fits) (q n : Int) (ao : Option Addr) (len cap : Nat) (zs : List Ln) (w : World) (hL : Lns w ao len cap zs) (hg : ErrT w) :
    Calls Tryd.prog 5 #[.slice ao len cap, .int .i64 q, .agg #[.int .i64 a.l, .int .u64 a.c, .int .i64 a.i], .int .i64 n] w (TruePost w) := by
  have hB := Below.new w (.cells #[.int .i64 a.l, .int .u64 a.c, .int .i64 a.i] 25)
  have D0 := Lib.hid (Wd.new hg (.cells #[.int .i64 a.l, .int .u64 a.c, .int .i64 a.i] 25))
  have L0 := Lib.hid (hL.more hB)
  have A0 := Lib.hid (La3.new w a)
  have hle := hL.hle
  have hmx := hL.hmax
  clear hB hL hg
  go_enter Tryd.func5, Tryd.ntmps5
  go_wp2_with (go_at_call 11; refine (shown_any _ D0.out.err).mono ?_)
  rintro e w1 ⟨rfl, hb1⟩
  have D1 := Lib.hid (D0.out.more hb1)
  have L1 := Lib.hid (L0.out.more hb1)
  have A1 := Lib.hid (A0.out.more hb1)
  clear hb1
  go_wp2_with (go_at_call 12; refine (few_any ao len cap hle hmx _).mono ?_)
  rintro e w2 ⟨rfl, hb2⟩
  obtain ⟨k, hk⟩ : ∃ k, min len 42 = k := ⟨_, rfl⟩
  obtain ⟨ys, hys⟩ : ∃ ys, zs.take 42 = ys := ⟨_, rfl⟩
  have L2 := (L1.out.more hb2).few 42
  rw [hk, hys] at L2
  rw [hk]
  have hk42 : k ≤ 42 := by omega
  have hyl := L2.hlen
  have D2 := Lib.hid (D1.out.more hb2)
  have A2 := Lib.hid (A1.out.more hb2)
  have L2 := Lib.hid L2
  clear hb2 hys
  obtain ⟨a0, a1, a2⟩ := A2.out
  by_cases hok : ChargeOk ys q a n
  · obtain ⟨r1, r2, r3, r4⟩ := back hok
    have hl1 := charge_len ys q a n
    have hc0 := (charge_iff ys q a n).2 hok
    obtain ⟨⟨bs, c⟩, hbs⟩ : ∃ r, chargeL ys q a n = r := ⟨_, rfl⟩
    rw [hbs] at r1 r2 r3 r4 hl1 hc0
    replace hc0 : c = 0 := hc0
    replace r1 : refundL bs a n = (ys, 0) := r1
    replace r2 : rightL bs = true := r2
    replace r3 : usedL bs a = usedL ys a + n := r3
    replace r4 : totalL bs = totalL ys + n := r4
    replace hl1 : bs.length ≤ ys.length + 1 := hl1
    subst hc0
    obtain ⟨kb, hkb⟩ : ∃ kb, bs.length = kb := ⟨_, rfl⟩
    obtain ⟨h1, h2, h3, h4, h5, h6, _⟩ := hok
    have hur := used_range h1 a
    have htr : 0 ≤ totalL ys ∧ totalL ys ≤ 100000000 := by
      rw [total_right h1]
      have := sum_range ((rightL_iff ys).1 h1).2.1
      omega
    obtain ⟨u, hu⟩ : ∃ u, usedL ys a = u := ⟨_, rfl⟩
    obtain ⟨t, ht⟩ : ∃ t, totalL ys = t := ⟨_, rfl⟩
    rw [hu] at r3 hur h6
    rw [ht] at r4 htr
    have HF := Lib.hid (And.intro r1 (And.intro r2 (And.intro r3 (And.intro r4 (And.intro hu ht)))))
    have HBS := Lib.hid hbs
    have HKB := Lib.hid hkb
    have hkb2 : kb ≤ 43 := by omega
    clear r1 r2 r3 r4 hbs hu ht h1 h2 hl1
    go_wp2_with (go_at_call 23; refine (Charge_p ha HBS.out HKB.out L2.out D2.out.err).mono ?_)
    rintro e w3 ⟨va, vc, rfl, ⟨hl3, _⟩, hb3⟩
    have D3 := Lib.hid (D2.out.more hb3)
    have L3 := Lib.hid (L2.out.more hb3)
    have M3 := Lib.hid hl3
    have A3 := Lib.hid (A2.out.more hb3)
    clear hl3 hb3 a0 a1 a2
    obtain ⟨a0, a1, a2⟩ := A3.out
    go_wp2_with (go_at_call 25; refine (Refund_p ha HF.out.1 hyl M3.out D3.out.err).mono ?_)
    rintro e w4 ⟨vb, vd, rfl, ⟨hl4, _⟩, hb4⟩
    have D4 := Lib.hid (D3.out.more hb4)
    have L4 := Lib.hid (L3.out.more hb4)
    have M4 := Lib.hid (M3.out.more hb4)
    have N4 := Lib.hid hl4
    have A4 := Lib.hid (A3.out.more hb4)
    clear hl4 hb4 a0 a1 a2
    obtain ⟨a0, a1, a2⟩ := A4.out
    have k0 := cell_regrown a0
    have k1 := cell_regrown a1
    have k2 := cell_regrown a2
    have cS := rg_bool (V := w4) fun W hb => Same_p (by omega) (by omega) (sameL_refl ys) (N4.out.more hb) (L4.out.more hb)
    have cR := rg_bool (V := w4) fun W hb => Right_p HF.out.2.1 (M4.out.more hb)
    have cU := rg_int (V := w4) fun W hb => Used_p (by omega) HF.out.2.2.1 (M4.out.more hb)
    have cV := rg_int (V := w4) fun W hb => Used_p (by omega) HF.out.2.2.2.2.1 (L4.out.more hb)
    have cT := rg_int (V := w4) fun W hb => Total_p (by omega) HF.out.2.2.2.1 (M4.out.more hb)
    have cW := rg_int (V := w4) fun W hb => Total_p (by omega) HF.out.2.2.2.2.2 (L4.out.more hb)
    have hw1 : IntKind.i64.wrap (u + n) = u + n := by rw [IntKind.wrap_i64]; omega
    have hw2 : IntKind.i64.wrap (t + n) = t + n := by rw [IntKind.wrap_i64]; omega
    have hw3 : decide (u + n ≤ if q < 0 then 0 else q) = true := decide_eq_true (by rw [if_neg (by omega)]; omega)
    go_wp2_with fail
    refine wp_region_quiet_below (by kernel_rfl) (by kernel_rfl) ?_
    repeat (quiet_step (with_reducible (first | exact cS _ _ | exact cR _ _ | exact cU _ _ | exact cV _ _ | exact cT _ _ | exact cW _ _)))
    refine wpQuiet_nil ?_
    intro _ hw'
    obtain ⟨⟨dq, osq⟩, hw''⟩ := hw'
    subst hw''
    go_wp2
    go_ret
    exact ⟨rfl, below_more D4.out.below (below_regrown w4 dq osq)⟩
  · rcases charge_no hok with hbs | hbs
    · have HBS := Lib.hid hbs
      clear hbs hok
      go_wp2_with (go_at_call 23; refine (Charge_p (k := 0) ha HBS.out rfl L2.out D2.out.err).mono ?_)
      rintro e w3 ⟨va, vc, rfl, _, hb3⟩
      have D3 := Lib.hid (D2.out.more hb3)
      clear hb3
      go_wp2
      go_ret
      exact ⟨rfl, D3.out.below⟩
    · have HBS := Lib.hid hbs
      clear hbs hok
      go_wp2_with (go_at_call 23; refine (Charge_p (k := 0) ha HBS.out rfl L2.out D2.out.err).mono ?_)
      rintro e w3 ⟨va, vc, rfl, _, hb3⟩
      have D3 := Lib.hid (D2.out.more hb3)
      clear hb3
      go_wp2
      go_ret
      exact ⟨rfl, D3.out.below⟩

end Go.Proofs.YtpaaeojojbdikaaDoor
