/- LedgerTurns: the walk. -/
import Derived.Test.YtpaaeojojbdikaaDoorLgLaws
namespace Go.Proofs.YtpaaeojojbdikaaDoor
open Go.RowKit Go.Proofs.Cats Go.Proofs.Lgr Go.Shelf Go.Sort

theorem two_la (w : World) (a b : Lab) : La3 ((w.alloc (.cells #[.int .i64 a.l, .int .u64 a.c, .int .i64 a.i] 25)).alloc (.cells #[.int .i64 b.l, .int .u64 b.c, .int .i64 b.i] 25)) w.heap.size a ∧ La3 ((w.alloc (.cells #[.int .i64 a.l, .int .u64 a.c, .int .i64 a.i] 25)).alloc (.cells #[.int .i64 b.l, .int .u64 b.c, .int .i64 b.i] 25)) (w.heap.size + 1) b := by
  refine ⟨(La3.new w a).more (Below.new _ _), ?_⟩
  have := La3.new (w.alloc (.cells #[.int .i64 a.l, .int .u64 a.c, .int .i64 a.i] 25)) b
  rw [World.size_alloc] at this
  exact this
/-- The four answers, as they come. -/
structure Four (ys : List Ln) (q : Int) (a b : Lab) (n m : Int) (c d g i : List Ln) (e f h j : Int) : Prop where
  hc : chargeL ys q a n = (c, e)
  hd : chargeL c q b m = (d, f)
  hg : chargeL ys q b m = (g, h)
  hi : chargeL g q a n = (i, j)
theorem four_at (ys : List Ln) (q : Int) (a b : Lab) (n m : Int) : ∃ c d g i e f h j, Four ys q a b n m c d g i e f h j := ⟨_, _, _, _, _, _, _, _, rfl, rfl, rfl, rfl⟩
theorem four_ends {ys : List Ln} {q : Int} {a b : Lab} {n m : Int} {c d g i : List Ln} {e f h j : Int} (F : Four ys q a b n m c d g i e f h j) (hl : ys.length ≤ 900) : (e = 0 ∧ f = 0 ∧ h = 0 ∧ j = 0 ∧ d = i) ∨ ((e ≠ 0 ∨ f ≠ 0) ∧ (h ≠ 0 ∨ j ≠ 0)) := by
  have hc := F.hc
  have hd := F.hd
  have hg := F.hg
  have hi := F.hi
  have k1 := charge_iff ys q a n
  have k2 := charge_iff c q b m
  have k3 := charge_iff ys q b m
  have k4 := charge_iff g q a n
  rw [hc] at k1
  rw [hd] at k2
  rw [hg] at k3
  rw [hi] at k4
  have T := turns (q := q) (a := a) (b := b) (n := n) (m := m) hl
  rw [hc, hg] at T
  simp only [hd, hi] at T
  rcases T with ⟨t1, t2, t3, t4, t5⟩ | ⟨t1, t2⟩
  · exact .inl ⟨k1.2 t1, k2.2 t2, k3.2 t3, k4.2 t4, t5⟩
  · refine .inr ⟨?_, ?_⟩
    · rcases Int.decEq e 0 with h1 | h1
      · exact .inl h1
      · exact .inr fun h2 => t1 ⟨k1.1 h1, k2.1 h2⟩
    · rcases Int.decEq h 0 with h1 | h1
      · exact .inl h1
      · exact .inr fun h2 => t2 ⟨k3.1 h1, k4.1 h2⟩

set_option maxRecDepth 100000 in
set_option maxHeartbeats 2000000 in
theorem turns_walk (a b : Lab) (ha : a.fits) (hb : b.fits) (q n m : Int) (ao : Option Addr) (len cap : Nat) (zs : List Ln) (w : World) (hL : Lns w ao len cap zs) (hg : ErrT w) :
    Calls Tryd.prog 7 #[.slice ao len cap, .int .i64 q, .agg #[.int .i64 a.l, .int .u64 a.c, .int .i64 a.i], .agg #[.int .i64 b.l, .int .u64 b.c, .int .i64 b.i], .int .i64 n, .int .i64 m] w (TruePost w) := by
  have hB : Below w.heap.size w ((w.alloc (.cells #[.int .i64 a.l, .int .u64 a.c, .int .i64 a.i] 25)).alloc (.cells #[.int .i64 b.l, .int .u64 b.c, .int .i64 b.i] 25)) := (Below.new w _).alloc (by simp) _
  have D0 := Lib.hid (show Wd w _ from ⟨hB, hg.more hB⟩)
  have L0 := Lib.hid (hL.more hB)
  have A0 := Lib.hid (two_la w a b)
  have hle := hL.hle
  have hmx : cap ≤ 9223372036854775807 := by have := hL.hmax; unfold maxLen at this; exact this
  obtain ⟨k, hk⟩ : ∃ k, min len 30 = k := ⟨_, rfl⟩
  have hk30 : k ≤ 30 := by omega
  have hmn : (if (30 : Int) < (len : Int) then (30 : Int) else (len : Int)) = (k : Int) := by split <;> omega
  have hs := slice_first ao len cap k (by omega)
  obtain ⟨ys, hys⟩ : ∃ ys, zs.take 30 = ys := ⟨_, rfl⟩
  clear hB hL hg
  go_enter Tryd.func7, Tryd.ntmps7
  go_wp2_with (go_at_call 11; refine (shown_any _ D0.out.err).mono ?_)
  rintro e w1 ⟨rfl, hb1⟩
  have L1 := (L0.out.more hb1).few 30
  rw [hk, hys] at L1
  have hyl := L1.hlen
  have D1 := Lib.hid (D0.out.more hb1)
  have L1 := Lib.hid L1
  have A1 := Lib.hid (And.intro (A0.out.1.more hb1) (A0.out.2.more hb1))
  clear hb1 hys hk
  obtain ⟨⟨a0, a1, a2⟩, ⟨b0, b1, b2⟩⟩ := A1.out
  obtain ⟨cs, ds, gs, is, ce, cf, ch, cj, F⟩ := four_at ys q a b n m
  have hlc := charge_len ys q a n
  rw [F.hc] at hlc
  have hld := charge_len cs q b m
  rw [F.hd] at hld
  have hlg := charge_len ys q b m
  rw [F.hg] at hlg
  have hli := charge_len gs q a n
  rw [F.hi] at hli
  replace hlc : cs.length ≤ ys.length + 1 := hlc
  replace hld : ds.length ≤ cs.length + 1 := hld
  replace hlg : gs.length ≤ ys.length + 1 := hlg
  replace hli : is.length ≤ gs.length + 1 := hli
  have HE := Lib.hid (four_ends F (by omega))
  have HF := Lib.hid F
  obtain ⟨kc, hkc⟩ : ∃ k, cs.length = k := ⟨_, rfl⟩
  obtain ⟨kd, hkd⟩ : ∃ k, ds.length = k := ⟨_, rfl⟩
  obtain ⟨kg, hkg⟩ : ∃ k, gs.length = k := ⟨_, rfl⟩
  obtain ⟨ki, hki⟩ : ∃ k, is.length = k := ⟨_, rfl⟩
  rw [hkc] at hlc hld
  rw [hkd] at hld
  rw [hkg] at hlg hli
  rw [hki] at hli
  rw [hyl] at hlc hlg
  have HK := Lib.hid (And.intro hkc (And.intro hkd (And.intro hkg hki)))
  clear F hkc hkd hkg hki
  go_wp2_with (go_at_call 23; refine (Charge_p ha HF.out.hc HK.out.1 L1.out D1.out.err).mono ?_)
  rintro e w2 ⟨v2, c2, rfl, ⟨hl2, _⟩, hb2⟩
  have D2 := Lib.hid (D1.out.more hb2)
  have L2 := Lib.hid (L1.out.more hb2)
  have C2 := Lib.hid hl2
  have A2 := Lib.hid (And.intro (A1.out.1.more hb2) (A1.out.2.more hb2))
  clear hl2 hb2 a0 a1 a2 b0 b1 b2
  obtain ⟨⟨a0, a1, a2⟩, ⟨b0, b1, b2⟩⟩ := A2.out
  go_wp2_with (go_at_call 23; refine (Charge_p hb HF.out.hd HK.out.2.1 C2.out D2.out.err).mono ?_)
  rintro e w3 ⟨v3, c3, rfl, ⟨hl3, _⟩, hb3⟩
  have D3 := Lib.hid (D2.out.more hb3)
  have L3 := Lib.hid (L2.out.more hb3)
  have E3 := Lib.hid hl3
  have A3 := Lib.hid (And.intro (A2.out.1.more hb3) (A2.out.2.more hb3))
  clear hl3 hb3 a0 a1 a2 b0 b1 b2
  obtain ⟨⟨a0, a1, a2⟩, ⟨b0, b1, b2⟩⟩ := A3.out
  go_wp2_with (go_at_call 23; refine (Charge_p hb HF.out.hg HK.out.2.2.1 L3.out D3.out.err).mono ?_)
  rintro e w4 ⟨v4, c4, rfl, ⟨hl4, _⟩, hb4⟩
  have D4 := Lib.hid (D3.out.more hb4)
  have E4 := Lib.hid (E3.out.more hb4)
  have G4 := Lib.hid hl4
  have A4 := Lib.hid (And.intro (A3.out.1.more hb4) (A3.out.2.more hb4))
  clear hl4 hb4 a0 a1 a2 b0 b1 b2
  obtain ⟨⟨a0, a1, a2⟩, ⟨b0, b1, b2⟩⟩ := A4.out
  go_wp2_with (go_at_call 23; refine (Charge_p ha HF.out.hi HK.out.2.2.2 G4.out D4.out.err).mono ?_)
  rintro e w5 ⟨v5, c5, rfl, ⟨hl5, _⟩, hb5⟩
  have D5 := Lib.hid (D4.out.more hb5)
  have E5 := Lib.hid (E4.out.more hb5)
  have I5 := Lib.hid hl5
  clear hl5 hb5 a0 a1 a2 b0 b1 b2
  rcases HE.out with ⟨e1, e2, e3, e4, e5⟩ | ⟨e1, e2⟩
  · subst e1 e2 e3 e4
    have HQ := Lib.hid (show sameL ds is = true by rw [e5]; exact sameL_refl _)
    clear e5
    go_wp2_with (go_at_call 22; refine (Same_p (by omega) (by omega) HQ.out E5.out I5.out).mono ?_)
    rintro e w6 ⟨rfl, hb6⟩
    have D6 := Lib.hid (D5.out.more hb6)
    clear hb6
    go_wp2
    go_ret
    exact ⟨rfl, D6.out.below⟩
  · by_cases x1 : ce = 0
    · have x2 : cf ≠ 0 := by omega
      subst x1
      have x3 : (cf != 0) = true := by simp [x2]
      by_cases y1 : ch = 0
      · have y2 : cj ≠ 0 := by omega
        have y3 : (cj != 0) = true := by simp [y2]
        subst y1
        go_wp2
        go_ret
        exact ⟨rfl, D5.out.below⟩
      · have y3 : (ch != 0) = true := by simp [y1]
        go_wp2
        go_ret
        exact ⟨rfl, D5.out.below⟩
    · have x3 : (ce != 0) = true := by simp [x1]
      by_cases y1 : ch = 0
      · have y2 : cj ≠ 0 := by omega
        have y3 : (cj != 0) = true := by simp [y2]
        subst y1
        go_wp2
        go_ret
        exact ⟨rfl, D5.out.below⟩
      · have y3 : (ch != 0) = true := by simp [y1]
        go_wp2
        go_ret
        exact ⟨rfl, D5.out.below⟩

end Go.Proofs.YtpaaeojojbdikaaDoor
