/- LedgerOwn: the walk. -/
import Derived.Test.YtpaaeojojbdikaaDoorLgRef
namespace Go.Proofs.YtpaaeojojbdikaaDoor
open Go.RowKit Go.Proofs.Cats Go.Proofs.Lgr Go.Shelf Go.Sort

/-- A row of lines' cells, whatever they are, in a block from n0 up to n1. -/
def Rw (n0 n1 : Nat) (W : World) (v : Value) (k : Nat) : Prop := (∃ xs, W.ownsRow n0 43 4 v k xs) ∧ ∀ g, v.ownBlock = some g → g < n1
theorem Rw.of {n0 n1 : Nat} {W : World} {v : Value} {l : List Ln} {k : Nat} (h : OwnL n0 W v l) (hk : l.length = k) (hn : W.heap.size ≤ n1) : Rw n0 n1 W v k := by
  unfold OwnL at h
  rw [hk] at h
  exact ⟨⟨_, h⟩, fun g e => Nat.lt_of_lt_of_le (World.ownsRow.lt h g e).2 hn⟩
theorem Rw.more {n0 n1 : Nat} {W W' : World} {v : Value} {k : Nat} (h : Rw n0 n1 W v k) (hb : Below W.heap.size W W') : Rw n0 n1 W' v k := by
  obtain ⟨⟨xs, hx⟩, hl⟩ := h
  refine ⟨⟨xs, hx.1, ?_⟩, hl⟩
  rcases hx.2 with ⟨e, h0⟩ | ⟨g, cap, cur, e, hb', hg, rest⟩
  · exact .inl ⟨e, h0⟩
  · exact .inr ⟨g, cap, cur, e, hb', (hb.block g (Array.getElem?_eq_some_iff.1 hg).1).trans hg, rest⟩
theorem Rw.other {n0 n1 : Nat} {W : World} {v : Value} {k g : Nat} (h : Rw n0 n1 W v k) (hg : g < n0 ∨ n1 ≤ g) (o : Nat) (u : Value) : Rw n0 n1 (W.setCell ⟨g, o, none⟩ u) v k := by
  obtain ⟨⟨xs, hx⟩, hl⟩ := h
  refine ⟨⟨xs, hx.1, ?_⟩, hl⟩
  rcases hx.2 with ⟨e, h0⟩ | ⟨g', cap, cur, e, hb', hg', rest⟩
  · exact .inl ⟨e, h0⟩
  · have h1 := hl g' (by rw [e]; rfl)
    exact .inr ⟨g', cap, cur, e, hb', (Below.heap_setCell _ _ _ _ (fun q => by have q' : g' = g := q; omega)).trans hg', rest⟩
theorem Rw.addr {n0 n1 : Nat} {W : World} {va : Option Addr} {k c : Nat} (h : Rw n0 n1 W (.slice va k c) k) (hk : 0 < k) : ∃ g, (n0 ≤ g ∧ g < n1) ∧ va = some ⟨g, 0, none⟩ := by
  obtain ⟨⟨xs, hx⟩, hl⟩ := h
  rcases hx.2 with ⟨_, h0⟩ | ⟨g', cap, cur, e, hb', hg', rest⟩
  · omega
  · injection e with e1 e2 e3
    subst e1
    exact ⟨g', ⟨hb', hl g' rfl⟩, rfl⟩
theorem Rw.at {n0 n1 : Nat} {W : World} {g k c i : Nat} (h : Rw n0 n1 W (.slice (some ⟨g, 0, none⟩) k c) k) (hi : i < k * 4) : ∃ z, W.cell? ⟨g, i, none⟩ = some z ∧ W.frozen? ⟨g, i, none⟩ = false := by
  obtain ⟨⟨xs, hx⟩, _⟩ := h
  have hlen := hx.1
  exact ⟨xs[i], (World.ownsRow.cellAt hx i hi).trans (List.getElem?_eq_getElem (by omega)), World.ownsRow.frozenAt hx i⟩
theorem Rw.store {n0 n1 : Nat} {W : World} {g k c : Nat} (h : Rw n0 n1 W (.slice (some ⟨g, 0, none⟩) k c) k) (i : Nat) (u : Value) : Rw n0 n1 (W.setCell ⟨g, i, none⟩ u) (.slice (some ⟨g, 0, none⟩) k c) k := by
  obtain ⟨⟨xs, hx⟩, hl⟩ := h
  exact ⟨⟨_, (World.ownsRow.stored hx i u).1⟩, hl⟩
theorem charge_or (l : List Ln) (q : Int) (a : Lab) (n : Int) : (chargeL l q a n).2 = 0 ∨ (chargeL l q a n).1.length = 0 := by
  by_cases k : ChargeOk l q a n
  · exact .inl ((charge_iff _ _ _ _).2 k)
  · rcases charge_no k with e | e <;> rw [e] <;> exact .inr rfl
theorem refund_or (l : List Ln) (a : Lab) (n : Int) : (refundL l a n).2 = 0 ∨ (refundL l a n).1.length = 0 := by
  by_cases k : RefundOk l a n
  · exact .inl ((refund_iff _ _ _).2 k)
  · rcases refund_no k with e | e <;> rw [e] <;> exact .inr rfl
theorem topQ (w : World) : Calls Tryd.prog 28 #[] w (ValP (.agg #[.int .i64 15, .int .u64 18446744073709551615, .int .i64 0]) w) := top_any w
theorem Seen_topQ {a1 : Option Addr} {len1 c1 : Nat} {l m : List Ln} {k : Nat} (hr1 : len1 ≤ 1000000) (hb : seenL l Lab.top = m) (hk : m.length = k) {w : World} (h1 : Lns w a1 len1 c1 l) :
    Calls Tryd.prog 18 #[.slice a1 len1 c1, .agg #[.int .i64 15, .int .u64 18446744073709551615, .int .i64 0]] w (SeenP m k w) := by
  have := Seen_p (a := Lab.top) Lab.fits_top hr1 hb hk h1
  rw [top_c] at this
  exact this

set_option maxRecDepth 100000 in
set_option maxHeartbeats 8000000 in
theorem own_walk (a : Lab) (ha : a.fits) (q n : Int) (ao : Option Addr) (len cap : Nat) (zs : List Ln) (w : World) (hL : Lns w ao len cap zs) (hg : ErrT w) :
    Calls Tryd.prog 8 #[.slice ao len cap, .int .i64 q, .agg #[.int .i64 a.l, .int .u64 a.c, .int .i64 a.i], .int .i64 n] w (TruePost w) := by
  obtain ⟨i0, hi, hz0, hz1, hz2⟩ := info_parts infoLn
  have hB := Below.new w (.cells #[.int .i64 a.l, .int .u64 a.c, .int .i64 a.i] 25)
  have D0 := Lib.hid (Wd.new hg (.cells #[.int .i64 a.l, .int .u64 a.c, .int .i64 a.i] 25))
  have L0 := Lib.hid (hL.more hB)
  have A0 := Lib.hid (La3.new w a)
  have hle := hL.hle
  have hmx := hL.hmax
  clear hB hL hg
  go_enter Tryd.func8, Tryd.ntmps8
  go_wp2_with (go_at_call 11; refine (shown_any _ D0.out.err).mono ?_)
  rintro e w1 ⟨rfl, hb1⟩
  have D1 := Lib.hid (D0.out.more hb1)
  have L1 := Lib.hid (L0.out.more hb1)
  have A1 := Lib.hid (A0.out.more hb1)
  clear hb1
  go_wp2_with (go_at_call 12; refine (few_any ao len cap hle hmx _).mono ?_)
  rintro e w2 ⟨rfl, hb2⟩
  obtain ⟨k, hk⟩ : ∃ k, min len 42 = k := ⟨_, rfl⟩
  obtain ⟨ys, hys⟩ : ∃ ys, zs.take 42 = ys := ⟨_, rfl⟩
  have L2 := (L1.out.more hb2).few 42
  rw [hk, hys] at L2
  rw [hk]
  have hk42 : k ≤ 42 := by omega
  have hyl := L2.hlen
  have hfy := L2.hfits
  have D2 := Lib.hid (D1.out.more hb2)
  have A2 := Lib.hid (A1.out.more hb2)
  have L2 := Lib.hid L2
  have HFY := Lib.hid hfy
  have HNW := Lib.hid (And.intro L2.out.news (And.intro L2.out.nones (show (lcl ys).length = k * 4 by rw [lcl_length, hyl])))
  clear hb2 hys hfy
  go_wp2_with (at_builtin; go_loud (refine wpList_append_some _ rfl _ _ 22 rfl w2.heap.size 43 i0 (.agg #[.int .i64 0, .int .u64 0, .int .i64 0, .int .i64 0]) 4 32 Tryd.underlying22 hi hz0 hz1 hz2 rfl (by decide) (.slice none 0 0) 0 [] rfl (World.ownsRow_nil _ _ _ _) ao k cap (lcl ys) rfl HNW.out.2.2 HNW.out.2.1 HNW.out.1 (lcl_one _) (by unfold maxLen; omega) (by omega) (Nat.le_refl _) ?_))
  rintro v1 w3 ⟨hown, hgrow⟩
  replace hown : w3.ownsRow w2.heap.size 43 4 v1 k (lcl ys) := by simpa using hown
  have hb3 : Below w2.heap.size w2 w3 := row_grown hgrow
  obtain ⟨vw, cw, rfl⟩ := row_slice hown
  have D3 := Lib.hid (D2.out.more hb3)
  have L3 := Lib.hid (L2.out.more hb3)
  have M3 := Lib.hid (OwnL.lns (n0 := w2.heap.size) (show OwnL w2.heap.size w3 (.slice vw k cw) ys by unfold OwnL; rw [hyl]; exact hown) hyl HFY.out)
  have A3 := Lib.hid (A2.out.more hb3)
  clear hown hgrow hb3
  obtain ⟨a0, a1, a2⟩ := A3.out
  obtain ⟨⟨bs, ce⟩, hbs⟩ : ∃ r, chargeL ys q a n = r := ⟨_, rfl⟩
  obtain ⟨⟨ds, cf⟩, hds⟩ : ∃ r, refundL ys a 0 = r := ⟨_, rfl⟩
  obtain ⟨ss, hss⟩ : ∃ ss, seenL ys Lab.top = ss := ⟨_, rfl⟩
  have o1 := charge_or ys q a n
  rw [hbs] at o1
  have o2 := refund_or ys a 0
  rw [hds] at o2
  have l1 := charge_len ys q a n
  rw [hbs] at l1
  have l2 := refund_len ys a 0
  rw [hds] at l2
  have l3 : ss.length ≤ ys.length := by rw [← hss]; exact List.length_filter_le _ _
  obtain ⟨kb, hkb⟩ : ∃ kb, bs.length = kb := ⟨_, rfl⟩
  obtain ⟨kc, hkc⟩ : ∃ kc, ds.length = kc := ⟨_, rfl⟩
  obtain ⟨ks, hks⟩ : ∃ ks, ss.length = ks := ⟨_, rfl⟩
  replace o1 : ce = 0 ∨ kb = 0 := by rw [← hkb]; exact o1
  replace o2 : cf = 0 ∨ kc = 0 := by rw [← hkc]; exact o2
  replace l1 : kb ≤ k + 1 := by rw [← hkb, ← hyl]; exact l1
  replace l2 : kc ≤ k + 1 := by rw [← hkc, ← hyl]; exact l2
  replace l3 : ks ≤ k := by rw [← hks, ← hyl]; exact l3
  have HH := Lib.hid (And.intro hbs (And.intro hkb (And.intro hds (And.intro hkc (And.intro hss hks)))))
  clear hbs hkb hds hkc hss hks
  go_wp2_with (go_at_call 23; refine (Charge_p ha HH.out.1 HH.out.2.1 L3.out D3.out.err).mono ?_)
  rintro e w4 ⟨vb, cb, rfl, ⟨_, ho4⟩, hb4⟩
  obtain ⟨n4, hn4⟩ : ∃ n4, w4.heap.size = n4 := ⟨_, rfl⟩
  have R4 := Lib.hid (Rw.of ho4 HH.out.2.1 (Nat.le_of_eq hn4))
  have L4 := Lib.hid (L3.out.more hb4)
  have E4 := Lib.hid (D3.out.err.more hb4)
  have B4 := Lib.hid hb4
  have s4 : w3.heap.size ≤ n4 := hn4 ▸ hb4.size
  have A4 := Lib.hid (A3.out.more hb4)
  clear ho4 hb4 a0 a1 a2
  obtain ⟨a0, a1, a2⟩ := A4.out
  go_wp2_with (go_at_call 25; refine (Refund_p ha HH.out.2.2.1 HH.out.2.2.2.1 L4.out E4.out).mono ?_)
  rintro e w5 ⟨vd, cc, rfl, ⟨_, ho5⟩, hb5⟩
  obtain ⟨n5, hn5⟩ : ∃ n5, w5.heap.size = n5 := ⟨_, rfl⟩
  rw [hn4] at ho5
  have S5 := Lib.hid (Rw.of ho5 HH.out.2.2.2.1 (Nat.le_of_eq hn5))
  have R5 := Lib.hid (R4.out.more hb5)
  have L5 := Lib.hid (L4.out.more hb5)
  have B5 := Lib.hid (below_more B4.out hb5)
  have s5 : n4 ≤ n5 := hn5 ▸ hn4 ▸ hb5.size
  clear ho5 hb5 a0 a1 a2
  go_wp2_with (go_at_call 28; refine (topQ _).mono ?_)
  rintro e w6 ⟨rfl, hb6⟩
  have S6 := Lib.hid (S5.out.more hb6)
  have R6 := Lib.hid (R5.out.more hb6)
  have L6 := Lib.hid (L5.out.more hb6)
  have B6 := Lib.hid (below_more B5.out hb6)
  have s6 : n5 ≤ w6.heap.size := hn5 ▸ hb6.size
  clear hb6
  go_wp2_with (go_at_call 18; refine (Seen_topQ (by omega) HH.out.2.2.2.2.1 HH.out.2.2.2.2.2 L6.out).mono ?_)
  rintro e w7 ⟨ve, cs, rfl, ⟨_, ho7⟩, hb7⟩
  obtain ⟨n6, hn6⟩ : ∃ n6, w7.heap.size = n6 := ⟨_, rfl⟩
  have P2 := Lib.hid (Rw.of (ho7.mono s6) HH.out.2.2.2.2.2 (Nat.le_of_eq hn6))
  have P1 := Lib.hid (S6.out.more hb7)
  have P0 := Lib.hid (R6.out.more hb7)
  have BB := Lib.hid (below_more B6.out hb7)
  have hl0 : n4 ≤ n4 := Nat.le_refl _
  have hl01 : n4 ≤ n4 := Nat.le_refl _
  have hl02 : n4 ≤ n5 := s5
  have hl12 : n5 ≤ n5 := Nat.le_refl _
  have hl1 : n5 ≤ n5 := Nat.le_refl _
  clear ho7 hb7 hn4 hn5 hn6 s6 L4 L5 L6 R4 R5 R6 S5 S6 B4 B5 B6 E4 A4
  go_wp2
  go_loopw [16] (fun v wr => ∃ j : Nat, j ≤ kb ∧ v = .int .i64 j ∧ Hid (Below w3.heap.size w3 wr) ∧ Hid (Rw w3.heap.size n4 wr (.slice vb kb cb) kb) ∧ Hid (Rw n4 n5 wr (.slice vd kc cc) kc) ∧ Hid (Rw n5 n6 wr (.slice ve ks cs) ks)) (fun v _ => kb - (intOf v).toNat)
  case atStart => exact ⟨0, Nat.zero_le _, rfl, BB.out, P0.out, P1.out, P2.out⟩
  case round =>
    clear BB P0 P1 P2
    obtain ⟨j, hj, rfl, BB, R0, R1, R2⟩ := hrel
    by_cases hlt : j < kb
    · obtain ⟨g, hg, rfl⟩ := R0.out.addr (by omega)
      obtain ⟨z, c3, f3⟩ := R0.out.at (i := j * 4 + 3) (by omega)
      have B1 := Lib.hid (BB.out.setCell (p := ⟨g, j * 4 + 3, none⟩) (by show w3.heap.size ≤ g; omega) (.int .i64 0))
      have Q0 := Lib.hid (R0.out.store (j * 4 + 3) (.int .i64 0))
      have Q1 := Lib.hid (R1.out.other (g := g) (.inl (by omega)) (j * 4 + 3) (.int .i64 0))
      have Q2 := Lib.hid (R2.out.other (g := g) (.inl (by omega)) (j * 4 + 3) (.int .i64 0))
      go_wp2
      go_roundw
      case rel => exact ⟨j + 1, by omega, by simp, B1.out, Q0.out, Q1.out, Q2.out⟩
      case measure => simp [intOf]; omega
    · obtain rfl : kb = j := by omega
      have P0 := R0
      have P1 := R1
      have P2 := R2
      clear R0 R1 R2
      go_wp2
      go_loopw [17] (fun v wr => ∃ j : Nat, j ≤ kc ∧ v = .int .i64 j ∧ Hid (Below w3.heap.size w3 wr) ∧ Hid (Rw w3.heap.size n4 wr (.slice vb kb cb) kb) ∧ Hid (Rw n4 n5 wr (.slice vd kc cc) kc) ∧ Hid (Rw n5 n6 wr (.slice ve ks cs) ks)) (fun v _ => kc - (intOf v).toNat)
      case atStart => exact ⟨0, Nat.zero_le _, rfl, BB.out, P0.out, P1.out, P2.out⟩
      case round =>
        clear BB P0 P1 P2
        obtain ⟨j, hj, rfl, BB, R0, R1, R2⟩ := hrel
        by_cases hlt : j < kc
        · obtain ⟨g, hg, rfl⟩ := R1.out.addr (by omega)
          obtain ⟨z, c3, f3⟩ := R1.out.at (i := j * 4 + 3) (by omega)
          have B1 := Lib.hid (BB.out.setCell (p := ⟨g, j * 4 + 3, none⟩) (by show w3.heap.size ≤ g; omega) (.int .i64 0))
          have Q0 := Lib.hid (R0.out.other (g := g) (.inr (by omega)) (j * 4 + 3) (.int .i64 0))
          have Q1 := Lib.hid (R1.out.store (j * 4 + 3) (.int .i64 0))
          have Q2 := Lib.hid (R2.out.other (g := g) (.inl (by omega)) (j * 4 + 3) (.int .i64 0))
          go_wp2
          go_roundw
          case rel => exact ⟨j + 1, by omega, by simp, B1.out, Q0.out, Q1.out, Q2.out⟩
          case measure => simp [intOf]; omega
        · obtain rfl : kc = j := by omega
          have P0 := R0
          have P1 := R1
          have P2 := R2
          clear R0 R1 R2
          go_wp2
          go_loopw [18] (fun v wr => ∃ j : Nat, j ≤ ks ∧ v = .int .i64 j ∧ Hid (Below w3.heap.size w3 wr) ∧ Hid (Rw w3.heap.size n4 wr (.slice vb kb cb) kb) ∧ Hid (Rw n4 n5 wr (.slice vd kc cc) kc) ∧ Hid (Rw n5 n6 wr (.slice ve ks cs) ks)) (fun v _ => ks - (intOf v).toNat)
          case atStart => exact ⟨0, Nat.zero_le _, rfl, BB.out, P0.out, P1.out, P2.out⟩
          case round =>
            clear BB P0 P1 P2
            obtain ⟨j, hj, rfl, BB, R0, R1, R2⟩ := hrel
            by_cases hlt : j < ks
            · obtain ⟨g, hg, rfl⟩ := R2.out.addr (by omega)
              obtain ⟨z, c3, f3⟩ := R2.out.at (i := j * 4 + 3) (by omega)
              have B1 := Lib.hid (BB.out.setCell (p := ⟨g, j * 4 + 3, none⟩) (by show w3.heap.size ≤ g; omega) (.int .i64 0))
              have Q0 := Lib.hid (R0.out.other (g := g) (.inr (by omega)) (j * 4 + 3) (.int .i64 0))
              have Q1 := Lib.hid (R1.out.other (g := g) (.inr (by omega)) (j * 4 + 3) (.int .i64 0))
              have Q2 := Lib.hid (R2.out.store (j * 4 + 3) (.int .i64 0))
              go_wp2
              go_roundw
              case rel => exact ⟨j + 1, by omega, by simp, B1.out, Q0.out, Q1.out, Q2.out⟩
              case measure => simp [intOf]; omega
            · obtain rfl : ks = j := by omega
              have P0 := R0
              have P1 := R1
              have P2 := R2
              clear R0 R1 R2
              have L9 := Lib.hid (L3.out.more BB.out)
              have M9 := Lib.hid (M3.out.more BB.out)
              go_wp2_with (go_at_call 17; refine (refSame_p (by omega) (by omega) (sameL_refl ys) L9.out M9.out).mono ?_)
              rintro e w9 ⟨rfl, hb9⟩
              have HB9 := Lib.hid (below_more (below_more D3.out.below BB.out) hb9)
              clear hb9
              by_cases e1 : ce = 0
              · have e2 : (ce == 0) = true := by simp [e1]
                by_cases f1 : cf = 0
                · have f2 : (cf == 0) = true := by simp [f1]
                  go_wp2
                  go_ret
                  exact ⟨rfl, HB9.out⟩
                · have f2 : (cf == 0) = false := by simp [f1]
                  obtain rfl : kc = 0 := by omega
                  go_wp2
                  go_ret
                  exact ⟨rfl, HB9.out⟩
              · have e2 : (ce == 0) = false := by simp [e1]
                obtain rfl : kb = 0 := by omega
                by_cases f1 : cf = 0
                · have f2 : (cf == 0) = true := by simp [f1]
                  go_wp2
                  go_ret
                  exact ⟨rfl, HB9.out⟩
                · have f2 : (cf == 0) = false := by simp [f1]
                  obtain rfl : kc = 0 := by omega
                  go_wp2
                  go_ret
                  exact ⟨rfl, HB9.out⟩

end Go.Proofs.YtpaaeojojbdikaaDoor
