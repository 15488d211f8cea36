/- LedgerSums: the walk. -/
import Derived.Test.YtpaaeojojbdikaaDoorLgLaws
namespace Go.Proofs.Lgr
open Go.Proofs.Cats
theorem sum_take {l : List Ln} {k : Nat} {x : Ln} (h : l[k]? = some x) : sumL (l.take (k + 1)) = sumL (l.take k) + x.u := by
  obtain ⟨hk, rfl⟩ := List.getElem?_eq_some_iff.1 h
  rw [← List.take_append_getElem hk, sum_append]
  simp [sumL]
end Go.Proofs.Lgr
namespace Go.Proofs.YtpaaeojojbdikaaDoor
open Go.RowKit Go.Proofs.Cats Go.Proofs.Lgr Go.Shelf Go.Sort

theorem topP (w : World) : Calls Tryd.prog 28 #[] w (ValP (.agg #[.int .i64 15, .int .u64 18446744073709551615, .int .i64 0]) w) := top_any w
theorem Seen_top {a1 : Option Addr} {len1 c1 : Nat} {l m : List Ln} {k : Nat} (hr1 : len1 ≤ 1000000) (hb : seenL l Lab.top = m) (hk : m.length = k) {w : World} (h1 : Lns w a1 len1 c1 l) :
    Calls Tryd.prog 18 #[.slice a1 len1 c1, .agg #[.int .i64 15, .int .u64 18446744073709551615, .int .i64 0]] w (SeenP m k w) := by
  have := Seen_p (a := Lab.top) Lab.fits_top hr1 hb hk h1
  rw [top_c] at this
  exact this

set_option maxRecDepth 100000 in
set_option maxHeartbeats 2000000 in
theorem sums_walk (a : Lab) (ha : a.fits) (ao : Option Addr) (len cap : Nat) (zs : List Ln) (w : World) (hL : Lns w ao len cap zs) (hg : ErrT w) :
    Calls Tryd.prog 9 #[.slice ao len cap, .agg #[.int .i64 a.l, .int .u64 a.c, .int .i64 a.i]] w (TruePost w) := by
  have hB := Below.new w (.cells #[.int .i64 a.l, .int .u64 a.c, .int .i64 a.i] 25)
  have D0 := Lib.hid (Wd.new hg (.cells #[.int .i64 a.l, .int .u64 a.c, .int .i64 a.i] 25))
  have L0 := Lib.hid (hL.more hB)
  have A0 := Lib.hid (La3.new w a)
  have hle := hL.hle
  have hmx := hL.hmax
  clear hB hL hg
  go_enter Tryd.func9, Tryd.ntmps9
  go_wp2_with (go_at_call 11; refine (shown_any _ D0.out.err).mono ?_)
  rintro e w1 ⟨rfl, hb1⟩
  have D1 := Lib.hid (D0.out.more hb1)
  have L1 := Lib.hid (L0.out.more hb1)
  have A1 := Lib.hid (A0.out.more hb1)
  clear hb1
  go_wp2_with (go_at_call 12; refine (few_any ao len cap hle hmx _).mono ?_)
  rintro e w2 ⟨rfl, hb2⟩
  obtain ⟨k, hk⟩ : ∃ k, min len 42 = k := ⟨_, rfl⟩
  obtain ⟨ys, hys⟩ : ∃ ys, zs.take 42 = ys := ⟨_, rfl⟩
  have L2 := (L1.out.more hb2).few 42
  rw [hk, hys] at L2
  rw [hk]
  have hk42 : k ≤ 42 := by omega
  have hyl := L2.hlen
  have D2 := Lib.hid (D1.out.more hb2)
  have A2 := Lib.hid (A1.out.more hb2)
  have L2 := Lib.hid L2
  clear hb2 hys
  cases hr : rightL ys with
  | false =>
    have HR := Lib.hid (And.intro hr (show totalL ys = 0 by unfold totalL; rw [hr]; rfl))
    clear hr
    go_wp2_with (go_at_call 13; refine (Right_p HR.out.1 L2.out).mono ?_)
    rintro e w3 ⟨rfl, hb3⟩
    have D3 := Lib.hid (D2.out.more hb3)
    have L3 := Lib.hid (L2.out.more hb3)
    clear hb3
    go_wp2_with (go_at_call 20; refine (Total_p (by omega) HR.out.2 L3.out).mono ?_)
    rintro e w4 ⟨rfl, hb4⟩
    have D4 := Lib.hid (D3.out.more hb4)
    clear hb4
    go_wp2
    go_ret
    exact ⟨rfl, D4.out.below⟩
  | true =>
    obtain ⟨s1, s2, s3⟩ := sums hr a
    have s4 := right_seen hr a
    have s5 := seen_top hr L2.out.hfits
    have hsl : (seenL ys a).length ≤ ys.length := List.length_filter_le _ _
    have s6 := sum_range (l := seenL ys a) ((rightL_iff _).1 s4).2.1
    obtain ⟨ss, hss⟩ : ∃ ss, seenL ys a = ss := ⟨_, rfl⟩
    obtain ⟨t, ht⟩ : ∃ t, totalL ys = t := ⟨_, rfl⟩
    rw [hss] at s1 s2 s3 s4 s6 hsl
    rw [ht] at s3
    obtain ⟨ks, hks⟩ : ∃ ks, ss.length = ks := ⟨_, rfl⟩
    rw [hks] at hsl s6
    have HR := Lib.hid (And.intro hr (And.intro s1 (And.intro s2 (And.intro s4 (And.intro s5 (And.intro hss (And.intro ht hks)))))))
    clear hr s1 s2 s4 s5 hss ht
    go_wp2_with (go_at_call 13; refine (Right_p HR.out.1 L2.out).mono ?_)
    rintro e w3 ⟨rfl, hb3⟩
    have D3 := Lib.hid (D2.out.more hb3)
    have L3 := Lib.hid (L2.out.more hb3)
    obtain ⟨a0, a1, a2⟩ := A2.out.more hb3
    clear hb3
    go_wp2_with (go_at_call 18; refine (Seen_p ha (by omega) HR.out.2.2.2.2.2.1 HR.out.2.2.2.2.2.2.2 L3.out).mono ?_)
    rintro e w4 ⟨va, vc, rfl, ⟨hl4, _⟩, hb4⟩
    have D4 := Lib.hid (D3.out.more hb4)
    have L4 := Lib.hid (L3.out.more hb4)
    have M4 := Lib.hid hl4
    clear hl4 hb4 a0 a1 a2
    go_wp2
    go_loopw [7, 8] (fun s i wr => ∃ j : Nat, j ≤ ks ∧ s = .int .i64 (sumL (ss.take j)) ∧ i = .int .i64 j ∧ Hid (Wd w wr) ∧ Hid (Lns wr ao k cap ys) ∧ Hid (Lns wr va ks vc ss)) (fun _ i _ => ks - (intOf i).toNat)
    case atStart => exact ⟨0, Nat.zero_le _, by simp [sumL], rfl, D4.out, L4.out, M4.out⟩
    case round =>
      obtain ⟨j, hj, rfl, rfl, Dr, Lr, Mr⟩ := hrel
      by_cases hlt : j < ks
      · obtain ⟨x, hx⟩ : ∃ x, ss[j]? = some x := ⟨_, List.getElem?_eq_getElem (by rw [HR.out.2.2.2.2.2.2.2]; exact hlt)⟩
        obtain ⟨b, off, rfl, _, hcs⟩ := Mr.out.at (by omega)
        obtain ⟨q0, q1, q2, _⟩ := hcs j x hx
        have hsx := HR.out.2.1 x (List.mem_of_getElem? hx)
        have hs1 := sum_take hx
        have hr1 := sum_range (l := ss.take j) (fun y hy => ((rightL_iff ss).1 HR.out.2.2.2.1).2.1 y (List.mem_of_mem_take hy))
        have hr2 := (lineOk_iff x).1 (((rightL_iff ss).1 HR.out.2.2.2.1).2.1 x (List.mem_of_getElem? hx))
        have hl2 : (ss.take j).length ≤ 42 := by rw [List.length_take]; omega
        obtain ⟨sj, hsj⟩ : ∃ sj, sumL (ss.take j) = sj := ⟨_, rfl⟩
        rw [hsj] at hs1 hr1
        rw [hsj]
        have hw1 : IntKind.i64.wrap (sj + x.u) = sj + x.u := by rw [IntKind.wrap_i64]; omega
        have hw2 : wrap64 (sj + x.u) = sj + x.u := by unfold wrap64; omega
        have HS := Lib.hid (And.intro hsx hs1)
        clear hsx hs1 hcs hx hsj hr2 hr1 hl2
        go_wp2_with (go_at_call 15; refine (Used_p (by omega) HS.out.1 Lr.out).mono ?_)
        rintro e w5 ⟨rfl, hb5⟩
        have D5 := Lib.hid (Dr.out.more hb5)
        have L5 := Lib.hid (Lr.out.more hb5)
        have M5 := Lib.hid (Mr.out.more hb5)
        clear hb5 q0 q1 q2
        go_wp2
        go_roundw
        case rel => exact ⟨j + 1, by omega, by rw [HS.out.2], by simp, D5.out, L5.out, M5.out⟩
        case measure => simp [intOf]; omega
      · obtain rfl : j = ks := by omega
        have hfull : sumL (ss.take j) = sumL ss := by rw [List.take_of_length_le (by omega)]
        rw [hfull]
        obtain ⟨sn, hsn⟩ : ∃ sn, sumL ss = sn := ⟨_, rfl⟩
        have hsn2 := HR.out.2.2.1
        rw [hsn] at hsn2 s3
        rw [hsn]
        have HT := Lib.hid hsn2
        have hdl : decide (sn ≤ t) = true := decide_eq_true s3
        clear hfull hsn hsn2
        go_wp2_with (go_at_call 28; refine (topP _).mono ?_)
        rintro e w5 ⟨rfl, hb5⟩
        have D5 := Lib.hid (Dr.out.more hb5)
        have L5 := Lib.hid (Lr.out.more hb5)
        have M5 := Lib.hid (Mr.out.more hb5)
        clear hb5
        go_wp2_with (go_at_call 18; refine (Seen_top (by omega) HR.out.2.2.2.2.1 hyl L5.out).mono ?_)
        rintro e w6 ⟨vb, vd, rfl, ⟨hl6, _⟩, hb6⟩
        have D6 := Lib.hid (D5.out.more hb6)
        have L6 := Lib.hid (L5.out.more hb6)
        have M6 := Lib.hid (M5.out.more hb6)
        have N6 := Lib.hid hl6
        clear hb6 hl6
        go_wp2_with (go_at_call 22; refine (Same_p (by omega) (by omega) (sameL_refl ys) N6.out L6.out).mono ?_)
        rintro e w7 ⟨rfl, hb7⟩
        have D7 := Lib.hid (D6.out.more hb7)
        have L7 := Lib.hid (L6.out.more hb7)
        have M7 := Lib.hid (M6.out.more hb7)
        clear hb7
        go_wp2_with (go_at_call 13; refine (Right_p HR.out.2.2.2.1 M7.out).mono ?_)
        rintro e w8 ⟨rfl, hb8⟩
        have D8 := Lib.hid (D7.out.more hb8)
        have L8 := Lib.hid (L7.out.more hb8)
        have M8 := Lib.hid (M7.out.more hb8)
        clear hb8
        go_wp2_with (go_at_call 20; refine (Total_p (by omega) HT.out M8.out).mono ?_)
        rintro e w9 ⟨rfl, hb9⟩
        have D9 := Lib.hid (D8.out.more hb9)
        have L9 := Lib.hid (L8.out.more hb9)
        clear hb9
        go_wp2_with (go_at_call 20; refine (Total_p (by omega) HR.out.2.2.2.2.2.2.1 L9.out).mono ?_)
        rintro e w10 ⟨rfl, hb10⟩
        have D10 := Lib.hid (D9.out.more hb10)
        clear hb10
        go_wp2
        go_ret
        exact ⟨rfl, D10.out.below⟩

end Go.Proofs.YtpaaeojojbdikaaDoor
