/- The document's is: an object? -/
import Derived.Test.YtnbpfbmhheimbaaGreatDoorSpRef2
import Derived.Test.YtnbpfbmhheimbaaGreatDoorRgB
namespace Go.Proofs.YtnbpfbmhheimbaaGreatDoor
open Go.RowKit Go.Proofs.Fld Go.Proofs.Rng Go.Proofs.Spc Go.Shelf Go.Sort

theorem isB_1 {o : Ob} (h : o.k = 1) : isB o = (nameB o.n && (decide (o.d.length ≤ 1000) && decide (o.m = 0) && o.l.isEmpty)) := by unfold isB wholeB; rw [if_pos h]
theorem isB_2 {o : Ob} (h : o.k = 2) : isB o = (nameB o.n && (o.d.isEmpty && rightR o.m o.l)) := by unfold isB wholeB; rw [if_neg (by omega), decide_eq_true h, Bool.true_and]
theorem isB_3 {o : Ob} (h1 : ¬ o.k = 1) (h2 : ¬ o.k = 2) : isB o = false := by unfold isB wholeB; rw [if_neg h1, decide_eq_false h2]; simp
set_option maxRecDepth 100000 in
set_option maxHeartbeats 4000000 in
theorem refIs_any (x : Ov) (hb : Bd x.o) {b : Bool} (hv : isB x.o = b) (w : World) (hx : Lv w x) : Calls Tryz.prog 46 #[.agg #[.string (bs x.o.n), .int .i64 x.o.k, .string (bs x.o.d), .int .i64 x.o.m, .slice x.a x.o.l.length x.c]] w (BoolP b w) := by
  have hB := Below.new w (.cells #[.string (bs x.o.n), .int .i64 x.o.k, .string (bs x.o.d), .int .i64 x.o.m, .slice x.a x.o.l.length x.c] 55)
  have hO := ObAt.new w x 55
  have HL := Lib.hid (And.intro hB (And.intro hO (And.intro (hx.more hB) (And.intro hb.len hb.t))))
  have HC := Lib.hid (refName_any x.o.n (Nat.le_trans hb.n (by omega)) (w.alloc (.cells #[.string (bs x.o.n), .int .i64 x.o.k, .string (bs x.o.d), .int .i64 x.o.m, .slice x.a x.o.l.length x.c] 55)))
  have hz := bs_size x.o.d
  have hq : ((bs x.o.d).toList == []) = x.o.d.isEmpty := by rw [bs_toList]; cases x.o.d <;> rfl
  clear hb hx hB hO
  by_cases h1 : x.o.k = 1
  · have q1 : (x.o.k == 1) = true := by rw [beq_iff_eq]; exact h1
    rw [isB_1 h1] at hv
    clear h1 hq
    cases hn : nameB x.o.n with
    | false =>
      rw [hn, Bool.false_and] at hv
      rw [hn] at HC
      clear hn
      obtain rfl := hv
      go_enter Tryz.func46, Tryz.ntmps46
      go_wp2_with (go_at_call 16; refine HC.out.mono ?_)
      rintro e w1 ⟨rfl, hb1⟩
      obtain ⟨y0, y1, y2, y3, y4⟩ := (HL.out.2.1.more hb1).var
      have HB := Lib.hid (below_more HL.out.1 hb1)
      clear hb1
      go_wp2
      go_ret
      exact ⟨rfl, HB.out⟩
    | true =>
      rw [hn, Bool.true_and] at hv
      by_cases hd : x.o.d.length ≤ 1000
      · have g1 : decide ((x.o.d.length : Int) ≤ 1000) = true := decide_eq_true (by omega)
        rw [decide_eq_true hd, Bool.true_and] at hv
        by_cases hm : x.o.m = 0
        · have g2 : (x.o.m == 0) = true := by simp [hm]
          rw [decide_eq_true hm, Bool.true_and] at hv
          cases hl : x.o.l.isEmpty with
          | true =>
            have g3 : ((x.o.l.length : Int) == 0) = true := by rw [List.isEmpty_iff.1 hl]; rfl
            rw [hl] at hv
            clear hl hm hd
            rw [hn] at HC
            clear hn
            obtain rfl := hv
            go_enter Tryz.func46, Tryz.ntmps46
            go_wp2_with (go_at_call 16; refine HC.out.mono ?_)
            rintro e w1 ⟨rfl, hb1⟩
            obtain ⟨y0, y1, y2, y3, y4⟩ := (HL.out.2.1.more hb1).var
            have HB := Lib.hid (below_more HL.out.1 hb1)
            clear hb1
            go_wp2
            go_ret
            exact ⟨rfl, HB.out⟩
          | false =>
            have g3 : ((x.o.l.length : Int) == 0) = false := by
              cases e : x.o.l with
              | nil => rw [e] at hl; cases hl
              | cons a r => rw [beq_eq_false_iff_ne]; simp only [List.length_cons]; omega
            rw [hl] at hv
            clear hl hm hd
            rw [hn] at HC
            clear hn
            obtain rfl := hv
            go_enter Tryz.func46, Tryz.ntmps46
            go_wp2_with (go_at_call 16; refine HC.out.mono ?_)
            rintro e w1 ⟨rfl, hb1⟩
            obtain ⟨y0, y1, y2, y3, y4⟩ := (HL.out.2.1.more hb1).var
            have HB := Lib.hid (below_more HL.out.1 hb1)
            clear hb1
            go_wp2
            go_ret
            exact ⟨rfl, HB.out⟩
        · have g2 : (x.o.m == 0) = false := by simp [hm]
          rw [decide_eq_false hm, Bool.false_and] at hv
          clear hm hd
          rw [hn] at HC
          clear hn
          obtain rfl := hv
          go_enter Tryz.func46, Tryz.ntmps46
          go_wp2_with (go_at_call 16; refine HC.out.mono ?_)
          rintro e w1 ⟨rfl, hb1⟩
          obtain ⟨y0, y1, y2, y3, y4⟩ := (HL.out.2.1.more hb1).var
          have HB := Lib.hid (below_more HL.out.1 hb1)
          clear hb1
          go_wp2
          go_ret
          exact ⟨rfl, HB.out⟩
      · have g1 : decide ((x.o.d.length : Int) ≤ 1000) = false := decide_eq_false (by omega)
        rw [decide_eq_false hd, Bool.false_and, Bool.false_and] at hv
        clear hd
        rw [hn] at HC
        clear hn
        obtain rfl := hv
        go_enter Tryz.func46, Tryz.ntmps46
        go_wp2_with (go_at_call 16; refine HC.out.mono ?_)
        rintro e w1 ⟨rfl, hb1⟩
        obtain ⟨y0, y1, y2, y3, y4⟩ := (HL.out.2.1.more hb1).var
        have HB := Lib.hid (below_more HL.out.1 hb1)
        clear hb1
        go_wp2
        go_ret
        exact ⟨rfl, HB.out⟩
  · have q1 : (x.o.k == 1) = false := by rw [beq_eq_false_iff_ne]; exact h1
    by_cases h2 : x.o.k = 2
    · have q2 : (x.o.k == 2) = true := by rw [beq_iff_eq]; exact h2
      rw [isB_2 h2] at hv
      clear h1 h2
      cases hn : nameB x.o.n with
      | false =>
        rw [hn, Bool.false_and] at hv
        rw [hn] at HC
        clear hn
        obtain rfl := hv
        go_enter Tryz.func46, Tryz.ntmps46
        go_wp2_with (go_at_call 16; refine HC.out.mono ?_)
        rintro e w1 ⟨rfl, hb1⟩
        obtain ⟨y0, y1, y2, y3, y4⟩ := (HL.out.2.1.more hb1).var
        have HB := Lib.hid (below_more HL.out.1 hb1)
        clear hb1
        go_wp2
        go_ret
        exact ⟨rfl, HB.out⟩
      | true =>
        rw [hn, Bool.true_and] at hv
        cases hd : x.o.d.isEmpty with
        | false =>
          rw [hd] at hq
          rw [hd, Bool.false_and] at hv
          clear hd
          rw [hn] at HC
          clear hn
          obtain rfl := hv
          go_enter Tryz.func46, Tryz.ntmps46
          go_wp2_with (go_at_call 16; refine HC.out.mono ?_)
          rintro e w1 ⟨rfl, hb1⟩
          obtain ⟨y0, y1, y2, y3, y4⟩ := (HL.out.2.1.more hb1).var
          have HB := Lib.hid (below_more HL.out.1 hb1)
          clear hb1
          go_wp2
          go_ret
          exact ⟨rfl, HB.out⟩
        | true =>
          rw [hd] at hq
          rw [hd, Bool.true_and] at hv
          clear hd
          rw [hn] at HC
          clear hn
          go_enter Tryz.func46, Tryz.ntmps46
          go_wp2_with (go_at_call 16; refine HC.out.mono ?_)
          rintro e w1 ⟨rfl, hb1⟩
          obtain ⟨y0, y1, y2, y3, y4⟩ := (HL.out.2.1.more hb1).var
          have HB := Lib.hid (below_more HL.out.1 hb1)
          have HR := Lib.hid (RRight_p HL.out.2.2.2.1 (by have := HL.out.2.2.2.2; omega) hv (HL.out.2.2.1.more hb1).t)
          clear hb1 hv
          go_wp2_with (go_at_call 80; refine HR.out.mono ?_)
          rintro e w2 ⟨rfl, hb2⟩
          replace HB := Lib.hid (below_more HB.out hb2)
          clear hb2
          go_wp2
          go_ret
          exact ⟨rfl, HB.out⟩
    · have q2 : (x.o.k == 2) = false := by rw [beq_eq_false_iff_ne]; exact h2
      rw [isB_3 h1 h2] at hv
      clear h1 h2
      obtain rfl := hv
      go_enter Tryz.func46, Tryz.ntmps46
      go_wp2
      go_ret
      exact ⟨rfl, HL.out.1⟩

end Go.Proofs.YtnbpfbmhheimbaaGreatDoor
