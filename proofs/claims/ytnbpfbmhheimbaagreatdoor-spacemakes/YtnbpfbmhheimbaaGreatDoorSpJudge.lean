/- judge: is it an object, behind the one ahead of it? -/
import Derived.Test.YtnbpfbmhheimbaaGreatDoorSpName
import Derived.Test.YtnbpfbmhheimbaaGreatDoorSpTold
import Derived.Test.YtnbpfbmhheimbaaGreatDoorFlC
namespace Go.Proofs.YtnbpfbmhheimbaaGreatDoor
open Go.RowKit Go.Proofs.Fld Go.Proofs.Rng Go.Proofs.Spc Go.Shelf Go.Sort

attribute [local go_sem] bs_toList

/-- What the walks lean on: the sentinels of rings, errors.errorType. -/
structure Ev (s : Sn) (w : World) : Prop where
  sent : Sent s w
  et : Fi.ErrT w
theorem Ev.more {s : Sn} {A B : World} (h : Ev s A) (k : Below A.heap.size A B) : Ev s B := ⟨h.sent.more k, h.et.more k⟩
theorem Ev.sp {s : Sn} {w : World} (h : Ev s w) : Sp.ErrT w := h.et
/-- An object of some bound. -/
structure Bd (o : Ob) : Prop where
  t : takes o.l ≤ 100000
  n : o.n.length ≤ 100000
  d : o.d.length ≤ 100000
theorem Bd.len {o : Ob} (h : Bd o) : o.l.length ≤ 1000000 := by have := items_le_takes o.l; have := h.t; omega

theorem isFile_ok {d : It} (h : d.length ≤ 1000) : Fil.errR (Fil.readR d 0 0) = 0 := by
  have e : Fil.readR d ((0 : Nat) : Int) ((0 : Nat) : Int) = some ((d.drop 0).take 0) := Fil.readR_of (Nat.zero_le _) h
  rw [show Fil.readR d 0 0 = _ from e]
  rfl
theorem isFile_no {d : It} (h : ¬ d.length ≤ 1000) : Fil.errR (Fil.readR d 0 0) = 90 := by
  have : Fil.readR d 0 0 = none := by
    unfold Fil.readR Fil.okAt
    rw [if_neg (fun q => h q.1.1)]
  rw [this]
  rfl
set_option maxHeartbeats 1000000 in
theorem isFile_any {s : Sn} (d : It) (w : World) (hs : Ev s w) : Calls Tryz.prog 136 #[.string (bs d)] w (BoolP (decide (d.length ≤ 1000)) w) := by
  by_cases h : d.length ≤ 1000
  · have HC := Lib.hid (Fi.Read_p (s := d) (o := 0) (n := 0) rfl rfl (isFile_ok h) hs.et)
    rw [decide_eq_true h]
    clear h hs
    go_enter Tryz.func136, Tryz.ntmps136
    go_wp2_with (go_at_call 66; refine HC.out.mono ?_)
    rintro e w1 ⟨rfl, hb1⟩
    have HB := Lib.hid hb1
    clear hb1
    go_wp2
    go_ret
    exact ⟨rfl, HB.out⟩
  · have HC := Lib.hid (Fi.Read_p (s := d) (o := 0) (n := 0) rfl rfl (isFile_no h) hs.et)
    rw [decide_eq_false h]
    clear h hs
    go_enter Tryz.func136, Tryz.ntmps136
    go_wp2_with (go_at_call 66; refine HC.out.mono ?_)
    rintro e w1 ⟨rfl, hb1⟩
    have HB := Lib.hid hb1
    clear hb1
    go_wp2
    go_ret
    exact ⟨rfl, HB.out⟩

theorem whole_1 {o : Ob} (h : o.k = 1) : wholeB o = (decide (o.d.length ≤ 1000) && sameR o.m o.l 0 []) := by
  unfold wholeB
  rw [if_pos h, Bool.and_assoc]
  congr 1
  unfold sameR sameT
  cases o.l with
  | nil => simp
  | cons a r => simp
theorem whole_2 {o : Ob} (h : o.k = 2) : wholeB o = (decide (o.d = []) && rightR o.m o.l) := by
  unfold wholeB
  rw [if_neg (by omega), h]
  cases hd : o.d with
  | nil => simp
  | cons a r => simp
theorem whole_3 {o : Ob} (h1 : o.k ≠ 1) (h2 : o.k ≠ 2) : wholeB o = false := by
  unfold wholeB
  rw [if_neg h1, decide_eq_false h2]
  rfl
set_option maxHeartbeats 2000000 in
theorem whole_any {s : Sn} (x : Ov) (hb : Bd x.o) (w : World) (hs : Ev s w) (hx : Lv w x) : Calls Tryz.prog 121 #[.agg #[.string (bs x.o.n), .int .i64 x.o.k, .string (bs x.o.d), .int .i64 x.o.m, .slice x.a x.o.l.length x.c]] w (BoolP (wholeB x.o) w) := by
  have hB := Below.new w (.cells #[.string (bs x.o.n), .int .i64 x.o.k, .string (bs x.o.d), .int .i64 x.o.m, .slice x.a x.o.l.length x.c] 55)
  have hO := ObAt.new w x 55
  have HL := Lib.hid (And.intro hB (And.intro (hx.more hB) (And.intro (hs.more hB) (And.intro hb.len (And.intro hb.t hO)))))
  clear hb hs hx hB hO
  by_cases h1 : x.o.k = 1
  · have HW := Lib.hid (whole_1 h1)
    have q1 : (x.o.k == 1) = true := by rw [beq_iff_eq]; exact h1
    clear h1
    cases hd : decide (x.o.d.length ≤ 1000) with
    | false =>
      have HD := Lib.hid hd
      clear hd
      go_enter Tryz.func121, Tryz.ntmps121
      go_wp2_with (go_at_call 136; refine (isFile_any x.o.d _ HL.out.2.2.1).mono ?_)
      rintro e w1 ⟨he, hb1⟩
      rw [HD.out] at he
      subst he
      have HB := Lib.hid (below_more HL.out.1 hb1)
      clear hb1
      go_wp2
      go_ret
      exact ⟨by rw [HW.out, HD.out]; rfl, HB.out⟩
    | true =>
      have HD := Lib.hid hd
      clear hd
      go_enter Tryz.func121, Tryz.ntmps121
      go_wp2_with (go_at_call 136; refine (isFile_any x.o.d _ HL.out.2.2.1).mono ?_)
      rintro e w1 ⟨he, hb1⟩
      rw [HD.out] at he
      subst he
      obtain ⟨x0, x1, x2, x3, x4⟩ := (HL.out.2.2.2.2.2.more hb1).var
      have HB := Lib.hid (And.intro (below_more HL.out.1 hb1) (HL.out.2.1.more hb1))
      clear hb1
      go_wp2_with (go_at_call 52; refine (Same_p (m1 := x.o.m) (m2 := 0) (l := x.o.l) (l' := []) HL.out.2.2.2.1 (by decide) rfl HB.out.2.t (Txs.nil _)).mono ?_)
      rintro e w2 ⟨rfl, hb2⟩
      have HB2 := Lib.hid (below_more HB.out.1 hb2)
      clear hb2
      go_wp2
      go_ret
      exact ⟨by rw [HW.out, HD.out]; rfl, HB2.out⟩
  · have q1 : (x.o.k == 1) = false := by rw [beq_eq_false_iff_ne]; exact h1
    by_cases h2 : x.o.k = 2
    · have HW := Lib.hid (whole_2 h2)
      have q2 : (x.o.k == 2) = true := by rw [beq_iff_eq]; exact h2
      by_cases hd : x.o.d = []
      · have HD := Lib.hid hd
        have q3 : (x.o.d == []) = true := by rw [beq_iff_eq]; exact hd
        have q4 : x.o.d.isEmpty = true := by rw [hd]; rfl
        clear hd h1 h2
        obtain ⟨x0, x1, x2, x3, x4⟩ := HL.out.2.2.2.2.2.var
        go_enter Tryz.func121, Tryz.ntmps121
        go_wp2_with (go_at_call 137; refine (Right_p (m := x.o.m) (zs := x.o.l) HL.out.2.2.2.1 (by have := HL.out.2.2.2.2.1; omega) rfl HL.out.2.1.t HL.out.2.2.1.sent).mono ?_)
        rintro e w2 ⟨rfl, hb2⟩
        have HB2 := Lib.hid (below_more HL.out.1 hb2)
        clear hb2
        go_wp2
        go_ret
        exact ⟨by rw [HW.out, decide_eq_true HD.out]; rfl, HB2.out⟩
      · have HD := Lib.hid hd
        have q3 : (x.o.d == []) = false := by rw [beq_eq_false_iff_ne]; exact hd
        have q4 : x.o.d.isEmpty = false := by cases e : x.o.d with
          | nil => exact absurd e hd
          | cons a r => rfl
        clear hd h1 h2
        go_enter Tryz.func121, Tryz.ntmps121
        go_wp2
        go_ret
        exact ⟨by rw [HW.out, decide_eq_false HD.out]; rfl, HL.out.1⟩
    · have HW := Lib.hid (whole_3 h1 h2)
      have q2 : (x.o.k == 2) = false := by rw [beq_eq_false_iff_ne]; exact h2
      clear h1 h2
      go_enter Tryz.func121, Tryz.ntmps121
      go_wp2
      go_ret
      exact ⟨by rw [HW.out]; rfl, HL.out.1⟩

/-- What judge tells. -/
def JdP (b : Bool) (w : World) (e : Ending) (w' : World) : Prop := ((b = true ∧ e = .returned .nilIface) ∨ (b = false ∧ ∃ s, e = .returned (Sp.flt 110 s))) ∧ Below w.heap.size w w'
set_option maxHeartbeats 2000000 in
theorem spJudge_any {s : Sn} (x : Ov) (hb : Bd x.o) (a : It) (w : World) (hs : Ev s w) (hx : Lv w x) : Calls Tryz.prog 103 #[.agg #[.string (bs x.o.n), .int .i64 x.o.k, .string (bs x.o.d), .int .i64 x.o.m, .slice x.a x.o.l.length x.c], .string (bs a)] w (JdP (nextB a x.o) w) := by
  have hB := Below.new w (.cells #[.string (bs x.o.n), .int .i64 x.o.k, .string (bs x.o.d), .int .i64 x.o.m, .slice x.a x.o.l.length x.c] 55)
  have hO := ObAt.new w x 55
  have HL := Lib.hid (And.intro hB (And.intro (hx.more hB) (And.intro (hs.more hB) (And.intro hb hO))))
  have HN := Lib.hid (show nextB a x.o = (nameB x.o.n && ltB a x.o.n && wholeB x.o) from rfl)
  have hle := leB_not x.o.n a
  have hle2 : (Op.bytesLess x.o.n a || x.o.n == a) = !ltB a x.o.n := hle
  clear hb hs hx hB hO hle
  cases h1 : nameB x.o.n with
  | false =>
    have H1 := Lib.hid h1
    clear h1
    go_enter Tryz.func103, Tryz.ntmps103
    go_wp2_with (go_at_call 14; refine (isName_any x.o.n HL.out.2.1.hn _).mono ?_)
    rintro e w1 ⟨he, hb1⟩
    rw [H1.out] at he
    subst he
    have HB := Lib.hid (below_more HL.out.1 hb1)
    clear hb1
    go_wp2
    go_ret
    exact ⟨.inr ⟨by rw [HN.out, H1.out]; rfl, _, rfl⟩, HB.out⟩
  | true =>
    have H1 := Lib.hid h1
    clear h1
    cases h2 : ltB a x.o.n with
    | false =>
      rw [h2] at hle2
      have H2 := Lib.hid h2
      clear h2
      go_enter Tryz.func103, Tryz.ntmps103
      go_wp2_with (go_at_call 14; refine (isName_any x.o.n HL.out.2.1.hn _).mono ?_)
      rintro e w1 ⟨he, hb1⟩
      rw [H1.out] at he
      subst he
      obtain ⟨x0, x1, x2, x3, x4⟩ := (HL.out.2.2.2.2.more hb1).var
      have HB := Lib.hid (below_more HL.out.1 hb1)
      clear hb1
      go_wp2
      go_ret
      exact ⟨.inr ⟨by rw [HN.out, H1.out, H2.out]; rfl, _, rfl⟩, HB.out⟩
    | true =>
      rw [h2] at hle2
      have H2 := Lib.hid h2
      clear h2
      go_enter Tryz.func103, Tryz.ntmps103
      go_wp2_with (go_at_call 14; refine (isName_any x.o.n HL.out.2.1.hn _).mono ?_)
      rintro e w1 ⟨he, hb1⟩
      rw [H1.out] at he
      subst he
      obtain ⟨x0, x1, x2, x3, x4⟩ := (HL.out.2.2.2.2.more hb1).var
      have HB := Lib.hid (And.intro (below_more HL.out.1 hb1) (And.intro (HL.out.2.1.more hb1) (HL.out.2.2.1.more hb1)))
      clear hb1
      go_wp2_with (go_at_call 121; refine (whole_any x HL.out.2.2.2.1 _ HB.out.2.2 HB.out.2.1).mono ?_)
      rintro e w2 ⟨he, hb2⟩
      have HB2 := Lib.hid (below_more HB.out.1 hb2)
      clear hb2
      cases h3 : wholeB x.o with
      | false =>
        rw [h3] at he
        subst he
        have H3 := Lib.hid h3
        clear h3
        go_wp2
        go_ret
        exact ⟨.inr ⟨by rw [HN.out, H1.out, H2.out, H3.out]; rfl, _, rfl⟩, HB2.out⟩
      | true =>
        rw [h3] at he
        subst he
        have H3 := Lib.hid h3
        clear h3
        go_wp2
        go_ret
        exact ⟨.inl ⟨by rw [HN.out, H1.out, H2.out, H3.out]; rfl, rfl⟩, HB2.out⟩

end Go.Proofs.YtnbpfbmhheimbaaGreatDoor
