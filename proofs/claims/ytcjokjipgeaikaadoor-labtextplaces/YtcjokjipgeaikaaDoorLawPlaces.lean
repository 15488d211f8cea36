/- LabtextPlaces: the walk. -/
import Derived.Test.YtcjokjipgeaikaaDoorLawBack
namespace Go.Proofs.YtcjokjipgeaikaaDoor
open Go.RowKit Go.Shelf Go.Proofs.Fld Go.Proofs.Tx Go.Proofs.Cats

attribute [local go_sem] bs_toList

set_option maxRecDepth 100000 in
set_option maxHeartbeats 2000000 in
theorem places_ok (ga : Addr) (s : List UInt8) (hs : s.length ≤ 9223372036854775807) (y : Lab) (h : lab (s.take 300) = (some y, [])) (w : World) (hE : Env ga w) : Calls Tryd.prog 6 #[.string (bs s)] w (TruePost w) := by
  have HE := Lib.hid hE
  have HX := Lib.hid h
  have hcl : (s.take 300).length ≤ 4611686018427387904 := by rw [List.length_take]; omega
  clear hE h
  go_enter Tryd.func6, Tryd.ntmps6
  go_wp2_with fail
  refine (shown_any ga _ HE.out).mono ?_
  rintro e w1 ⟨rfl, hb1⟩
  have HB1 := Lib.hid hb1
  clear hb1
  go_wp2_with fail
  refine (cut_any s hs _).mono ?_
  rintro e w' ⟨rfl, rfl⟩
  go_wp2_with fail
  refine (parse_of HX.out hcl _ (HE.out.more HB1.out)).mono ?_
  rintro e w2 ⟨rfl, hb2⟩
  have HB2 := Lib.hid (below_more (below_more HB1.out hb2) (Below.new w2 (.cells #[.int .i64 y.l, .int .u64 (y.c : Int), .int .i64 y.i] 24)))
  clear hb2
  go_wp2
  go_ret
  exact ⟨rfl, HB2.out⟩

/-- What begins a label's text: it is one, or wrong at its end. -/
def BeginPost (p : List UInt8) (w : World) (e : Ending) (w' : World) : Prop :=
  ∃ (y : Lab) (k g : Int), e = .returned (.tuple #[.agg #[.int .i64 y.l, .int .u64 (y.c : Int), .int .i64 y.i], .int .i64 k, .int .i64 g]) ∧ (g = 0 ∨ g = 50 ∧ k = (p.length : Int)) ∧ Below w.heap.size w w'
theorem parse_begin (ga : Addr) (p : List UInt8) (hp : p.length ≤ 4611686018427387904) (h : (lab p).2 = []) (w : World) (hE : Env ga w) :
    Calls Tryd.prog 13 #[.string (bs p)] w (BeginPost p w) := by
  obtain ⟨⟨o, r⟩, hx⟩ : ∃ z, lab p = z := ⟨_, rfl⟩
  rw [hx] at h
  replace h : r = [] := h
  subst h
  cases o with
  | none =>
    refine (parse_no hx hp w hE).mono ?_
    rintro e w' ⟨he, hb⟩
    refine ⟨Lab.zero, (p.length : Int), 50, ?_, Or.inr ⟨rfl, rfl⟩, hb⟩
    rw [he]
    rfl
  | some y =>
    refine (parse_of hx hp w hE).mono ?_
    rintro e w' ⟨he, hb⟩
    exact ⟨y, 0, 0, he, Or.inl rfl, hb⟩

set_option maxRecDepth 100000 in
set_option maxHeartbeats 2000000 in
theorem places_no (ga : Addr) (s t p q : List UInt8) (hs : s.length ≤ 9223372036854775807) (ht : s.take 300 = t) (hpq : t = p ++ q) (h : lab t = (none, q)) (w : World) (hE : Env ga w) : Calls Tryd.prog 6 #[.string (bs s)] w (TruePost w) := by
  have HE := Lib.hid hE
  have HX := Lib.hid h
  have htl : t.length ≤ 300 := by rw [← ht, List.length_take]; omega
  have hlen : t.length = p.length + q.length := by rw [hpq, List.length_append]
  have hpl := places p q (by rw [← hpq]; exact h)
  have hbs := bs_size
  have htk : t.take p.length = p := by rw [hpq]; simp
  have hu1 := str_upto t p.length (by omega)
  rw [htk] at hu1
  have HT := Lib.hid ht
  have e1 : t.length - q.length = p.length := by omega
  have HE1 := Lib.hid e1
  have HP1 := Lib.hid (parse_begin ga p (by omega) hpl.1)
  have q1 : ¬ (p.length : Int) < 0 := by omega
  have HPQ := Lib.hid hpq
  clear hE h e1 ht htk
  cases q with
  | nil =>
    have hpt : p.length = t.length := by rw [hlen]; simp
    have hmin : min ((p.length : Int) + 1) (t.length : Int) = (t.length : Int) := by omega
    have hu2 := str_upto t t.length (Nat.le_refl _)
    rw [List.take_length] at hu2
    have q2 : ¬ (t.length : Int) < (p.length : Int) := by omega
    have q3 : ((p.length : Int) == (t.length : Int)) = true := by rw [hpt]; simp
    have HPT := Lib.hid hpt
    clear hpl hlen hpt hpq
    go_enter Tryd.func6, Tryd.ntmps6
    go_wp2_with fail
    refine (shown_any ga _ HE.out).mono ?_
    rintro e w1 ⟨rfl, hb1⟩
    have HB1 := Lib.hid hb1
    clear hb1
    go_wp2_with fail
    refine (cut_any s hs _).mono ?_
    rintro e w' ⟨rfl, rfl⟩
    rw [HT.out]
    go_wp2_with fail
    refine (parse_no HX.out (by omega) _ (HE.out.more HB1.out)).mono ?_
    rintro e w2 ⟨rfl, hb2⟩
    rw [HE1.out]
    have HB2 := Lib.hid (below_more (below_more HB1.out hb2) (Below.new w2 (.cells #[.int .i64 0, .int .u64 0, .int .i64 0] 24)))
    clear hb2
    go_wp2_with fail
    refine (HP1.out _ (HE.out.more HB2.out)).mono ?_
    rintro e w3 ⟨y, k, g, rfl, hkg, hb3⟩
    have HB3 := Lib.hid (below_more (below_more HB2.out hb3) (Below.new w3 (.cells #[.int .i64 y.l, .int .u64 (y.c : Int), .int .i64 y.i] 24)))
    clear hb3
    go_wp2_with fail
    refine (parse_no HX.out (by omega) _ (HE.out.more HB3.out)).mono ?_
    rintro e w4 ⟨rfl, hb4⟩
    have HB4 := Lib.hid (below_more (below_more HB3.out hb4) (Below.new w4 (.cells #[.int .i64 0, .int .u64 0, .int .i64 0] 24)))
    clear hb4
    rcases hkg with hg0 | ⟨hg1, hk⟩
    · subst hg0
      go_wp2
      go_ret
      exact ⟨rfl, HB4.out⟩
    · have q5 : (g == 0) = false := by rw [hg1]; rfl
      subst hk
      clear hg1
      go_wp2
      go_ret
      exact ⟨rfl, HB4.out⟩
  | cons b q =>
    have HX2 := Lib.hid (hpl.2 b q rfl)
    have hu2 := str_upto t (p.length + 1) (by rw [hlen]; simp)
    have htk2 : t.take (p.length + 1) = p ++ [b] := by
      rw [hpq, show p.length + 1 = (p ++ [b]).length by simp, show p ++ b :: q = (p ++ [b]) ++ q by simp]
      exact List.take_left
    rw [htk2, show ((p.length + 1 : Nat) : Int) = (p.length : Int) + 1 by omega] at hu2
    have hlt : p.length < t.length := by rw [hlen]; simp
    have hmin : min ((p.length : Int) + 1) (t.length : Int) = (p.length : Int) + 1 := by omega
    have HTL := Lib.hid (show (p ++ [b]).length - [b].length = p.length by rw [List.length_append]; simp)
    have HTM := Lib.hid (show (p ++ [b]).length ≤ 4611686018427387904 by rw [List.length_append]; simp; omega)
    have q2 : ¬ (t.length : Int) < (p.length : Int) := by omega
    have q3 : ((p.length : Int) == (t.length : Int)) = false := by rw [beq_eq_false_iff_ne]; omega
    clear hpl hlen htk2 hpq
    go_enter Tryd.func6, Tryd.ntmps6
    go_wp2_with fail
    refine (shown_any ga _ HE.out).mono ?_
    rintro e w1 ⟨rfl, hb1⟩
    have HB1 := Lib.hid hb1
    clear hb1
    go_wp2_with fail
    refine (cut_any s hs _).mono ?_
    rintro e w' ⟨rfl, rfl⟩
    rw [HT.out]
    go_wp2_with fail
    refine (parse_no HX.out (by omega) _ (HE.out.more HB1.out)).mono ?_
    rintro e w2 ⟨rfl, hb2⟩
    rw [HE1.out]
    have HB2 := Lib.hid (below_more (below_more HB1.out hb2) (Below.new w2 (.cells #[.int .i64 0, .int .u64 0, .int .i64 0] 24)))
    clear hb2
    go_wp2_with fail
    refine (HP1.out _ (HE.out.more HB2.out)).mono ?_
    rintro e w3 ⟨y, k, g, rfl, hkg, hb3⟩
    have HB3 := Lib.hid (below_more (below_more HB2.out hb3) (Below.new w3 (.cells #[.int .i64 y.l, .int .u64 (y.c : Int), .int .i64 y.i] 24)))
    clear hb3
    go_wp2_with fail
    refine (parse_no HX2.out HTM.out _ (HE.out.more HB3.out)).mono ?_
    rintro e w4 ⟨rfl, hb4⟩
    rw [HTL.out]
    have HB4 := Lib.hid (below_more (below_more HB3.out hb4) (Below.new w4 (.cells #[.int .i64 0, .int .u64 0, .int .i64 0] 24)))
    clear hb4
    rcases hkg with hg0 | ⟨hg1, hk⟩
    · subst hg0
      go_wp2
      go_ret
      exact ⟨rfl, HB4.out⟩
    · have q5 : (g == 0) = false := by rw [hg1]; rfl
      subst hk
      clear hg1
      go_wp2
      go_ret
      exact ⟨rfl, HB4.out⟩

theorem places_walk (ga : Addr) (s : List UInt8) (hs : s.length ≤ 9223372036854775807) (w : World) (hE : Env ga w) : Calls Tryd.prog 6 #[.string (bs s)] w (TruePost w) := by
  obtain ⟨⟨o, r⟩, hx⟩ : ∃ z, lab (s.take 300) = z := ⟨_, rfl⟩
  cases o with
  | none =>
    obtain ⟨p, hp⟩ := good_lab.suf (s.take 300)
    rw [hx] at hp
    exact places_no ga s (s.take 300) p r hs rfl hp hx w hE
  | some y =>
    obtain ⟨rfl, _⟩ := lab_some hx
    exact places_ok ga s hs y hx w hE

end Go.Proofs.YtcjokjipgeaikaaDoor
