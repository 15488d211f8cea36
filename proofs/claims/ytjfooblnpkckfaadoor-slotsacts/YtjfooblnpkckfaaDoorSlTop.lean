/- Give, Live, Used, as callers see them; nil slots. -/
import Derived.Test.YtjfooblnpkckfaaDoorSlGive
namespace Go.Proofs.YtjfooblnpkckfaaDoor
open Go.RowKit Go.Proofs.Slt Go.Shelf

/-- What give tells. -/
def GiveP (t : Sn) (n0 : Nat) (p : Pl) (st : St) (h : IH) (w : World) (e : Ending) (w' : World) : Prop := ∃ v, ErrIs t v (giveE st h) ∧ e = .returned v ∧ GivePost n0 p st h w w'
def JudP (t : Sn) (st : St) (h : IH) (w : World) (e : Ending) (w' : World) : Prop := e = .returned (judV t st h) ∧ Below w.heap.size w w'
theorem give_any (t : Sn) (n0 : Nat) (p : Pl) (st : St) (h : IH) (w : World) (hc : Ctx t n0 w) (hs : Sl n0 w p st) :
    Calls Tryd.prog 26 #[.pointer (some ⟨p.S, 0, none⟩), .agg #[.int .i64 h.1, .int .i64 h.2]] w (GiveP t n0 p st h w) := by
  by_cases hl : liveR st h = true
  · obtain ⟨i, g, rfl, hi⟩ := (liveR_iff st h).1 hl
    obtain ⟨fr, hs⟩ := hs
    refine (give_ok t n0 p st fr i g w hc hs hi).mono ?_
    rintro e w' ⟨he, hp⟩
    exact ⟨_, by rw [giveE, if_pos hl]; exact .ok, he, hp⟩
  · have hf : liveR st h = false := by simpa using hl
    refine (give_stale t n0 p st h w hc hs hf).mono ?_
    rintro e w' ⟨he, hb⟩
    refine ⟨_, by rw [giveE, if_neg hl]; exact .stale, he, ?_, Fr.of_below hb⟩
    rw [giveS, if_neg hl]
    exact hs.more hb

theorem givePost_more {n0 : Nat} {p : Pl} {st : St} {h : IH} {w w1 W : World} (hb : Below w.heap.size w w1) (hp : GivePost n0 p st h w1 W) : GivePost n0 p st h w W := ⟨hp.1, Fr.trans (Fr.of_below hb) hp.2⟩

set_option maxRecDepth 100000 in
set_option maxHeartbeats 1000000 in
theorem Give_any (t : Sn) (n0 : Nat) (p : Pl) (st : St) (h : IH) (w : World) (hc : Ctx t n0 w) (hs : Sl n0 w p st) :
    Calls Tryd.prog 16 #[.pointer (some ⟨p.S, 0, none⟩), .agg #[.int .i64 h.1, .int .i64 h.2]] w fun e w' => e = .returned (.int .i64 (giveE st h)) ∧ GivePost n0 p st h w w' := by
  have hb := Below.new w (.cells #[.int .i64 h.1, .int .i64 h.2] 32)
  have HH := Lib.hid (And.intro (hc.more hb) (And.intro (hs.more hb) hb))
  clear hc hs hb
  obtain ⟨hs, hg⟩ := h
  go_enter Tryd.func16, Tryd.ntmps16
  go_wp2_with (go_at_call 26; go_loud (refine (give_any t n0 p st (hs, hg) _ HH.out.1 HH.out.2.1).mono ?_))
  rintro e w1 ⟨v, hE, rfl, hP⟩
  have C1 := Lib.hid (HH.out.1.below (HH.out.2.1.below hP.2 HH.out.1.size))
  have HP := Lib.hid (And.intro hE hP)
  clear hE hP
  go_wp2_with (go_at_call 24; go_loud (refine (told_any t HP.out.1 w1 C1.out).mono ?_))
  rintro e w2 ⟨rfl, rfl⟩
  go_wp2
  go_ret
  exact ⟨rfl, givePost_more HH.out.2.2 HP.out.2⟩

theorem judge_p (t : Sn) (n0 b : Nat) (p : Pl) (st : St) (h : IH) (w : World) (hc : Ctx t n0 w) (h0 : w.cell? ⟨b, 0, none⟩ = some (.int .i64 h.1)) (h1 : w.cell? ⟨b, 1, none⟩ = some (.int .i64 h.2)) (hs : Sl n0 w p st) :
    Calls Tryd.prog 25 #[.pointer (some ⟨p.S, 0, none⟩), .slice (some ⟨b, 0, none⟩) 1 1] w (JudP t st h w) := judge_any t n0 b p st h w hc h0 h1 hs
theorem judV_nil {t : Sn} {st : St} {h : IH} {b : Bool} (hl : liveR st h = b) : judV t st h = if b then .nilIface else .iface 113 (.pointer (some t.s)) := by rw [judV, hl]

set_option maxRecDepth 100000 in
set_option maxHeartbeats 1000000 in
theorem Live_any (t : Sn) (n0 : Nat) (p : Pl) (st : St) (h : IH) (w : World) (hc : Ctx t n0 w) (hs : Sl n0 w p st) :
    Calls Tryd.prog 14 #[.pointer (some ⟨p.S, 0, none⟩), .agg #[.int .i64 h.1, .int .i64 h.2]] w fun e w' => e = .returned (.bool (liveR st h)) ∧ Below w.heap.size w w' := by
  have hb := (Below.new w (.cells #[.int .i64 h.1, .int .i64 h.2] 32)).alloc (by simp) (.cells #[.int .i64 h.1, .int .i64 h.2] 32)
  have HH := Lib.hid (And.intro (hc.more hb) (And.intro (hs.more hb) hb))
  clear hc hs hb
  obtain ⟨hs, hg⟩ := h
  obtain ⟨b, hl⟩ : ∃ b, liveR st (hs, hg) = b := ⟨_, rfl⟩
  have HL := Lib.hid (judV_nil (t := t) hl)
  rw [hl]
  clear hl
  go_enter Tryd.func14, Tryd.ntmps14
  go_wp2_with (go_at_call 25; go_loud (refine (judge_p t n0 (w.heap.size + 1) p st (hs, hg) _ HH.out.1 (by simp) (by simp) HH.out.2.1).mono ?_))
  rintro e w1 ⟨he, hb1⟩
  rw [HL.out] at he
  have HB := Lib.hid (below_more HH.out.2.2 hb1)
  clear hb1
  cases b with
  | true =>
    simp only [if_true] at he
    subst he
    go_wp2
    go_ret
    exact ⟨rfl, HB.out⟩
  | false =>
    simp only [Bool.false_eq_true, if_false] at he
    subst he
    go_wp2
    go_ret
    exact ⟨rfl, HB.out⟩

set_option maxHeartbeats 1000000 in
theorem Used_any (n0 : Nat) (p : Pl) (st : St) (w : World) (hs : Sl n0 w p st) :
    Calls Tryd.prog 21 #[.pointer (some ⟨p.S, 0, none⟩)] w fun e w' => e = .returned (.int .i64 ((allR st).length : Int)) ∧ w = w' := by
  obtain ⟨fr, hs⟩ := hs
  have c2 := hs.obj.c2
  clear hs
  go_enter Tryd.func21, Tryd.ntmps21
  go_wp2_with (go_at_call 29; refine (load_any p.S _ w c2).mono ?_; rintro e w' ⟨rfl, rfl⟩)
  go_ret
  exact ⟨rfl, rfl⟩

set_option maxHeartbeats 1000000 in
theorem Take_nil (w : World) : Calls Tryd.prog 12 #[.pointer none] w fun e w' => e = .returned (.tuple #[.agg #[.int .i64 0, .int .i64 0], .int .i64 1]) ∧ Below w.heap.size w w' := by
  go_enter Tryd.func12, Tryd.ntmps12
  go_wp2
  exact bodyPost_ret (v := .tuple #[.agg #[.int .i64 0, .int .i64 0], .int .i64 1]) (by simp [results, Tryd.results12, go_sem]) rfl ⟨rfl, Below.new _ _⟩

set_option maxHeartbeats 1000000 in
theorem Give_nil (a b : Int) (w : World) : Calls Tryd.prog 16 #[.pointer none, .agg #[.int .i64 a, .int .i64 b]] w fun e w' => e = .returned (.int .i64 1) ∧ Below w.heap.size w w' := by
  go_enter Tryd.func16, Tryd.ntmps16
  go_wp2
  go_ret
  exact ⟨rfl, Below.new _ _⟩
set_option maxHeartbeats 1000000 in
theorem Live_nil (a b : Int) (w : World) : Calls Tryd.prog 14 #[.pointer none, .agg #[.int .i64 a, .int .i64 b]] w fun e w' => e = .returned (.bool false) ∧ Below w.heap.size w w' := by
  go_enter Tryd.func14, Tryd.ntmps14
  go_wp2
  go_ret
  exact ⟨rfl, Below.new _ _⟩
set_option maxHeartbeats 1000000 in
theorem Used_nil (w : World) : Calls Tryd.prog 21 #[.pointer none] w fun e w' => e = .returned (.int .i64 0) ∧ w = w' := by
  go_enter Tryd.func21, Tryd.ntmps21
  go_wp2
  go_ret
  exact ⟨rfl, rfl⟩
set_option maxHeartbeats 1000000 in
theorem All_nil (w : World) : Calls Tryd.prog 20 #[.pointer none] w fun e w' => e = .returned (.slice none 0 0) ∧ w = w' := by
  go_enter Tryd.func20, Tryd.ntmps20
  go_wp2
  go_ret
  exact ⟨rfl, rfl⟩

end Go.Proofs.YtjfooblnpkckfaaDoor
