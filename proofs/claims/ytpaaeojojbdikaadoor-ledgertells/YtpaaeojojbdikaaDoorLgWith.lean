/- with: the ledger in which a label has that much; the booker's judge. -/
import Derived.Test.YtpaaeojojbdikaaDoorLgConcat
namespace Go.Proofs.YtpaaeojojbdikaaDoor
open Go.RowKit Go.Proofs.Cats Go.Proofs.Lgr Go.Shelf Go.Sort

theorem two_new (W : World) (u v : Value) (t : TypeId) : (W.alloc (.cells #[u, v] t)).cell? ⟨W.heap.size, 0, none⟩ = some u ∧ (W.alloc (.cells #[u, v] t)).cell? ⟨W.heap.size, 1, none⟩ = some v := by
  constructor <;> simp
theorem row_grown {w w' : World} (h : w.grownBy w' none) : Below w.heap.size w w' := ⟨h.os, h.tape, h.output, h.size, fun k hk => h.block k hk (by simp)⟩
/-- A booker in memory. -/
def Bk (W : World) (B : Nat) (ao : Option Addr) (len cap : Nat) (a : Lab) : Prop := W.cell? ⟨B, 0, none⟩ = some (.slice ao len cap) ∧ W.cell? ⟨B, 1, none⟩ = some (.int .i64 a.l) ∧ W.cell? ⟨B, 2, none⟩ = some (.int .u64 a.c) ∧ W.cell? ⟨B, 3, none⟩ = some (.int .i64 a.i)
theorem Bk.new (W : World) (ao : Option Addr) (len cap : Nat) (a : Lab) : Bk (W.alloc (.cells #[.slice ao len cap, .int .i64 a.l, .int .u64 a.c, .int .i64 a.i] 60)) W.heap.size ao len cap a := ⟨by simp, by simp, by simp, by simp⟩
theorem Bk.more {W W' : World} {B : Nat} {ao : Option Addr} {len cap : Nat} {a : Lab} (h : Bk W B ao len cap a) (k : Below W.heap.size W W') : Bk W' B ao len cap a := ⟨cell_later k h.1, cell_later k h.2.1, cell_later k h.2.2.1, cell_later k h.2.2.2⟩

set_option maxRecDepth 100000 in
set_option maxHeartbeats 4000000 in
theorem with_any (a : Lab) (ha : a.fits) (u : Int) (ao : Option Addr) (len cap : Nat) (zs : List Ln) (hreach : len ≤ 1000) (w : World) (hL : Lns w ao len cap zs) :
    Calls Tryd.prog 53 #[.agg #[.slice ao len cap, .int .i64 a.l, .int .u64 a.c, .int .i64 a.i], .int .i64 u] w (SeqP (withL zs a u) w) := by
  obtain ⟨i0, hi, hz0, hz1, hz2⟩ := info_parts infoLn
  have hB := Below.new w (.cells #[.slice ao len cap, .int .i64 a.l, .int .u64 a.c, .int .i64 a.i] 60)
  have HL := Lib.hid (And.intro (hL.more hB) (And.intro hB (Bk.new w ao len cap a)))
  have hbl := bef_le zs a
  have hcl := cutE_le zs a
  rw [hL.hlen] at hbl hcl
  have HC := Lib.hid (cut_any a ao len cap zs (by omega) _ HL.out.1)
  unfold CutP at HC
  have HP := Lib.hid (with_parts zs a u)
  have HL1 := Lib.hid (HL.out.1.take (bef zs a) (bef zs a) hbl (Nat.le_refl _) (Nat.le_trans hbl hL.hle))
  have HL2 := Lib.hid (HL.out.1.from (cutE zs a) hcl)
  obtain ⟨s, hs⟩ : ∃ s, bef zs a = s := ⟨_, rfl⟩
  obtain ⟨c, hc⟩ : ∃ c, cutE zs a = c := ⟨_, rfl⟩
  obtain ⟨ys, hys⟩ : ∃ ys, withL zs a u = ys := ⟨_, rfl⟩
  obtain ⟨a2, ha2⟩ : ∃ a2, fromA ao c len = a2 := ⟨_, rfl⟩
  obtain ⟨k2, hk2⟩ : ∃ k2, len - c = k2 := ⟨_, rfl⟩
  rw [hs, hc, ha2, hk2] at HC
  rw [hs, hc, hys] at HP
  rw [hs] at HL1 hbl
  rw [hc, ha2, hk2] at HL2
  rw [hys]
  clear hs hc hL hB hys ha2
  by_cases hu : 0 < u
  · have HU := Lib.hid (show newL a u = [⟨a, u⟩] by unfold newL; rw [if_pos hu])
    go_enter Tryd.func53, Tryd.ntmps53
    go_wp2_with (go_at_call 61; refine HC.out.mono ?_)
    rintro e w1 ⟨rfl, hb1⟩
    have HB1 := Lib.hid (below_more HL.out.2.1 hb1)
    obtain ⟨b0, b1, b2, b3⟩ := HL.out.2.2.more hb1
    have hN := Below.new w1 (.cells #[.int .i64 a.l, .int .u64 a.c, .int .i64 a.i, .int .i64 u] 43)
    have HA1 := Lib.hid (And.intro ((HL1.out.more hb1).more hN).news (And.intro HL1.out.nones (show (lcl (zs.take s)).length = s * 4 by rw [lcl_length, HL1.out.hlen])))
    have HA2 := Lib.hid ((HL2.out.more hb1).more hN)
    have HNL := Lib.hid (And.intro (ln_new w1 ⟨a, u⟩) (below_more HB1.out hN))
    clear hb1 hN
    go_wp2_with (at_builtin; go_loud (refine wpList_append_grows _ rfl _ _ 51 rfl 43 i0 (.agg #[.int .i64 0, .int .u64 0, .int .i64 0, .int .i64 0]) 4 32 Tryd.underlying51 hi hz0 hz1 hz2 rfl (by decide) ao s s (lcl (zs.take s)) rfl HA1.out.2.1 HA1.out.2.2 HA1.out.1 ⟨w1.heap.size, 0, none⟩ 1 1 (cells4 ⟨a, u⟩) rfl rfl HNL.out.1 (by simp [cells4, Value.oneCell']) (by omega) (by unfold maxLen; omega) (by omega) ?_))
    intro v' w5 hown hgrow
    obtain ⟨g', cap', rfl⟩ := ownsRow_succ hown
    have hbg := row_grown hgrow
    have hlt : (zs.take s ++ [(⟨a, u⟩ : Ln)]).length = s + 1 := by rw [List.length_append, HL1.out.hlen]; rfl
    have hO : OwnL (w1.alloc (.cells #[.int .i64 a.l, .int .u64 a.c, .int .i64 a.i, .int .i64 u] 43)).heap.size w5 (.slice (some ⟨g', 0, none⟩) (s + 1) cap') (zs.take s ++ [⟨a, u⟩]) := by
      unfold OwnL
      rw [hlt, lcl_append, World.size_alloc]
      exact hown
    have hO1 := hO.lns hlt (fun x hx => by
      rcases List.mem_append.1 hx with h | h
      · exact HL1.out.hfits x h
      · obtain rfl : x = ⟨a, u⟩ := by simpa using h
        exact ha)
    have hO2 := HA2.out.more hbg
    have hT := Below.new w5 (.cells #[.slice (some ⟨g', 0, none⟩) (s + 1) cap', .slice a2 k2 k2] 51)
    have HT := Lib.hid (And.intro (hO1.more hT) (And.intro (hO2.more hT) (And.intro (two_new w5 (.slice (some ⟨g', 0, none⟩) (s + 1) cap') (.slice a2 k2 k2) 51) (below_more (below_more HNL.out.2 hbg) hT))))
    clear hown hgrow hbg hO hO1 hO2 hT
    go_wp2_with (go_at_call 62; refine (concat_any w5.heap.size _ _ _ _ _ _ _ _ (by omega) (by omega) _ HT.out.2.2.1.1 HT.out.2.2.1.2 HT.out.1 HT.out.2.1).mono ?_)
    rintro e w6 ⟨va, vc, rfl, hF, hb6⟩
    rw [← HU.out, ← HP.out] at hF ⊢
    have hsz : w.heap.size ≤ (w5.alloc (.cells #[.slice (some ⟨g', 0, none⟩) (s + 1) cap', .slice a2 k2 k2] 51)).heap.size := HT.out.2.2.2.size
    have HF := Lib.hid (And.intro (hF.mono hsz) (below_more HT.out.2.2.2 hb6))
    clear hF hb6 hsz
    go_wp2
    go_ret
    exact ⟨va, vc, rfl, HF.out⟩
  · have HU := Lib.hid (show newL a u = [] by unfold newL; rw [if_neg hu])
    have hd : decide (u > 0) = false := decide_eq_false hu
    go_enter Tryd.func53, Tryd.ntmps53
    go_wp2_with (go_at_call 61; refine HC.out.mono ?_)
    rintro e w1 ⟨rfl, hb1⟩
    have hT := Below.new w1 (.cells #[.slice ao s s, .slice a2 k2 k2] 51)
    have HT := Lib.hid (And.intro ((HL1.out.more hb1).more hT) (And.intro ((HL2.out.more hb1).more hT) (And.intro (two_new w1 (.slice ao s s) (.slice a2 k2 k2) 51) (below_more (below_more HL.out.2.1 hb1) hT))))
    clear hb1 hT
    go_wp2_with (go_at_call 62; refine (concat_any w1.heap.size _ _ _ _ _ _ _ _ (by omega) (by omega) _ HT.out.2.2.1.1 HT.out.2.2.1.2 HT.out.1 HT.out.2.1).mono ?_)
    rintro e w6 ⟨va, vc, rfl, hF, hb6⟩
    have hpp := HP.out
    rw [HU.out, List.append_nil] at hpp
    rw [← hpp] at hF ⊢
    have hsz : w.heap.size ≤ (w1.alloc (.cells #[.slice ao s s, .slice a2 k2 k2] 51)).heap.size := HT.out.2.2.2.size
    have HF := Lib.hid (And.intro (hF.mono hsz) (below_more HT.out.2.2.2 hb6))
    clear hF hb6 hsz hpp
    go_wp2
    go_ret
    exact ⟨va, vc, rfl, HF.out⟩

set_option maxRecDepth 100000 in
set_option maxHeartbeats 1000000 in
theorem bkJudge_any (a : Lab) (ha : a.fits) (ao : Option Addr) (len cap : Nat) (zs : List Ln) (w : World) (hL : Lns w ao len cap zs) :
    Calls Tryd.prog 52 #[.agg #[.slice ao len cap, .int .i64 a.l, .int .u64 a.c, .int .i64 a.i]] w (JudgeP (rightL zs && a.right) w) := by
  have hB := Below.new w (.cells #[.slice ao len cap, .int .i64 a.l, .int .u64 a.c, .int .i64 a.i] 60)
  have HL := Lib.hid (And.intro (hL.more hB) (And.intro hB (Bk.new w ao len cap a)))
  clear hL hB
  go_enter Tryd.func52, Tryd.ntmps52
  go_wp2_with (go_at_call 30; refine (lgJudge_any ao len cap zs _ HL.out.1).mono ?_)
  rintro e w1 ⟨⟨hr, rfl⟩ | ⟨hr, s, rfl⟩, hb1⟩
  · obtain ⟨b0, b1, b2, b3⟩ := HL.out.2.2.more hb1
    have HB1 := Lib.hid (And.intro hr (below_more HL.out.2.1 hb1))
    clear hr hb1
    go_wp2_with (go_at_call 43; refine (right_any a ha _).mono ?_)
    rintro e w2 ⟨he, hb2⟩
    have HB2 := Lib.hid (below_more HB1.out.2 hb2)
    clear hb2
    cases har : a.right with
    | true =>
      rw [har] at he
      subst he
      go_wp2
      go_ret
      exact ⟨.inl ⟨by rw [HB1.out.1, har]; rfl, rfl⟩, HB2.out⟩
    | false =>
      rw [har] at he
      subst he
      go_wp2
      go_ret
      exact ⟨.inr ⟨by rw [har, Bool.and_false], _, rfl⟩, HB2.out⟩
  · have HB1 := Lib.hid (And.intro hr (below_more HL.out.2.1 hb1))
    clear hr hb1
    rw [flt]
    go_wp2
    go_ret
    exact ⟨.inr ⟨by rw [HB1.out.1]; rfl, _, rfl⟩, HB1.out.2⟩

end Go.Proofs.YtpaaeojojbdikaaDoor
