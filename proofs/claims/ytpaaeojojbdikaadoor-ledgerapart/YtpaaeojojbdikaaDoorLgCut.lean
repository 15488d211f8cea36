/- cut: what is ahead of a line, and what is behind it. -/
import Derived.Test.YtpaaeojojbdikaaDoorLgSame
namespace Go.Proofs.Lgr
open Go.Proofs.Cats
/-- Where what is behind begins. -/
def cutE (zs : List Ln) (a : Lab) : Nat := match zs[bef zs a]? with
  | none => bef zs a
  | some x => if x.a.same a then bef zs a + 1 else bef zs a
theorem cutE_none {zs : List Ln} {a : Lab} (h : bef zs a = zs.length) : cutE zs a = zs.length := by
  unfold cutE; rw [List.getElem?_eq_none (by omega)]; exact h
theorem cutE_some {zs : List Ln} {a : Lab} {x : Ln} (h : zs[bef zs a]? = some x) : cutE zs a = if x.a.same a then bef zs a + 1 else bef zs a := by
  unfold cutE; rw [h]
theorem cutE_le (zs : List Ln) (a : Lab) : cutE zs a ≤ zs.length := by
  have := bef_le zs a
  unfold cutE
  cases h : zs[bef zs a]? with
  | none => exact this
  | some x =>
    have := (List.getElem?_eq_some_iff.1 h).1
    simp only
    split <;> omega
theorem with_parts (zs : List Ln) (a : Lab) (n : Int) : withL zs a n = zs.take (bef zs a) ++ newL a n ++ zs.drop (cutE zs a) := by
  rw [with_cut]
  unfold cutE
  cases h : zs[bef zs a]? with
  | none =>
    have := List.getElem?_eq_none_iff.1 h
    simp only
    rw [List.drop_eq_nil_of_le this]
  | some x =>
    simp only
    split <;> rfl
end Go.Proofs.Lgr
namespace Go.Proofs.YtpaaeojojbdikaaDoor
open Go.RowKit Go.Proofs.Cats Go.Proofs.Lgr Go.Shelf Go.Sort

/-- The address of what is behind e. -/
def fromA (ao : Option Addr) (e len : Nat) : Option Addr := if len = e then ao else ao.map (·.add (e * 4))
theorem elemT : Tryd.prog.elem 51 = 43 := by kernel_rfl
theorem sizeLn (w : World) : (sizeOf 43).run Tryd.prog w = .ok 4 w := by
  obtain ⟨i0, hi, hz0, hz1, hz2⟩ := info_parts infoLn
  simp [sizeOf, typeInfo, hi, hz1]
theorem add_zero' (x : Addr) : x.add 0 = x := by simp [Addr.add]
theorem slice_upto (ao : Option Addr) (len cap k : Nat) (hk : k ≤ cap) (W : World) : (Instr.slice 51 (.slice ao len cap) none (some (.int .i64 (k : Int))) (some (.int .i64 (k : Int)))).run Tryd.prog W = .ok (.slice ao k k) W := by
  rw [run_slice_hm W _ ao len cap (by kernel_rfl) .i64 .i64 (k : Int) (k : Int) (by omega) (by omega) (by omega), elemT, sizeLn]
  simp only [Result.andThen, sliced, Int.toNat_natCast, Nat.sub_zero, Nat.zero_mul]
  split
  · rfl
  · cases ao with
    | none => rfl
    | some x => simp [add_zero']
theorem slice_from (ao : Option Addr) (len cap e : Nat) (he : e ≤ len) (hl : len ≤ cap) (W : World) : (Instr.slice 51 (.slice ao len cap) (some (.int .i64 (e : Int))) (some (.int .i64 (len : Int))) (some (.int .i64 (len : Int)))).run Tryd.prog W = .ok (.slice (fromA ao e len) (len - e) (len - e)) W := by
  rw [run_slice_lhm W _ ao len cap (by kernel_rfl) .i64 .i64 .i64 (e : Int) (len : Int) (len : Int) (by omega) (by omega) (by omega) (by omega), elemT, sizeLn]
  simp only [Result.andThen, sliced, Int.toNat_natCast, fromA]
theorem Lns.from {W : World} {ao : Option Addr} {len cap : Nat} {zs : List Ln} (h : Lns W ao len cap zs) (e : Nat) (he : e ≤ len) : Lns W (fromA ao e len) (len - e) (len - e) (zs.drop e) := by
  have hm := h.hmax
  have hle := h.hle
  refine ⟨by rw [List.length_drop, h.hlen], Nat.le_refl _, by omega, fun q => ?_, fun x hx => h.hfits x (List.mem_of_mem_drop hx), fun hz => ?_⟩
  · unfold fromA at q
    by_cases e1 : len = e
    · omega
    · rw [if_neg e1] at q
      cases ao with
      | none => have := h.hnone rfl; omega
      | some x => simp at q
  · have hlt : e < len := by
      rcases Nat.lt_or_ge e len with q | q
      · exact q
      · exact absurd (List.drop_eq_nil_of_le (by rw [h.hlen]; exact q)) hz
    obtain ⟨b, off, rfl, hc⟩ := h.hcells (fun q => hz (by rw [q]; simp))
    refine ⟨b, off + e * 4, ?_, fun j x hj => ?_⟩
    · unfold fromA
      rw [if_neg (by omega)]
      simp [add_at]
    · rw [List.getElem?_drop] at hj
      have := hc _ x hj
      rw [show off + e * 4 + j * 4 = off + (e + j) * 4 by omega]
      exact this

/-- It tells two values. -/
def TwoP (u v : Value) (w : World) (e : Ending) (w' : World) : Prop := e = .returned (.tuple #[u, v]) ∧ Below w.heap.size w w'
/-- What cut tells. -/
def CutP (ao : Option Addr) (len : Nat) (zs : List Ln) (a : Lab) (w : World) : Ending → World → Prop :=
  TwoP (.slice ao (bef zs a) (bef zs a)) (.slice (fromA ao (cutE zs a) len) (len - cutE zs a) (len - cutE zs a)) w

set_option maxRecDepth 100000 in
set_option maxHeartbeats 4000000 in
theorem cut_any (a : Lab) (ao : Option Addr) (len cap : Nat) (zs : List Ln) (hreach : len ≤ 1000000) (w : World) (hL : Lns w ao len cap zs) :
    Calls Tryd.prog 61 #[.slice ao len cap, .agg #[.int .i64 a.l, .int .u64 a.c, .int .i64 a.i]] w (CutP ao len zs a w) := by
  have hB := Below.new w (.cells #[.int .i64 a.l, .int .u64 a.c, .int .i64 a.i] 25)
  have hle := hL.hle
  have hlen := hL.hlen
  have hbl := bef_le zs a
  have hcl := cutE_le zs a
  have HN := Lib.hid (cutE_none (zs := zs) (a := a))
  have HS := Lib.hid (fun x h => cutE_some (zs := zs) (a := a) (x := x) h)
  have HL := Lib.hid (And.intro (hL.more hB) (And.intro hB (La3.new w a)))
  unfold CutP
  obtain ⟨s, hs⟩ : ∃ s, bef zs a = s := ⟨_, rfl⟩
  obtain ⟨c, hc⟩ : ∃ c, cutE zs a = c := ⟨_, rfl⟩
  rw [hlen] at hbl hcl
  rw [hs] at HN HS hbl
  rw [hc] at HN HS hcl
  have HLN := Lib.hid hlen
  have HB := Lib.hid (callsIn_wide.1 (before_in 3 (Nat.le_refl _) a ao len cap zs hreach _ HL.out.1))
  rw [hs, hc]
  rw [hs] at HB
  clear hs hc hL hB hlen
  have u1 := slice_upto ao len cap s (by omega)
  by_cases hlt : s < len
  · obtain ⟨x, hx⟩ : ∃ x, zs[s]? = some x := ⟨_, List.getElem?_eq_getElem (by rw [HLN.out]; exact hlt)⟩
    have hce := HS.out x hx
    obtain ⟨b, off, rfl, hb, hcs⟩ := HL.out.1.at (by omega)
    have HQ := Lib.hid (hcs s x hx)
    have hd : decide ((s : Int) < (len : Int)) = true := decide_eq_true (by omega)
    have e1 := eqL x.a a
    have e2 := eqInL x.a a
    clear hx hcs HS HN
    cases hsm : x.a.same a with
    | true =>
      rw [hsm] at e1 e2 hce
      simp only [if_true] at hce
      subst hce
      have u2 := slice_from (some ⟨b, off, none⟩) len cap (s + 1) hcl hle
      rw [show ((s + 1 : Nat) : Int) = (s : Int) + 1 by omega] at u2
      clear hsm
      go_enter Tryd.func61, Tryd.ntmps61
      go_wp2_with (go_at_call 68; refine HB.out.mono ?_)
      rintro e w1 ⟨rfl, hb1⟩
      have HB1 := Lib.hid (below_more HL.out.2.1 hb1)
      obtain ⟨a0, a1, a2⟩ := HL.out.2.2.more hb1
      obtain ⟨q0, q1, q2, _⟩ := HQ.out.more hb1
      clear hb1
      go_wp2
      go_quiet (fail)
      go_wp2
      revert nq
      intro n1
      go_quiet (fail)
      go_wp2
      refine bodyPost_ret (v := .tuple #[.slice (some ⟨b, off, none⟩) s s, .slice (fromA (some ⟨b, off, none⟩) (s + 1) len) (len - (s + 1)) (len - (s + 1))]) (by simp [results, Tryd.results61, go_sem]) rfl ⟨rfl, below_drewN (below_drewN HB1.out _) _⟩
    | false =>
      rw [hsm] at e1 e2 hce
      simp only [Bool.false_eq_true, if_false] at hce
      subst hce
      have u2 := slice_from (some ⟨b, off, none⟩) len cap c hcl hle
      clear hsm
      go_enter Tryd.func61, Tryd.ntmps61
      go_wp2_with (go_at_call 68; refine HB.out.mono ?_)
      rintro e w1 ⟨rfl, hb1⟩
      have HB1 := Lib.hid (below_more HL.out.2.1 hb1)
      obtain ⟨a0, a1, a2⟩ := HL.out.2.2.more hb1
      obtain ⟨q0, q1, q2, _⟩ := HQ.out.more hb1
      clear hb1
      go_wp2
      go_quiet (fail)
      go_wp2
      revert nq
      intro n1
      go_quiet (fail)
      go_wp2
      refine bodyPost_ret (v := .tuple #[.slice (some ⟨b, off, none⟩) c c, .slice (fromA (some ⟨b, off, none⟩) (c) len) (len - (c)) (len - (c))]) (by simp [results, Tryd.results61, go_sem]) rfl ⟨rfl, below_drewN (below_drewN HB1.out _) _⟩
  · obtain rfl : s = len := by omega
    have hce := HN.out HLN.out.symm
    rw [HLN.out] at hce
    subst hce
    have u2 := slice_from ao c cap c hcl hle
    have hd : decide ((c : Int) < (c : Int)) = false := decide_eq_false (by omega)
    clear HS HN
    go_enter Tryd.func61, Tryd.ntmps61
    go_wp2_with (go_at_call 68; refine HB.out.mono ?_)
    rintro e w1 ⟨rfl, hb1⟩
    have HB1 := Lib.hid (below_more HL.out.2.1 hb1)
    clear hb1
    go_wp2
    go_quiet (fail)
    go_wp2
    revert nq
    intro n1
    go_quiet (fail)
    go_wp2
    refine bodyPost_ret (v := .tuple #[.slice ao c c, .slice (fromA ao c c) (c - c) (c - c)]) (by simp [results, Tryd.results61, go_sem]) rfl ⟨rfl, below_drewN (below_drewN HB1.out _) _⟩

end Go.Proofs.YtpaaeojojbdikaaDoor
