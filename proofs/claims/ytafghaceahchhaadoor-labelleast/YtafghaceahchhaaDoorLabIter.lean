/- The iterator over judged labels. -/
import Derived.Test.YtafghaceahchhaaDoorLabJudge
import Derived.RangeFuncNested
import Derived.RangeFuncBound
import Derived.RangeFuncCalls
import Derived.RangeFuncLeaves
import Derived.RangeFuncBox
import Derived.Shelf.Abstract
import Derived.Shelf.RegionOpen
import Derived.OwnWalkIn
import Derived.TacticsInMore
import Derived.LoopNIn
import Derived.LoopIn
import Derived.WalkMore
namespace Go.Proofs.YtafghaceahchhaaDoor
open Go.RowKit Go.Proofs.Cats Go.Shelf

attribute [local go_sem] Oper.semAt_some

/-- The three cells of a label, at block b from o on. -/
def LabAt (W : World) (b o : Nat) (x : Lab) : Prop :=
  W.cell? ⟨b, o, none⟩ = some (.int .i64 x.l) ∧ W.cell? ⟨b, o + 1, none⟩ = some (.int .u64 x.c) ∧ W.cell? ⟨b, o + 2, none⟩ = some (.int .i64 x.i)
theorem LabAt.below {n : Nat} {A B : World} {b o : Nat} {x : Lab} (h : LabAt A b o x) (k : Below n A B) (hb : b < n) : LabAt B b o x :=
  ⟨(k.cell (p := ⟨b, o, none⟩) hb).trans h.1, (k.cell (p := ⟨b, o + 1, none⟩) hb).trans h.2.1, (k.cell (p := ⟨b, o + 2, none⟩) hb).trans h.2.2⟩

/-- The slice value sv holds the labels zs, in a block below n₀, if there are any. -/
def Labs (n₀ : Nat) (W : World) (sv : Value) (zs : List Lab) : Prop :=
  ∃ ao cap, sv = .slice ao zs.length cap ∧ (zs ≠ [] → ∃ b off, ao = some ⟨b, off, none⟩ ∧ b < n₀ ∧ ∀ j x, zs[j]? = some x → x.fits ∧ LabAt W b (off + j * 3) x)
theorem Labs.below {n₀ : Nat} {A B : World} (h : Below n₀ A B) {sv : Value} {zs : List Lab} : Labs n₀ A sv zs → Labs n₀ B sv zs
  | ⟨ao, cap, e, k⟩ => ⟨ao, cap, e, fun hz => let ⟨b, off, e1, hb, hc⟩ := k hz; ⟨b, off, e1, hb, fun j x hj => ⟨(hc j x hj).1, (hc j x hj).2.below h hb⟩⟩⟩
theorem Labs.mono {n₀ n₁ : Nat} (h : n₀ ≤ n₁) {A : World} {sv : Value} {zs : List Lab} : Labs n₀ A sv zs → Labs n₁ A sv zs
  | ⟨ao, cap, e, k⟩ => ⟨ao, cap, e, fun hz => let ⟨b, off, e1, hb, hc⟩ := k hz; ⟨b, off, e1, by omega, hc⟩⟩
theorem Labs.fits {n₀ : Nat} {A : World} {sv : Value} {zs : List Lab} : Labs n₀ A sv zs → ∀ x ∈ zs, x.fits
  | ⟨_, _, _, k⟩ => fun x hx => by
    obtain ⟨b, off, _, _, hc⟩ := k (fun e => by subst e; cases hx)
    obtain ⟨j, hj⟩ := List.getElem?_of_mem hx
    exact (hc j x hj).1

theorem below_grown {w w' : World} (h : Below w.heap.size w w') : w.grownBy w' none := ⟨h.os, h.tape, h.output, h.size, fun k hk _ => h.block k hk⟩
theorem take_next {α : Type} (zs : List α) (k : Nat) (x : α) (h : zs[k]? = some x) : zs.take (k + 1) = zs.take k ++ [x] := by
  obtain ⟨hk, rfl⟩ := List.getElem?_eq_some_iff.1 h
  rw [List.take_append_getElem hk]

/-- What a round tells: whether to go on. -/
def Told (J Jx : List Lab → World → Prop) (pre : List Lab) (x : Lab) (n₀ : Nat) (W W' : World) (b : Bool) : Prop :=
  (b = true → J (pre ++ [x]) W' ∧ Below n₀ W W') ∧ (b = false → Jx (pre ++ [x]) W')

set_option maxRecDepth 100000 in
set_option maxHeartbeats 2000000 in
theorem judged1_in (n : Nat) (hn : 1 ≤ n) (l Bs n₀ b off len cap : Nat) (zs : List Lab) (hlen : zs.length = len) (hreach : len * 24 ≤ 140737488351232) (hb : b < n₀) (J Jx : List Lab → World → Prop)
    (W : World) (hn₀ : n₀ ≤ W.heap.size) (hJ : AbidesFrom W.heap.size J)
    (hY : ∀ pre x W, J pre W → pre.length < len → x.fits → YieldAt Fence.wide (n - 1) Tryd.prog l #[.agg #[.int .i64 x.l, .int .u64 x.c, .int .i64 x.i], errL x] W fun e W' =>
      ∃ g, e = .returned (.bool g) ∧ Told J Jx pre x n₀ W W' g)
    (hBs : W.cell? ⟨Bs, 0, none⟩ = some (.slice (some ⟨b, off, none⟩) len cap)) (hc : ∀ j x, zs[j]? = some x → x.fits ∧ LabAt W b (off + j * 3) x)
    (h0 : J [] W) :
    CallsIn Fence.wide n Tryd.prog 49 #[.func (.yield l) #[] #[], .pointer (some ⟨Bs, 0, none⟩)] W fun e W' => (∃ v, e = .returned v) ∧
      ((∃ ys, ys = zs ∧ J ys W') ∨ (∃ pre, (∃ k, k ≤ len ∧ pre = zs.take k) ∧ Jx pre W')) := by
  have hmx : Tryd.prog.follows .mixedOrders = true := by kernel_rfl
  refine callsIn_of_wp Tryd.func49 rfl trivial ?_ rfl
  simp only [Tryd.ntmps49, List.size_toArray, List.length_cons, List.length_nil, Nat.reduceAdd, Nat.reduceSub, Array.replicate_succ, Array.replicate_zero, List.push_toArray, List.append_toArray, List.nil_append, List.cons_append]
  gi_wp2
  have HL := Lib.hid hlen
  clear hlen
  have HC := Lib.hid hc
  clear hc
  gi_loopw [7] (fun i wr => ∃ k : Nat, k ≤ len ∧ i = .int .i64 k ∧ J (zs.take k) wr ∧ Below n₀ W wr)
    (fun i _ => len - (intOf i).toNat)
  case atStart => exact ⟨0, Nat.zero_le _, rfl, h0, Below.refl _ _⟩
  case round =>
    obtain ⟨k, hk, rfl, hJs, hnx⟩ := hrel
    have hsz := hnx.size
    by_cases hlt : k < len
    · obtain ⟨x, hx⟩ : ∃ x, zs[k]? = some x := ⟨_, List.getElem?_eq_getElem (by rw [HL.out]; exact hlt)⟩
      obtain ⟨hfit, hat⟩ := HC.out k x hx
      obtain ⟨q0, q1, q2⟩ := hat.below hnx hb
      have HX := Lib.hid hx
      have HT := Lib.hid (take_next zs k x hx)
      clear hx hat
      have HJ := Lib.hid hJs
      have HJ0 := Lib.hid hJ
      have HY := Lib.hid hY
      clear hJs
      clear hJ hY
      have hkl : (zs.take k).length < len := by rw [List.length_take, HL.out]; omega
      gi_wp2
      gi_region_with_o (first
        | (refine ⟨trivial, ?_⟩; gi_at_call 32; refine (callsIn_wide.2 (judge_any x hfit _)).mono ?_; rintro e w' ⟨rfl, hbw⟩
           have d0 : w'.cell? ⟨wr.heap.size, 0, none⟩ = some (.int .i64 x.l) := cell_later hbw (by simp)
           have d1 : w'.cell? ⟨wr.heap.size, 1, none⟩ = some (.int .u64 x.c) := cell_later hbw (by simp)
           have d2 : w'.cell? ⟨wr.heap.size, 2, none⟩ = some (.int .i64 x.i) := cell_later hbw (by simp)
           have hbr := below_more ((Below.new wr (.cells #[.int .i64 x.l, .int .u64 x.c, .int .i64 x.i] 24)).drew) hbw
           obtain ⟨fn, tmps, assign, body, hy, hR⟩ := HY.out _ x w' (HJ0.out _ _ _ none HJ.out (below_grown hbr) (fun r e => by cases e)) hkl hfit)
        | (refine hR.mono ?_; rintro e W3 ⟨g, rfl, htold⟩))
      all_goals (
        cases g with
        | true =>
          obtain ⟨hJ3, hk3⟩ := htold.1 rfl
          have hw3 := (hnx.trans (hbr.mono (by omega))).trans hk3
          clear htold hbr hbw hR hy d0 d1 d2 q0 q1 q2
          gi_wp2
          go_roundw
          case rel => exact ⟨k + 1, by omega, by simp, by rw [HT.out]; exact hJ3, hw3⟩
          case measure => simp [intOf]; omega
        | false =>
          have hx3 := htold.2 rfl
          clear htold hbr hbw hR hy d0 d1 d2 q0 q1 q2
          gi_wp2
          refine bodyPost_ret (results_none rfl _ _ _) rfl ?_
          exact ⟨⟨_, rfl⟩, .inr ⟨_, ⟨k + 1, by omega, HT.out.symm⟩, hx3⟩⟩)
    · obtain rfl : k = len := by omega
      gi_wp2
      go_end0
      exact ⟨⟨_, rfl⟩, .inl ⟨_, by rw [List.take_of_length_le (by rw [HL.out]; exact Nat.le_refl _)], hJs⟩⟩

set_option maxRecDepth 100000 in
set_option maxHeartbeats 1000000 in
theorem judged1_nil_in (n : Nat) (l Bs : Nat) (ao : Option Addr) (cap : Nat) (J : List Lab → World → Prop) (W : World) (hBs : W.cell? ⟨Bs, 0, none⟩ = some (.slice ao 0 cap)) (h0 : J [] W) :
    CallsIn Fence.wide n Tryd.prog 49 #[.func (.yield l) #[] #[], .pointer (some ⟨Bs, 0, none⟩)] W fun e W' => (∃ v, e = .returned v) ∧ J [] W' := by
  refine callsIn_of_wp Tryd.func49 rfl trivial ?_ rfl
  simp only [Tryd.ntmps49, List.size_toArray, List.length_cons, List.length_nil, Nat.reduceAdd, Nat.reduceSub, Array.replicate_succ, Array.replicate_zero, List.push_toArray, List.append_toArray, List.nil_append, List.cons_append]
  gi_wp2
  gi_loopw [7] (fun i wr => i = .int .i64 0 ∧ J [] wr) (fun _ _ => 0)
  case atStart => exact ⟨rfl, h0⟩
  case round =>
    obtain ⟨rfl, hJs⟩ := hrel
    gi_wp2
    go_end0
    exact ⟨⟨_, rfl⟩, hJs⟩

set_option maxHeartbeats 1000000 in
theorem judged_in (n : Nat) (a : Option Addr) (len cap : Nat) (w : World) :
    CallsIn Fence.wide n Tryd.prog 43 #[.slice a len cap] w fun e w' => e = .returned (.func (.func 49) #[] #[.pointer (some ⟨w.heap.size, 0, none⟩)]) ∧ w' = w.alloc (.cells #[.slice a len cap] 33) := by
  refine callsIn_of_wp Tryd.func43 rfl trivial ?_ rfl
  simp only [Tryd.ntmps43, List.size_toArray, List.length_cons, List.length_nil, Nat.reduceAdd, Nat.reduceSub, Array.replicate_succ, Array.replicate_zero, List.push_toArray, List.append_toArray, List.nil_append, List.cons_append]
  gi_wp2
  go_ret
  exact ⟨rfl, rfl⟩

/-- Labels whose numbers are numbers of the machine. -/
def FLab : Type := { x : Lab // x.fits }

theorem judged_stops (n : Nat) (hn : 1 ≤ n) (Bs n₀ : Nat) (sv : Value) (zs : List Lab) (hreach : zs.length * 24 ≤ 140737488351232) (w : World) (hBs : Bs < w.heap.size) (hn₀ : n₀ ≤ w.heap.size)
    (hc : w.cell? ⟨Bs, 0, none⟩ = some sv) (hI : Labs n₀ w sv zs) :
    SeqStopsK Fence.wide n Tryd.prog 49 #[.pointer (some ⟨Bs, 0, none⟩)] (fun x : FLab => #[Value.agg #[.int .i64 x.1.l, .int .u64 x.1.c, .int .i64 x.1.i], errL x.1]) (Below n₀) (fun ys => ys.map (·.1) = zs) (fun pre => pre.map (·.1) <+: zs) zs.length w := fun l J Jx W hW hJ hJx hY h0 => by
  have hc' := (hW.cell (p := ⟨Bs, 0, none⟩) hBs).trans hc
  obtain ⟨ao, cap, rfl, hk⟩ := hI.below (hW.mono hn₀)
  by_cases hz : zs = []
  · subst hz
    exact (judged1_nil_in n l Bs ao cap (fun pre W => pre = [] ∧ J [] W) W hc' ⟨rfl, h0⟩).mono fun e W' ⟨he, hj⟩ => ⟨he, .inl ⟨[], rfl, hj.2⟩⟩
  · obtain ⟨b, off, rfl, hb, hcs⟩ := hk hz
    refine (judged1_in n hn l Bs n₀ b off zs.length cap zs rfl hreach hb (fun pre W => ∃ p : List FLab, p.map (·.1) = pre ∧ J p W) (fun pre W => ∃ p : List FLab, p.map (·.1) = pre ∧ Jx p W) W (Nat.le_trans hn₀ hW.size)
      (fun s A B row ⟨p, hp, hs⟩ hg hr => ⟨p, hp, hJ p A B row hs hg hr⟩) ?_ hc' hcs ⟨[], rfl, h0⟩).mono ?_
    · rintro pre x W1 ⟨p, rfl, hp⟩ hlt hx
      refine (hY p ⟨x, hx⟩ W1 hp (by simpa using hlt)).mono ?_
      rintro e W' (⟨rfl, h1, h2⟩ | ⟨rfl, h1⟩)
      · exact ⟨true, rfl, fun _ => ⟨⟨_, List.map_append, h1⟩, h2⟩, fun h => by cases h⟩
      · exact ⟨false, rfl, fun h => (by cases h), fun _ => ⟨_, List.map_append, h1⟩⟩
    · rintro e W' ⟨he, ⟨ys, rfl, p, hp, hj⟩ | ⟨pre, ⟨k, hk, rfl⟩, p, hp, hj⟩⟩
      · exact ⟨he, .inl ⟨p, hp, hj⟩⟩
      · exact ⟨he, .inr ⟨p, by show p.map (·.1) <+: zs; rw [hp]; exact List.take_prefix _ _, hj⟩⟩

end Go.Proofs.YtafghaceahchhaaDoor
