/- The iterator over judged numbers, and the picker that goes through it. -/
import Derived.Test.YtcjokjipgeaikaaDoorLeaf
import Derived.RangeFuncNested
import Derived.RangeFuncBound
import Derived.RangeFuncCalls
import Derived.RangeFuncLeaves
import Derived.RangeFuncBox
import Derived.Shelf.Abstract
import Derived.Shelf.RegionOpen
import Derived.OwnWalkIn
import Derived.TacticsInMore
import Derived.LoopNIn
import Derived.LoopIn
import Derived.WalkMore
namespace Go.Proofs.YtcjokjipgeaikaaDoor.Ct
open Go.RowKit Go.Proofs.Cats Go.Shelf

attribute [local go_sem] Oper.semAt_some

/-- A scope that no goto leaves, at the wide fence. -/
theorem wpIn_scope_wide {n : Nat} {P : Program} {c : Code} {Q : Exit → Act → World → Prop} {a : Act} {w : World} (h : c.wpIn Fence.wide n P (Exit.noGoto Q) a w) : (Code.scope c).wpIn Fence.wide n P Q a w :=
  wpIn_wide.2 (wp_scope_straight (wpIn_wide.1 h))

/-- What has come when k rounds are over. -/
def upto {α : Type} (f : Nat → α) (k : Nat) : List α := (List.range k).map f
theorem upto_succ {α : Type} (f : Nat → α) (k : Nat) : upto f (k + 1) = upto f k ++ [f k] := by simp [upto, List.range_succ]
theorem upto_length {α : Type} (f : Nat → α) (k : Nat) : (upto f k).length = k := by simp [upto]
theorem upto_all (zs : List Int) : upto (fun j => zs[j]?.getD 0) zs.length = zs := by
  apply List.ext_getElem
  · simp [upto]
  · intro i h1 h2
    simp [upto, h2]
theorem upto_take (zs : List Int) {k : Nat} (hk : k ≤ zs.length) : upto (fun j => zs[j]?.getD 0) k = zs.take k := by
  apply List.ext_getElem
  · simp [upto, hk]
  · intro i h1 h2
    have : i < zs.length := by simp [upto] at h1; omega
    simp [upto, this]

set_option maxRecDepth 100000 in
set_option maxHeartbeats 1000000 in
theorem judged1_in (n : Nat) (hn : 1 ≤ n) (l Bs n₀ b off len cap : Nat) (zs : List Int) (g : Value) (hreach : len * 8 ≤ 140737488351232) (hb : b < n₀) (h00 : 2 < n₀) (J Jx : List Int → World → Prop)
    (hY : ∀ pre x W, J pre W → pre.length < len → YieldAt Fence.wide (n - 1) Tryd.prog l #[.int .i64 x, errv g x] W fun e W' =>
      (e = .returned (.bool true) ∧ J (pre ++ [x]) W' ∧ Below n₀ W W') ∨ (e = .returned (.bool false) ∧ Jx (pre ++ [x]) W'))
    (W : World) (hBs : W.cell? ⟨Bs, 0, none⟩ = some (.slice (some ⟨b, off, none⟩) len cap)) (hc : ∀ j, j < len → W.cell? ⟨b, off + j, none⟩ = some (.int .i64 (zs[j]?.getD 0)))
    (hg : W.cell? ⟨2, 0, none⟩ = some g) (h0 : J [] W) :
    CallsIn Fence.wide n Tryd.prog 85 #[.func (.yield l) #[] #[], .pointer (some ⟨Bs, 0, none⟩)] W fun e W' => (∃ v, e = .returned v) ∧
      ((∃ ys, ys = upto (fun j => zs[j]?.getD 0) len ∧ J ys W') ∨ (∃ pre, (∃ k, k ≤ len ∧ pre = upto (fun j => zs[j]?.getD 0) k) ∧ Jx pre W')) := by
  refine callsIn_of_wp Tryd.func85 rfl trivial ?_ rfl
  simp only [Tryd.ntmps85, List.size_toArray, List.length_cons, List.length_nil, Nat.reduceAdd, Nat.reduceSub, Array.replicate_succ, Array.replicate_zero, List.push_toArray, List.append_toArray, List.nil_append, List.cons_append]
  gi_wp2
  gi_loopw [7] (fun i wr => ∃ k : Nat, k ≤ len ∧ i = .int .i64 k ∧ J (upto (fun j => zs[j]?.getD 0) k) wr ∧ Below n₀ W wr)
    (fun i _ => len - (intOf i).toNat)
  case atStart => exact ⟨0, Nat.zero_le _, rfl, h0, Below.refl _ _⟩
  case round =>
    obtain ⟨k, hk, rfl, hJs, hnx⟩ := hrel
    have hcx : k < len → wr.cell? ⟨b, off + k, none⟩ = some (.int .i64 (zs[k]?.getD 0)) := fun h => (hnx.cell (p := ⟨b, off + k, none⟩) hb).trans (hc k h)
    have hgx : wr.cell? ⟨2, 0, none⟩ = some g := (hnx.cell (p := ⟨2, 0, none⟩) h00).trans hg
    by_cases hlt : k < len
    · obtain ⟨fn, tmps, assign, body, hy, hR⟩ := hY _ (zs[k]?.getD 0) wr hJs (by rw [upto_length]; exact hlt)
      have hcx' := hcx hlt
      gi_wp2_with (refine ⟨trivial, ?_⟩; gi_at_call 72; refine (callsIn_wide.2 (judge_any (zs[k]?.getD 0) g wr hgx)).mono ?_; rintro e w' ⟨rfl, rfl⟩)
      refine hR.mono ?_
      rintro e W3 (⟨rfl, hJ3, hk3⟩ | ⟨rfl, hJx3⟩)
      · gi_wp2
        go_roundw
        case rel => exact ⟨k + 1, by omega, by simp, by rw [upto_succ]; exact hJ3, hnx.trans hk3⟩
        case measure => simp [intOf]; omega
      · gi_wp2
        refine bodyPost_ret (results_none rfl _ _ _) rfl ?_
        exact ⟨⟨_, rfl⟩, .inr ⟨_, ⟨k + 1, by omega, (upto_succ _ _).symm⟩, hJx3⟩⟩
    · obtain rfl : k = len := by omega
      gi_wp2
      go_end0
      exact ⟨⟨_, rfl⟩, .inl ⟨_, rfl, hJs⟩⟩


set_option maxRecDepth 100000 in
set_option maxHeartbeats 1000000 in
theorem judged1_nil_in (n : Nat) (l Bs : Nat) (ao : Option Addr) (cap : Nat) (J : List Int → World → Prop) (W : World) (hBs : W.cell? ⟨Bs, 0, none⟩ = some (.slice ao 0 cap)) (h0 : J [] W) :
    CallsIn Fence.wide n Tryd.prog 85 #[.func (.yield l) #[] #[], .pointer (some ⟨Bs, 0, none⟩)] W fun e W' => (∃ v, e = .returned v) ∧ J [] W' := by
  refine callsIn_of_wp Tryd.func85 rfl trivial ?_ rfl
  simp only [Tryd.ntmps85, List.size_toArray, List.length_cons, List.length_nil, Nat.reduceAdd, Nat.reduceSub, Array.replicate_succ, Array.replicate_zero, List.push_toArray, List.append_toArray, List.nil_append, List.cons_append]
  gi_wp2
  gi_loopw [7] (fun i wr => i = .int .i64 0 ∧ J [] wr) (fun _ _ => 0)
  case atStart => exact ⟨rfl, h0⟩
  case round =>
    obtain ⟨rfl, hJs⟩ := hrel
    gi_wp2
    go_end0
    exact ⟨⟨_, rfl⟩, hJs⟩

set_option maxHeartbeats 1000000 in
theorem judged_in (n : Nat) (a : Option Addr) (len cap : Nat) (w : World) :
    CallsIn Fence.wide n Tryd.prog 82 #[.slice a len cap] w fun e w' => e = .returned (.func (.func 85) #[] #[.pointer (some ⟨w.heap.size, 0, none⟩)]) ∧ w' = w.alloc (.cells #[.slice a len cap] 41) := by
  refine callsIn_of_wp Tryd.func82 rfl trivial ?_ rfl
  simp only [Tryd.ntmps82, List.size_toArray, List.length_cons, List.length_nil, Nat.reduceAdd, Nat.reduceSub, Array.replicate_succ, Array.replicate_zero, List.push_toArray, List.append_toArray, List.nil_append, List.cons_append]
  gi_wp2
  go_ret
  exact ⟨rfl, rfl⟩

/-- The slice value sv holds the numbers zs, in a block below n₀, if there are any. -/
def Ints (n₀ : Nat) (W : World) (sv : Value) (zs : List Int) : Prop :=
  ∃ ao cap, sv = .slice ao zs.length cap ∧ (zs ≠ [] → ∃ b off, ao = some ⟨b, off, none⟩ ∧ b < n₀ ∧ ∀ j, j < zs.length → W.cell? ⟨b, off + j, none⟩ = some (.int .i64 (zs[j]?.getD 0)))
theorem Ints.below {n₀ : Nat} {A B : World} (h : Below n₀ A B) {sv : Value} {zs : List Int} : Ints n₀ A sv zs → Ints n₀ B sv zs
  | ⟨ao, cap, e, k⟩ => ⟨ao, cap, e, fun hz => let ⟨b, off, e1, hb, hc⟩ := k hz; ⟨b, off, e1, hb, fun j hj => (h.cell (p := ⟨b, off + j, none⟩) hb).trans (hc j hj)⟩⟩
theorem Ints.mono {n₀ n₁ : Nat} (h : n₀ ≤ n₁) {A : World} {sv : Value} {zs : List Int} : Ints n₀ A sv zs → Ints n₁ A sv zs
  | ⟨ao, cap, e, k⟩ => ⟨ao, cap, e, fun hz => let ⟨b, off, e1, hb, hc⟩ := k hz; ⟨b, off, e1, by omega, hc⟩⟩

theorem judged_stops (n : Nat) (hn : 1 ≤ n) (Bs n₀ : Nat) (sv : Value) (zs : List Int) (g : Value) (hreach : zs.length * 8 ≤ 140737488351232) (w : World) (hBs : Bs < w.heap.size) (hn₀ : n₀ ≤ w.heap.size) (h00 : 2 < n₀)
    (hc : w.cell? ⟨Bs, 0, none⟩ = some sv) (hI : Ints n₀ w sv zs) (hg : w.cell? ⟨2, 0, none⟩ = some g) :
    SeqStopsK Fence.wide n Tryd.prog 85 #[.pointer (some ⟨Bs, 0, none⟩)] (fun x : Int => #[Value.int .i64 x, errv g x]) (Below n₀) (fun ys => ys = zs) (fun pre => pre <+: zs) zs.length w := fun l J Jx W hW _ _ hY h0 => by
  have hc' := (hW.cell (p := ⟨Bs, 0, none⟩) hBs).trans hc
  have hg' := (hW.cell (p := ⟨2, 0, none⟩) (Nat.lt_of_lt_of_le h00 hn₀)).trans hg
  obtain ⟨ao, cap, rfl, hk⟩ := hI.below (hW.mono hn₀)
  by_cases hz : zs = []
  · subst hz
    exact (judged1_nil_in n l Bs ao cap J W hc' h0).mono fun e W' ⟨he, hj⟩ => ⟨he, .inl ⟨_, rfl, hj⟩⟩
  · obtain ⟨b, off, rfl, hb, hcs⟩ := hk hz
    refine (judged1_in n hn l Bs n₀ b off zs.length cap zs g hreach hb h00 J Jx hY W hc' hcs hg' h0).mono ?_
    rintro e W' ⟨he, ⟨ys, rfl, hj⟩ | ⟨pre, ⟨k, hk, rfl⟩, hj⟩⟩
    · exact ⟨he, .inl ⟨_, upto_all zs, hj⟩⟩
    · exact ⟨he, .inr ⟨_, by rw [upto_take zs hk]; exact List.take_prefix _ _, hj⟩⟩

/-- The loop's word between two rounds. -/
def PickI (b B s : Nat) (w : World) (pre : List Int) (W : World) : Prop :=
  (pre.all okC = true ∧ W.cell? ⟨b, 0, none⟩ = some (.int .u64 (addAll s pre : Nat)) ∧ W.frozen? ⟨b, 0, none⟩ = false ∧ W.cell? ⟨B, 0, none⟩ = some (.pointer (some ⟨b, 0, none⟩)) ∧
    W.cell? ⟨B + 1, 0, none⟩ = some .nilIface ∧ W.frozen? ⟨B + 1, 0, none⟩ = false) ∧ Below b w W
/-- .. when a round has left. -/
def PickX (b B : Nat) (g : Value) (w : World) (pre : List Int) (W : World) : Prop :=
  (pre.all okC = false ∧ W.cell? ⟨B + 1, 0, none⟩ = some g) ∧ Below b w W

set_option maxRecDepth 100000 in
set_option maxHeartbeats 1000000 in
theorem pick_in (n : Nat) (hn : 3 ≤ n) (b s : Nat) (hs : U64 s) (a : Option Addr) (len cap : Nat) (zs : List Int) (ga : Addr) (hreach : zs.length * 8 ≤ 140737488351232) (w : World) (hb : 2 < b) (hbw : b < w.heap.size)
    (hp : w.cell? ⟨b, 0, none⟩ = some (.int .u64 s)) (hf : w.frozen? ⟨b, 0, none⟩ = false) (hI : Ints b w (.slice a len cap) zs) (hg : w.cell? ⟨2, 0, none⟩ = some (.iface 151 (.pointer (some ga)))) :
    CallsIn Fence.wide n Tryd.prog 78 #[.pointer (some ⟨b, 0, none⟩), .slice a len cap] w fun e W' =>
      e = .returned (if zs.all okC then .nilIface else .iface 151 (.pointer (some ga))) ∧ (zs.all okC = true → W'.cell? ⟨b, 0, none⟩ = some (.int .u64 (addAll s zs : Nat))) ∧ Below b w W' := by
  have h1 : 1 ≤ n := by omega
  refine callsIn_of_wp_marks Tryd.func78 rfl trivial ?_ rfl
  simp only [Tryd.ntmps78, List.size_toArray, List.length_cons, List.length_nil, Nat.reduceAdd, Nat.reduceSub, Array.replicate_succ, Array.replicate_zero, List.push_toArray, List.append_toArray, List.nil_append, List.cons_append]
  gi_wp2
  refine wpIn_scope_wide ?_
  gi_wp2
  refine wpIn_label ?_
  gi_wp2_with (refine ⟨trivial, ?_⟩; gi_at_call 82; refine (judged_in (n - 1) _ _ _ _).mono ?_; rintro e w' ⟨rfl, rfl⟩)
  have bP := Boxed.new w 139 (.pointer (some ⟨b, 0, none⟩))
  have bE := Boxed.new (w.alloc (.cells #[.pointer (some ⟨b, 0, none⟩)] 139)) 45 .nilIface
  have bN := Boxed.new ((w.alloc (.cells #[.pointer (some ⟨b, 0, none⟩)] 139)).alloc (.cells #[.nilIface] 45)) 41 (.slice a len cap)
  simp only [World.size_alloc] at bE bN
  have hB0 : Below b w (((w.alloc (.cells #[.pointer (some ⟨b, 0, none⟩)] 139)).alloc (.cells #[.nilIface] 45)).alloc (.cells #[.slice a len cap] 41)) :=
    (((Below.refl _ w).alloc (by omega) _).alloc (by simp; omega) _).alloc (by simp; omega) _
  have hB1 : Below w.heap.size w (((w.alloc (.cells #[.pointer (some ⟨b, 0, none⟩)] 139)).alloc (.cells #[.nilIface] 45)).alloc (.cells #[.slice a len cap] 41)) :=
    (((Below.refl _ w).alloc (Nat.le_refl _) _).alloc (by simp) _).alloc (by simp; omega) _
  refine wpIn_rangeFunc_ownG rfl h1 (gf := 85) (lb := #[.pointer (some ⟨w.heap.size + 2, 0, none⟩)]) rfl trivial (enters_of Tryd.func85 (by kernel_rfl) rfl)
    (judged_stops (n - 1) (by omega) (w.heap.size + 2) b _ zs (.iface 151 (.pointer (some ga))) hreach _ (by simp) (by simp; omega) hb bN.cell (hI.below hB0) ((hB0.cell (p := ⟨2, 0, none⟩) hb).trans hg)) belowK_t (belowK_b (by simp; omega)) (Below.refl _ _) (fun _ => rfl)
    (PickI b w.heap.size s w)
    (fun c pre W => c = .exit 0 ∧ PickX b w.heap.size (.iface 151 (.pointer (some ga))) w pre W)
    ?hI ?hIx ?h0
    (fun x => { tmps := #[.pointer (some ⟨b, 0, none⟩), .slice a len cap, .pointer (some ⟨w.heap.size, 0, none⟩), undef, .nilIface, .pointer (some ⟨w.heap.size + 1, 0, none⟩), .int .i64 x, errv (.iface 151 (.pointer (some ga))) x, .slice a len cap, .func (.func 85) #[] #[.pointer (some ⟨w.heap.size + 2, 0, none⟩)], .int .i64 x, errv (.iface 151 (.pointer (some ga))) x, undef, undef, undef, undef, undef, undef, undef, undef, undef, undef], defers := [] }) ?assign ?body ?done ?stop
  case hI =>
    exact OwnFrom.and (Own.from (fun s A B row hs hg hr => ⟨hs.1, cell_kept hs.2.1 hg hr, (frozen_kept hs.2.1 hg hr).trans hs.2.2.1, cell_kept hs.2.2.2.1 hg hr, cell_kept hs.2.2.2.2.1 hg hr, (frozen_kept hs.2.2.2.2.1 hg hr).trans hs.2.2.2.2.2⟩) _) (ownFrom_below (by omega) (by simp; omega))
  case hIx =>
    intro c s A B row hs hg hr
    exact ⟨hs.1, ⟨hs.2.1.1, cell_kept hs.2.1.2 hg (fun r e => (hr r e).2)⟩, ownFrom_below (β := List Int) (n₀ := b) (w₀ := w) (by omega) (by simp; omega) s A B row hs.2.2 hg hr⟩
  case h0 =>
    refine ⟨⟨rfl, (hB1.cell (p := ⟨b, 0, none⟩) hbw).trans hp, (hB1.frozen (p := ⟨b, 0, none⟩) hbw).trans hf, ((bP.alloc _).alloc _).cell, (bE.alloc _).cell, (bE.alloc _).frozen⟩, hB0⟩
  case assign =>
    intro l x W K hK
    gi_wp2
    exact hK
  case body =>
    rintro l pre x W ⟨⟨hall, hcb, hfb, hcP, hcE, hfE⟩, hB⟩ _
    have hus := addAll_u64 s pre hs hall
    by_cases hx : okC x = true
    · have hxe : errv (.iface 151 (.pointer (some ga))) x = .nilIface := by simp [errv, hx]
      obtain ⟨hx0, hx1⟩ := (okC_iff x).1 hx
      obtain ⟨k, rfl⟩ := Int.eq_ofNat_of_zero_le hx0
      have HX := Lib.hid hx
      have HA := Lib.hid hall
      have HU := Lib.hid hus
      have hd : 1 ≤ n - 1 - 1 := by omega
      clear hx hall hus hp hf hg hI bP bE bN hB0 hB1
      gi_wp2_with (refine ⟨trivial, ?_⟩; gi_at_call 83; refine (CallsIn.inRound l (callsIn_wide.2 (add_any b (addAll s pre) k (by omega) HU.out W hcb hfb))).mono ?_; rintro e w' ⟨rfl, rfl⟩)
      refine ⟨((KeepsOthers.setCell _ _ _).trans (KeepsOthers.drew _)).from _, ((Below.refl b W).setCell (p := ⟨b, 0, none⟩) (Nat.le_refl _) _).drew, ⟨⟨?_, ?_, ?_, ?_, ?_, ?_⟩, (hB.setCell (p := ⟨b, 0, none⟩) (Nat.le_refl _) _).drew⟩⟩
      · simp only [List.all_append, HA.out, Bool.true_and, List.all_cons, List.all_nil, Bool.and_true]; exact HX.out
      · rw [World.cell?_drew, addAll_snoc]; exact World.cell?_setCell_same' _ _ _ (by rw [hcb]; rfl)
      · rw [frozen_drew_own, World.frozen?_setCell]; exact hfb
      · rw [World.cell?_drew]; exact (World.cell?_setCell_other _ _ _ _ (fun h => by have := congrArg Addr.block h; simp at this; omega)).trans hcP
      · rw [World.cell?_drew]; exact (World.cell?_setCell_other _ _ _ _ (fun h => by have := congrArg Addr.block h; simp at this; omega)).trans hcE
      · rw [frozen_drew_own, World.frozen?_setCell]; exact hfE
    · have hxe : errv (.iface 151 (.pointer (some ga))) x = .iface 151 (.pointer (some ga)) := by simp [errv, hx]
      have HX := Lib.hid hx
      have HA := Lib.hid hall
      clear hx hall hus hp hf hg hI bP bE bN hB0 hB1
      gi_wp2
      refine ⟨(KeepsOthers.setCell _ _ _).from _, rfl, ⟨?_, World.cell?_setCell_same' _ _ _ (by rw [hcE]; rfl)⟩, hB.setCell (p := ⟨w.heap.size + 1, 0, none⟩) (by simp; omega) _⟩
      simp only [List.all_append, List.all_cons, List.all_nil, Bool.and_true]
      rw [Bool.eq_false_iff.2 HX.out, Bool.and_false]
  case done =>
    rintro D ys W hD rfl ⟨⟨hall, hcb, hfb, hcP, hcE, hfE⟩, hB⟩ hK
    have HA := Lib.hid hall
    clear hall
    gi_wp2
    rw [Exit.noGoto_ret]
    refine ⟨by simp, .inl ⟨_, _, rfl, run_takeDeferred hK, ?_⟩⟩
    exact ⟨_, results_tmp rfl _ _ _, by rw [HA.out]; rfl, fun _ => cell_kept hcb (grownBy_putObj' _ D (.deferred none)) (fun r e => by cases e; exact ⟨_, hK, rfl⟩), hB.trans (belowK_b (w := w) (by omega) W D _ _ (by simp at hD; omega) hK rfl rfl)⟩
  case stop =>
    rintro D c pre W hD hpre ⟨rfl, ⟨hall, hcE⟩, hB⟩ hK
    have hz : zs.all okC = false := by
      obtain ⟨t, rfl⟩ := hpre
      rw [List.all_append, hall, Bool.false_and]
    have HZ := Lib.hid hz
    clear hz hall
    gi_wp2
    rw [Exit.noGoto_ret]
    refine ⟨by simp, .inl ⟨_, _, rfl, run_takeDeferred hK, ?_⟩⟩
    exact ⟨_, results_tmp rfl _ _ _, by rw [HZ.out]; rfl, (fun h => absurd h (by rw [HZ.out]; simp)), hB.trans (belowK_b (w := w) (by omega) W D _ _ (by simp at hD; omega) hK rfl rfl)⟩

end Go.Proofs.YtcjokjipgeaikaaDoor.Ct
