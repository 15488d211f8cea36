/- The iterator over a set's categories, and the list that goes through it. -/
import Derived.Test.YtcjokjipgeaikaaDoorList
namespace Go.Proofs.YtcjokjipgeaikaaDoor.Ct
open Go.RowKit Go.Proofs.Cats Go.Shelf

attribute [local go_sem] Oper.semAt_some

/-- What the iterator reads between two rounds is kept: its own box, and the sentinel's variable. -/
def KpS (Bs : Nat) (W W' : World) : Prop := W'.cell? ⟨Bs, 0, none⟩ = W.cell? ⟨Bs, 0, none⟩ ∧ W'.cell? ⟨2, 0, none⟩ = W.cell? ⟨2, 0, none⟩
theorem KpS.refl (Bs : Nat) (W : World) : KpS Bs W W := ⟨rfl, rfl⟩
theorem KpS.trans {Bs : Nat} {A B C : World} (h : KpS Bs A B) (k : KpS Bs B C) : KpS Bs A C := ⟨k.1.trans h.1, k.2.trans h.2⟩
theorem KpS.putObj {Bs : Nat} {w : World} (hB : Bs < w.heap.size) (hG : 2 < w.heap.size) (W : World) (l : Nat) (o o' : Obj) (hl : w.heap.size ≤ l) (h : W.heap[l]? = some o) (h1 : o.isCells = false) (h2 : o.isWalk = false) : KpS Bs W (W.putObj l o') := by
  have hb := belowK_b (n₀ := w.heap.size) (w := w) (Nat.le_refl _) W l o o' hl h h1 h2
  exact ⟨hb.cell (p := ⟨Bs, 0, none⟩) hB, hb.cell (p := ⟨2, 0, none⟩) hG⟩

set_option maxRecDepth 100000 in
set_option maxHeartbeats 1000000 in
theorem rising1_in (n : Nat) (hn : 1 ≤ n) (l Bs s : Nat) (hs : U64 s) (ga : Addr) (J Jx : List Int → World → Prop)
    (hY : ∀ pre x W, J pre W → pre.length < 64 → YieldAt Fence.wide (n - 1) Tryd.prog l #[.int .i64 x] W fun e W' =>
      (e = .returned (.bool true) ∧ J (pre ++ [x]) W' ∧ KpS Bs W W') ∨ (e = .returned (.bool false) ∧ Jx (pre ++ [x]) W'))
    (W : World) (hBs : W.cell? ⟨Bs, 0, none⟩ = some (.int .u64 s)) (hg : Glob ga W) (h0 : J [] W) :
    CallsIn Fence.wide n Tryd.prog 60 #[.func (.yield l) #[] #[], .pointer (some ⟨Bs, 0, none⟩)] W fun e W' => (∃ v, e = .returned v) ∧
      ((∃ ys, ys = listTo s 64 ∧ J ys W') ∨ (∃ pre, (∃ k, k ≤ 64 ∧ pre = listTo s k) ∧ Jx pre W')) := by
  have HS := Lib.hid hs
  clear hs
  refine callsIn_of_wp Tryd.func60 rfl trivial ?_ rfl
  simp only [Tryd.ntmps60, List.size_toArray, List.length_cons, List.length_nil, Nat.reduceAdd, Nat.reduceSub, Array.replicate_succ, Array.replicate_zero, List.push_toArray, List.append_toArray, List.nil_append, List.cons_append]
  gi_wp2
  gi_loopw [4] (fun i wr => ∃ k : Nat, k ≤ 64 ∧ i = .int .i64 k ∧ J (listTo s k) wr ∧ KpS Bs W wr)
    (fun i _ => 64 - (intOf i).toNat)
  case atStart => exact ⟨0, by omega, rfl, h0, KpS.refl _ _⟩
  case round =>
    obtain ⟨k, hk, rfl, hJs, hnx⟩ := hrel
    have hcx : wr.cell? ⟨Bs, 0, none⟩ = some (.int .u64 s) := hnx.1.trans hBs
    have hgx : Hid (Glob ga wr) := Lib.hid (show Glob ga wr from hnx.2.trans hg)
    by_cases hlt : k < 64
    · have e2 := Lib.hid (hasB_ok s k hlt)
      cases ht : s.testBit k
      · have HT := Lib.hid ht
        clear ht
        gi_wp2_with (refine ⟨trivial, ?_⟩; gi_at_call 61; refine (callsIn_wide.2 (has_in s HS.out k ga wr hgx.out)).mono ?_; rintro e w' ⟨he, rfl⟩; rw [e2.out, HT.out] at he; subst he)
        refine ⟨fun _ h => (by cases h), ?_⟩
        gi_wp2
        go_roundw
        case rel => exact ⟨k + 1, by omega, by go_num, by rw [listTo_miss s k HT.out]; exact hJs, hnx⟩
        case measure => simp [intOf]; omega
      · have HT := Lib.hid ht
        clear ht
        obtain ⟨fn, tmps, assign, body, hy, hR⟩ := hY _ (k : Int) wr hJs (by have := listTo_le s k; omega)
        gi_wp2_with (refine ⟨trivial, ?_⟩; gi_at_call 61; refine (callsIn_wide.2 (has_in s HS.out k ga wr hgx.out)).mono ?_; rintro e w' ⟨he, rfl⟩; rw [e2.out, HT.out] at he; subst he)
        refine hR.mono ?_
        rintro e W3 (⟨rfl, hJ3, hk3⟩ | ⟨rfl, hJx3⟩)
        · gi_wp2
          go_roundw
          case rel => exact ⟨k + 1, by omega, by go_num, by rw [listTo_hit s k HT.out]; exact hJ3, hnx.trans hk3⟩
          case measure => simp [intOf]; omega
        · gi_wp2
          refine bodyPost_ret (results_none rfl _ _ _) rfl ?_
          exact ⟨⟨_, rfl⟩, .inr ⟨_, ⟨k + 1, by omega, (listTo_hit s k HT.out).symm⟩, hJx3⟩⟩
    · obtain rfl : k = 64 := by omega
      gi_wp2
      go_end0
      exact ⟨⟨_, rfl⟩, .inl ⟨_, rfl, hJs⟩⟩

set_option maxHeartbeats 1000000 in
theorem rising_in (n : Nat) (s : Nat) (w : World) :
    CallsIn Fence.wide n Tryd.prog 44 #[.int .u64 s] w fun e w' => e = .returned (.func (.func 60) #[] #[.pointer (some ⟨w.heap.size, 0, none⟩)]) ∧ w' = w.alloc (.cells #[.int .u64 s] 94) := by
  refine callsIn_of_wp Tryd.func44 rfl trivial ?_ rfl
  simp only [Tryd.ntmps44, List.size_toArray, List.length_cons, List.length_nil, Nat.reduceAdd, Nat.reduceSub, Array.replicate_succ, Array.replicate_zero, List.push_toArray, List.append_toArray, List.nil_append, List.cons_append]
  gi_wp2
  go_ret
  exact ⟨rfl, rfl⟩

theorem rising_stops (n : Nat) (hn : 1 ≤ n) (Bs s : Nat) (hs : U64 s) (ga : Addr) (w : World) (hBs : Bs < w.heap.size)
    (hc : w.cell? ⟨Bs, 0, none⟩ = some (.int .u64 s)) (hg : Glob ga w) :
    SeqStopsK Fence.wide n Tryd.prog 60 #[.pointer (some ⟨Bs, 0, none⟩)] (fun x : Int => #[Value.int .i64 x]) (KpS Bs) (fun ys => ys = listTo s 64) (fun pre => ∃ k, k ≤ 64 ∧ pre = listTo s k) 64 w := fun l J Jx W hW _ _ hY h0 => by
  have hc' := (hW.cell (p := ⟨Bs, 0, none⟩) hBs).trans hc
  exact rising1_in n hn l Bs s hs ga J Jx hY W hc' (hg.below hg.lt hW) h0

set_option maxRecDepth 100000 in
set_option maxHeartbeats 1000000 in
theorem list_in (n : Nat) (hn : 3 ≤ n) (s : Nat) (hs : U64 s) (ga : Addr) (w : World) (hg : Glob ga w) :
    CallsIn Fence.wide n Tryd.prog 27 #[.int .u64 s] w (ListPost (listTo s 64) w) := by
  have h1 : 1 ≤ n := by omega
  obtain ⟨i0, hi, hz0, hz1, hz2⟩ := info_parts info3
  have hcl := cnt_le 64 s
  have H0 := hg.lt
  refine callsIn_of_wp_marks Tryd.func27 rfl trivial ?_ rfl
  simp only [Tryd.ntmps27, List.size_toArray, List.length_cons, List.length_nil, Nat.reduceAdd, Nat.reduceSub, Array.replicate_succ, Array.replicate_zero, List.push_toArray, List.append_toArray, List.nil_append, List.cons_append]
  gi_wp2_with (first | (refine ⟨trivial, ?_⟩; gi_at_call 43; refine (callsIn_wide.2 (count_any s hs _)).mono ?_; rintro e w' ⟨rfl, rfl⟩) | (gi_at_make; refine wpListIn_make_own _ rfl _ _ 41 rfl w.heap.size 3 i0 (.int .i64 0) 1 Tryd.underlying41 hi hz0 hz1 _ _ _ (cnt 64 s) rfl rfl rfl (by rw [hz2]; omega) (by unfold maxLen; omega) (Nat.le_refl _) ?_; intro w1 hrow0 hgrow0) | (refine ⟨trivial, ?_⟩; gi_at_call 44; refine (rising_in (n - 1) s _).mono ?_; rintro e w' ⟨rfl, rfl⟩))
  have z0 := hgrow0.size
  have zr := (hrow0.lt w.heap.size rfl).2
  have hB1 : Below w.heap.size w w1 := (Below.refl _ w).grown hgrow0 (Nat.le_refl _) (fun k e => by cases e)
  have bL := Boxed.new w1 41 (.slice (some ⟨w.heap.size, 0, none⟩) 0 (cnt 64 s))
  have bS := Boxed.new (w1.alloc (.cells #[.slice (some ⟨w.heap.size, 0, none⟩) 0 (cnt 64 s)] 41)) 94 (.int .u64 s)
  rw [World.size_alloc] at bS
  have hB2 : Below w.heap.size w ((w1.alloc (.cells #[.slice (some ⟨w.heap.size, 0, none⟩) 0 (cnt 64 s)] 41)).alloc (.cells #[.int .u64 s] 94)) := (hB1.alloc (by omega) _).alloc (by simp; omega) _
  refine wpIn_rangeFunc_ownG rfl h1 (gf := 60) (lb := #[.pointer (some ⟨w1.heap.size + 1, 0, none⟩)]) rfl trivial (enters_of Tryd.func60 (by kernel_rfl) rfl)
    (rising_stops (n - 1) (by omega) (w1.heap.size + 1) s hs ga _ (by simp) bS.cell (hg.below H0 hB2)) KpS.trans (KpS.putObj (by simp) (hg.below H0 hB2).lt) (Below.refl _ _) (fun _ => rfl)
    (fun (pre : List Int) W => ((∃ v, Boxed W w1.heap.size 41 v ∧ W.ownsRow w.heap.size 3 1 v pre.length (pre.map (Value.int .i64)) ∧ True) ∧ Boxed W (w1.heap.size + 1) 94 (.int .u64 s)) ∧ Below w.heap.size w W)
    (fun _ _ _ => False)
    (OwnFrom.and (OwnFrom.and (Own.from (holdsRow_own w.heap.size w1.heap.size 41 3 1 (fun pre : List Int => pre.length) (fun pre : List Int => pre.map (Value.int .i64)) (fun _ _ => True)) _) (Own.from (boxed_own _ _ _) _)) (ownFrom_below (Nat.le_refl _) (by simp; omega)))
    (fun _ _ _ _ _ hs _ _ => hs)
    ⟨⟨⟨_, bL.alloc _, (hrow0.alloc _).alloc _, trivial⟩, bS⟩, hB2⟩
    (fun x => { tmps := #[.int .u64 s, undef, .slice none 0 0, .pointer (some ⟨w1.heap.size, 0, none⟩), .int .i64 x, .int .u64 s, .int .i64 (cnt 64 s : Nat), .slice (some ⟨w.heap.size, 0, none⟩) 0 (cnt 64 s), .int .u64 s, .func (.func 60) #[] #[.pointer (some ⟨w1.heap.size + 1, 0, none⟩)], .int .i64 x, undef, undef, undef, undef, undef], defers := [] }) ?assign ?body ?done ?stop
  case assign =>
    intro l x W K hK
    gi_wp2
    exact hK
  case body =>
    rintro l pre x W ⟨⟨⟨v, hv, hrow, _⟩, bSW⟩, hB⟩ hlt
    have hc := hv.cell
    have hsz := hB.size
    clear hg bL bS hrow0 hgrow0 hB1 hB2
    gi_wp2_with (gi_at_builtin; refine wpListIn_append_own _ rfl _ _ 41 rfl w.heap.size 3 i0 (.int .i64 0) 1 8 Tryd.underlying41 hi hz0 hz1 hz2 rfl (by decide) _ _ _ rfl (hrow.alloc _) ⟨W.heap.size, 0, none⟩ 1 1 [.int .i64 x] rfl rfl (cell_one_new _ _ _) (by simp [Value.oneCell']) (by unfold maxLen; omega) (by omega) (by simp; omega) ?_; intro v' w2 hown' hgrow _; obtain ⟨g', cap', rfl⟩ := ownsRow_succ hown'; obtain ⟨hv1, hv2, hr2, hk2, hb2⟩ := hv.appended (by decide) hrow hsz (by omega) hown' hgrow; have hc1 := hv1.cell; have hf1 := hv1.frozen)
    have bS2 := ((bSW.alloc _).kept hgrow (bSW.not_row (by decide) hrow)).other (B' := w1.heap.size) (by omega) (.slice (some ⟨g', 0, none⟩) (pre.length + 1) cap')
    exact ⟨hk2.from _, ⟨bS2.cell.trans bSW.cell.symm, hb2.cell (p := ⟨2, 0, none⟩) H0⟩, ⟨⟨_, hv2, by simpa using hr2, trivial⟩, bS2⟩, hB.trans hb2⟩
  case done =>
    rintro D ys W hD rfl ⟨⟨⟨v, hv, hrow, _⟩, _⟩, hB⟩ hK
    obtain ⟨a, cap, rfl⟩ := owns_slice hrow
    have hc := hv.cell
    clear hg bL bS hrow0 hgrow0 hB1 hB2
    gi_wp2
    refine ⟨by simp, .inl ⟨_, _, rfl, run_takeDeferred hK, ?_⟩⟩
    exact ⟨_, results_tmp rfl _ _ _, _, _, _, rfl, rfl, ownsRow_putObj hrow _ hK rfl, hB.trans (belowK_b (w := w) (Nat.le_refl _) W D _ _ (by simp at hD; omega) hK rfl rfl)⟩
  case stop =>
    rintro D c pre W _ _ h _
    exact h.elim

theorem list_any (s : Nat) (hs : U64 s) (ga : Addr) (w : World) (hg : Glob ga w) : Calls Tryd.prog 27 #[.int .u64 s] w (ListPost (listTo s 64) w) :=
  (callsIn_wide (n := 3)).1 (list_in 3 (by omega) s hs ga w hg)

end Go.Proofs.YtcjokjipgeaikaaDoor.Ct
