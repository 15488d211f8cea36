/- All: the live handles, in a slice of their own. -/
import Derived.Test.YtjfooblnpkckfaaDoorSlTop
namespace Go.Proofs.YtjfooblnpkckfaaDoor
open Go.RowKit Go.Proofs.Slt Go.Shelf

attribute [local go_sem] Oper.semAt_some

/-- Handles' cells. -/
def hcl : List Hnd → List Value
  | [] => []
  | x :: r => [.int .i64 x.1, .int .i64 x.2] ++ hcl r
theorem hcl_append (l m : List Hnd) : hcl (l ++ m) = hcl l ++ hcl m := by
  induction l with
  | nil => rfl
  | cons a r ih => simp [hcl, ih]
theorem hcl_length (l : List Hnd) : (hcl l).length = l.length * 2 := by
  induction l with
  | nil => rfl
  | cons a r ih => simp only [hcl, List.length_append, List.length_cons, List.length_nil, ih]; omega
theorem hcl_get (l : List Hnd) (j : Nat) (x : Hnd) (h : l[j]? = some x) : (hcl l)[j * 2]? = some (.int .i64 x.1) ∧ (hcl l)[j * 2 + 1]? = some (.int .i64 x.2) := by
  induction l generalizing j with
  | nil => simp at h
  | cons a r ih =>
    cases j with
    | zero =>
      simp at h
      subst h
      exact ⟨rfl, rfl⟩
    | succ j =>
      have hi := ih j (by simpa using h)
      have e : ∀ i, (hcl (a :: r))[(j + 1) * 2 + i]? = (hcl r)[j * 2 + i]? := fun i => by
        show ([.int .i64 a.1, .int .i64 a.2] ++ hcl r)[(j + 1) * 2 + i]? = _
        rw [List.getElem?_append_right (by simp; omega)]
        congr 1
        simp
        omega
      exact ⟨(e 0).trans hi.1, (e 1).trans hi.2⟩
/-- The slice v has the handles l, in a row of its own from n0 on, or is nil. -/
def Hs (n0 : Nat) (W : World) (v : Value) (l : List Hnd) : Prop := W.ownsRow n0 32 2 v l.length (hcl l)
theorem Hs.slice {n0 : Nat} {W : World} {v : Value} {l : List Hnd} (h : Hs n0 W v l) : ∃ a c, v = .slice a l.length c := by
  rcases h.2 with ⟨rfl, h0⟩ | ⟨g, cap, cur, rfl, _⟩
  · exact ⟨none, 0, by rw [h0]⟩
  · exact ⟨_, cap, rfl⟩
theorem Hs.get {n0 : Nat} {W : World} {v : Value} {l : List Hnd} (h : Hs n0 W v l) {j : Nat} {x : Hnd} (hj : l[j]? = some x) : ∃ g c, v = .slice (some ⟨g, 0, none⟩) l.length c ∧ n0 ≤ g ∧ g < W.heap.size ∧ l.length ≤ c ∧ c ≤ maxLen ∧ W.cell? ⟨g, j * 2, none⟩ = some (.int .i64 x.1) ∧ W.cell? ⟨g, j * 2 + 1, none⟩ = some (.int .i64 x.2) := by
  have hl := (List.getElem?_eq_some_iff.1 hj).1
  have h' : W.ownsRow n0 32 2 v l.length (hcl l) := h
  rcases h.2 with ⟨_, h0⟩ | ⟨g, cap, cur, rfl, hb, hg, hn, hm, _⟩
  · omega
  · obtain ⟨k0, k1⟩ := hcl_get l j x hj
    exact ⟨g, cap, rfl, hb, (Array.getElem?_eq_some_iff.1 hg).1, hn, hm, (World.ownsRow.cellAt h' _ (by omega)).trans k0, (World.ownsRow.cellAt h' _ (by omega)).trans k1⟩

/-- What AppendSeq leaves. -/
def AllPost (st : St) (w : World) (e : Ending) (w' : World) : Prop := ∃ v, e = .returned v ∧ Hs w.heap.size w' v (allR st) ∧ Below w.heap.size w w'
/-- Between two rounds. -/
def AllI (w : World) (B : Nat) (pre : List Hnd) (W : World) : Prop := (∃ v, Boxed W B 39 v ∧ W.ownsRow w.heap.size 32 2 v pre.length (hcl pre) ∧ True) ∧ Below w.heap.size w W
theorem h_new (W : World) (a : Hnd) : ∀ j u, [Value.int .i64 a.1, .int .i64 a.2][j]? = some u → (W.alloc (.cells #[.int .i64 a.1, .int .i64 a.2] 32)).cell? ((⟨W.heap.size, 0, none⟩ : Addr).add j) = some u := by
  intro j u hu
  match j, hu with
  | 0, hu => simp at hu; subst hu; simp [Addr.add]
  | 1, hu => simp at hu; subst hu; simp [Addr.add]

set_option maxRecDepth 100000 in
set_option maxHeartbeats 2000000 in
theorem appendSeq_in (n : Nat) (hn : 3 ≤ n) (n0 Bs : Nat) (p : Pl) (st : St) (w : World) (hs : Sl n0 w p st) (hBs : w.cell? ⟨Bs, 0, none⟩ = some (.pointer (some ⟨p.S, 0, none⟩))) :
    CallsIn Fence.wide n Tryd.prog 34 #[.slice none 0 0, .func (.func 35) #[] #[.pointer (some ⟨Bs, 0, none⟩)]] w (AllPost st w) := by
  have hn1 : 1 ≤ n := by omega
  obtain ⟨i0, hi, hz0, hz1, hz2⟩ := info_parts infoH
  obtain ⟨fr, hs⟩ := hs
  refine callsIn_of_wp_marks Tryd.func34 rfl trivial ?_ rfl
  simp only [Tryd.ntmps34, List.size_toArray, List.length_cons, List.length_nil, Nat.reduceAdd, Nat.reduceSub, Array.replicate_succ, Array.replicate_zero, List.push_toArray, List.append_toArray, List.nil_append, List.cons_append]
  have HH := Lib.hid (And.intro hs hBs)
  clear hs hBs
  gi_wp2
  have b0 := Boxed.new w 39 (.slice none 0 0)
  have hB0 := Below.new w (.cells #[.slice none 0 0] 39)
  obtain ⟨W0, hW0⟩ : ∃ W0, w.alloc (.cells #[.slice none 0 0] 39) = W0 := ⟨_, rfl⟩
  have hz0' : W0.heap.size = w.heap.size + 1 := by rw [← hW0]; simp
  rw [hW0] at b0 hB0 ⊢
  clear hW0
  refine wpIn_rangeFunc_ownH rfl hn1 (gf := 35) (lb := #[.pointer (some ⟨Bs, 0, none⟩)]) rfl trivial (enters_of Tryd.func35 (by kernel_rfl) rfl)
    (live_stops (n - 1) (by omega) w.heap.size n0 Bs p.S p.g1 p.c1 _ _ st (Nat.le_trans HH.out.1.few (by omega)) W0 hB0.size HH.out.1.rs.lt HH.out.1.obj.lt (cell_later hB0 HH.out.2) (HH.out.1.obj.of_block (hB0.block _ HH.out.1.obj.lt)) (HH.out.1.rs.of_block (hB0.block _ HH.out.1.rs.lt))) belowK_t (belowK_b hB0.size) (Below.refl _ _) (fun _ => rfl)
    (AllI w w.heap.size) (fun _ _ _ => False) ?hI ?hIx ?h0
    (fun x a' W => ∃ (Bx : Nat), w.heap.size < Bx ∧ W.cell? ⟨Bx, 0, none⟩ = some (.int .i64 x.1) ∧ W.cell? ⟨Bx, 1, none⟩ = some (.int .i64 x.2) ∧ a' = { tmps := #[.slice none 0 0, .func (.func 35) #[] #[.pointer (some ⟨Bs, 0, none⟩)], .pointer (some ⟨w.heap.size, 0, none⟩), undef, .slice none 0 0, .pointer (some ⟨Bx, 0, none⟩), .func (.func 35) #[] #[.pointer (some ⟨Bs, 0, none⟩)], .agg #[.int .i64 x.1, .int .i64 x.2], undef, undef, undef, undef, undef], defers := [] })
    ?hAx ?assign ?body ?done ?stop
  case hI =>
    exact OwnFrom.and (Own.from (holdsRow_own w.heap.size w.heap.size 39 32 2 (fun pre : List Hnd => pre.length) hcl (fun _ _ => True)) _) (ownFrom_below (Nat.le_refl _) hB0.size)
  case hIx => exact fun _ _ _ _ _ hs _ _ => hs
  case hAx =>
    rintro x a' _ A B row ⟨Bx, hx, x0, x1, rfl⟩ hg hr
    exact ⟨Bx, hx, cell_kept x0 hg (fun r e => (hr r e).2), cell_kept x1 hg (fun r e => (hr r e).2), rfl⟩
  case h0 => exact ⟨⟨_, b0, World.ownsRow_nil _ _ _ _, trivial⟩, hB0⟩
  case assign =>
    rintro l pre x W K ⟨⟨v, x1, x2, _⟩, hB⟩ hK
    have hlt := x1.lt
    have HK := Lib.hid hK
    have HX := Lib.hid (And.intro x1 x2)
    clear hK x1 x2 b0
    simp only [hv]
    gi_wp2
    exact HK.out _ _ ((KeepsOthers.alloc _ _).from _) ((Below.refl _ W).alloc hB.size _) ⟨⟨v, HX.out.1.alloc _, HX.out.2.alloc _, trivial⟩, hB.alloc hB.size _⟩ ⟨W.heap.size, hlt, by simp, by simp, rfl⟩
  case body =>
    rintro l pre x a' W hl ⟨r, hr⟩ ⟨⟨v, x1, x2, _⟩, hB⟩ ⟨Bx, hBx, y0, y1, rfl⟩ hlt
    have c2 := x1.cell
    have hsz := hB.size
    have hpl : pre.length ≤ 1000 := by have := allR_le st; have := HH.out.1.few; omega
    obtain ⟨va, vc, rfl⟩ := (show Hs w.heap.size W v pre from x2).slice
    have HN := Lib.hid (h_new W x)
    clear b0 hr hlt
    gi_wp2_with (gi_at_builtin; go_loud (refine wpListIn_append_own _ rfl _ _ 39 rfl w.heap.size 32 i0 (.agg #[.int .i64 0, .int .i64 0]) 2 16 Tryd.underlying39 hi hz0 hz1 hz2 rfl (by decide) (.slice va pre.length vc) pre.length (hcl pre) rfl (x2.alloc (.cells #[.int .i64 x.1, .int .i64 x.2] 32)) ⟨W.heap.size, 0, none⟩ 1 1 [.int .i64 x.1, .int .i64 x.2] rfl rfl HN.out (by simp [Value.oneCell']) (by unfold maxLen; omega) (by omega) (by simp; omega) ?_; intro v' w5 hown' hgrow _; obtain ⟨g', cap', rfl⟩ := ownsRow_succ hown'; obtain ⟨hv1, hv2, hr2, hk2, hb2⟩ := x1.appended (by decide) x2 (by omega) (by omega) hown' hgrow; have hc1 := hv1.cell; have hf1 := hv1.frozen))
    refine ⟨hk2.from _, hb2, ⟨⟨_, hv2, ?_, trivial⟩, hB.trans hb2⟩⟩
    rw [hcl_append, List.length_append]
    exact hr2
  case done =>
    rintro D ys W hD rfl ⟨⟨v, x1, x2, _⟩, hB⟩ hK
    have c2 := x1.cell
    have hD2 : w.heap.size ≤ D := Nat.le_trans hB0.size hD
    obtain ⟨va, vc, rfl⟩ := (show Hs w.heap.size W v (allR st) from x2).slice
    have HX := Lib.hid (And.intro x2 (And.intro hB hK))
    clear x1 x2 hB hK b0
    gi_wp2
    refine ⟨by simp, .inl ⟨_, _, rfl, run_takeDeferred HX.out.2.2, ?_⟩⟩
    refine ⟨.slice va (allR st).length vc, results_tmp (t := 4) rfl _ _ _, .slice va (allR st).length vc, rfl, ownsRow_putObj HX.out.1 _ HX.out.2.2 rfl, HX.out.2.1.trans (belowK_b (w := w) (Nat.le_refl _) W D _ _ hD2 HX.out.2.2 rfl rfl)⟩
  case stop =>
    rintro D c pre W _ _ h _
    exact h.elim

set_option maxHeartbeats 1000000 in
theorem collect_any (n0 Bs : Nat) (p : Pl) (st : St) (w : World) (hs : Sl n0 w p st) (hBs : w.cell? ⟨Bs, 0, none⟩ = some (.pointer (some ⟨p.S, 0, none⟩))) :
    Calls Tryd.prog 27 #[.func (.func 35) #[] #[.pointer (some ⟨Bs, 0, none⟩)]] w (AllPost st w) := by
  have HH := Lib.hid (And.intro hs hBs)
  clear hs hBs
  go_enter Tryd.func27, Tryd.ntmps27
  go_wp2_with (go_at_call 34; refine (callsIn_wide.1 (appendSeq_in 3 (Nat.le_refl _) n0 Bs p st w HH.out.1 HH.out.2)).mono ?_)
  rintro e w1 ⟨v, rfl, hp⟩
  have HP := Lib.hid hp
  obtain ⟨a, c, rfl⟩ := hp.1.slice
  clear hp
  go_wp2
  go_ret
  exact ⟨_, rfl, HP.out⟩

theorem Hs.mono {n0 n1 : Nat} {W : World} {v : Value} {l : List Hnd} (h : Hs n0 W v l) (hn : n1 ≤ n0) : Hs n1 W v l := World.ownsRow.mono h hn

set_option maxHeartbeats 1000000 in
theorem All_any (n0 : Nat) (p : Pl) (st : St) (w : World) (hs : Sl n0 w p st) :
    Calls Tryd.prog 20 #[.pointer (some ⟨p.S, 0, none⟩)] w (AllPost st w) := by
  have hb := Below.new w (.cells #[.pointer (some ⟨p.S, 0, none⟩)] 24)
  have HH := Lib.hid (And.intro (hs.more hb) hb)
  clear hs hb
  go_enter Tryd.func20, Tryd.ntmps20
  go_wp2_with (first
    | (go_at_call 28; refine (callsIn_wide.1 (live_in 1 p.S w)).mono ?_; rintro e w' ⟨rfl, rfl⟩)
    | (go_at_call 27; go_loud (refine (collect_any n0 w.heap.size p st _ HH.out.1 (by simp)).mono ?_)))
  rintro e w1 ⟨v, rfl, h1, h2⟩
  have HP := Lib.hid (And.intro h1 h2)
  obtain ⟨a, c, rfl⟩ := h1.slice
  clear h1 h2
  go_wp2
  go_ret
  exact ⟨_, rfl, HP.out.1.mono (by simp), below_more HH.out.2 HP.out.2⟩

end Go.Proofs.YtjfooblnpkckfaaDoor
