/- The list's own methods. -/
import Derived.Test.YtjfooblnpkckfaaDoorSlBase
namespace Go.Proofs.YtjfooblnpkckfaaDoor
open Go.RowKit

theorem below_drews (w : World) (n : Nat) : Below w.heap.size w (w.drewN n) := ⟨rfl, rfl, rfl, Nat.le_refl _, fun _ _ => rfl⟩

set_option maxHeartbeats 400000 in
theorem len_any (a : Option Addr) (n c : Nat) (w : World) :
    Calls Tryd.prog 38 #[.slice a n c] w fun e w' => e = .returned (.int .i64 n) ∧ w = w' := by
  go_enter Tryd.func38, Tryd.ntmps38
  go_wp2
  go_ret
  exact ⟨rfl, rfl⟩

set_option maxHeartbeats 1000000 in
theorem less_any (n0 g c i j : Nat) (l : List Int) (x y : Int) (w : World) (h : Row n0 w g c l) (hi : l[i]? = some x) (hj : l[j]? = some y) :
    Calls Tryd.prog 60 #[.slice (some ⟨g, 0, none⟩) l.length c, .int .i64 i, .int .i64 j] w fun e w' => e = .returned (.bool (decide (x < y))) ∧ Below w.heap.size w w' := by
  have ci := h.get i x hi
  have cj := h.get j y hj
  have li := (List.getElem?_eq_some_iff.1 hi).1
  have lj := (List.getElem?_eq_some_iff.1 hj).1
  obtain ⟨_, hc, hm, _⟩ := h.at
  have HH := Lib.hid (And.intro h (And.intro hi hj))
  clear h hi hj
  obtain ⟨n, hn⟩ : ∃ n, l.length = n := ⟨_, rfl⟩
  rw [hn] at li lj hc ⊢
  go_enter Tryd.func60, Tryd.ntmps60
  go_wp2
  go_quiet (fail)
  go_wp2
  go_ret
  exact ⟨rfl, below_drews _ _⟩

set_option maxHeartbeats 2000000 in
theorem swap_any (n0 g c i j : Nat) (l : List Int) (x y : Int) (w : World) (h : Row n0 w g c l) (hi : l[i]? = some x) (hj : l[j]? = some y) :
    Calls Tryd.prog 61 #[.slice (some ⟨g, 0, none⟩) l.length c, .int .i64 i, .int .i64 j] w fun e w' => (∃ v, e = .returned v) ∧ Row n0 w' g c ((l.set i y).set j x) ∧ Fr g g g w w' := by
  have ci := h.get i x hi
  have cj := h.get j y hj
  have fi := h.frozen i
  have fj := h.frozen j
  have li := (List.getElem?_eq_some_iff.1 hi).1
  have lj := (List.getElem?_eq_some_iff.1 hj).1
  obtain ⟨_, hc, hm, _⟩ := h.at
  obtain ⟨v, hv⟩ : ∃ v, (w.setCell ⟨g, i, none⟩ (.int .i64 y)).cell? ⟨g, j, none⟩ = some v := by
    have h2 := h.set i y
    obtain ⟨z, hz⟩ : ∃ z, (l.set i y)[j]? = some z := ⟨_, List.getElem?_eq_getElem (by simpa using lj)⟩
    exact ⟨_, h2.get j z hz⟩
  have fv : (w.setCell ⟨g, i, none⟩ (.int .i64 y)).frozen? ⟨g, j, none⟩ = false := (h.set i y).frozen j
  have HH := Lib.hid (And.intro h (And.intro hi hj))
  clear h hi hj
  obtain ⟨n, hn⟩ : ∃ n, l.length = n := ⟨_, rfl⟩
  have HN := Lib.hid hn
  rw [hn] at li lj hc ⊢
  clear hn
  go_enter Tryd.func61, Tryd.ntmps61
  go_wp2
  go_region
  all_goals go_wp2
  all_goals go_end0
  all_goals exact ⟨⟨_, rfl⟩, (HH.out.1.set i y).set j x, ((Fr.set w ⟨g, i, none⟩ _ (.inl rfl)).trans (Fr.set _ ⟨g, j, none⟩ _ (.inl rfl))).drew⟩

theorem Row.take {n0 : Nat} {W : World} {g c : Nat} {l : List Int} {x : Int} (h : Row n0 W g c (l ++ [x])) : Row n0 W g c l := by
  obtain ⟨hb, hnc, hcm, cur, hg⟩ := h.at
  rcases h.2 with ⟨h', _⟩ | ⟨g', cap', cur', h', _, hg', _, _, hs, ht⟩
  · simp at h'
  · simp only [Value.slice.injEq, Option.some.injEq, Addr.mk.injEq, and_true, true_and] at h'
    obtain ⟨rfl, rfl⟩ := h'
    refine ⟨by simp [ic], .inr ⟨g, c, cur', rfl, hb, hg', by simp at hnc; omega, hcm, hs, ?_⟩⟩
    have := congrArg (List.take l.length) ht
    rw [List.take_take] at this
    simpa [ic] using this

set_option maxHeartbeats 1000000 in
theorem pop_any (n0 S g c : Nat) (l : List Int) (x : Int) (v0 v2 : Value) (w : World) (ho : Obj3 w S v0 (.slice (some ⟨g, 0, none⟩) (l.length + 1) c) v2) (h : Row n0 w g c (l ++ [x])) :
    Calls Tryd.prog 62 #[.pointer (some ⟨S, 1, none⟩)] w fun e w' => e = .returned (.iface 3 (.int .i64 x)) ∧ w' = w.setCell ⟨S, 1, none⟩ (.slice (some ⟨g, 0, none⟩) l.length c) := by
  have c1 := ho.c1
  have f1 := ho.fz 1
  have cx := h.get l.length x (by simp)
  obtain ⟨_, hc, hm, _⟩ := h.at
  simp only [List.length_append, List.length_cons, List.length_nil, Nat.zero_add] at hc
  have HH := Lib.hid (And.intro ho h)
  clear ho h
  obtain ⟨n, hn⟩ : ∃ n, l.length = n := ⟨_, rfl⟩
  rw [hn] at hc cx c1 ⊢
  clear hn
  have hm2 : c < 9223372036854775808 := by unfold maxLen at hm; omega
  clear hm
  go_enter Tryd.func62, Tryd.ntmps62
  go_wp2
  go_ret
  exact ⟨rfl, rfl⟩

theorem isInt (v : Value) (w : World) : (Instr.typeAssert (.iface 3 v) 20 3 true).run Tryd.prog w = .ok (.tuple #[v, .bool true]) w := by kernel_rfl
/-- The slice v has the numbers l, in a row of its own from n0 on, or is nil. -/
def RowV (n0 : Nat) (W : World) (v : Value) (l : List Int) : Prop := W.ownsRow n0 3 1 v l.length (ic l)
theorem Row.v {n0 : Nat} {W : World} {g c : Nat} {l : List Int} (h : Row n0 W g c l) : RowV n0 W (.slice (some ⟨g, 0, none⟩) l.length c) l := h
theorem RowV.slice {n0 : Nat} {W : World} {v : Value} {l : List Int} (h : RowV n0 W v l) : ∃ a c, v = .slice a l.length c := by
  rcases h.2 with ⟨rfl, h0⟩ | ⟨g, cap, cur, rfl, _⟩
  · exact ⟨none, 0, by rw [h0]⟩
  · exact ⟨_, cap, rfl⟩
theorem RowV.type {n0 : Nat} {W : World} {v : Value} {l : List Int} (h : RowV n0 W v l) {k : Nat} (hk : v.ownBlock = some k) : ∃ cur, W.heap[k]? = some (.cells cur 3 (0, 0)) := by
  rcases h.2 with ⟨rfl, h0⟩ | ⟨g, cap, cur, rfl, _, hg, _⟩
  · cases hk
  · cases hk; exact ⟨cur, hg⟩
/-- The row's block; S, if there is none. -/
def ob (v : Value) (S : Nat) : Nat := v.ownBlock.getD S
theorem ob_ne {n0 : Nat} {W : World} {v v0 v1 v2 : Value} {S : Nat} {l : List Int} (h : RowV n0 W v l) (ho : Obj3 W S v0 v1 v2) : v.ownBlock ≠ some S := fun e => by
  obtain ⟨cur, hc⟩ := h.type e
  rw [show W.heap[S]? = _ from ho] at hc
  cases hc

/-- What Push leaves. -/
def Pushed (n0 S : Nat) (v : Value) (l : List Int) (x : Int) (v0 v2 : Value) (w : World) (w' : World) : Prop :=
  ∃ g' c', Obj3 w' S v0 (.slice (some ⟨g', 0, none⟩) (l.length + 1) c') v2 ∧ Row n0 w' g' c' (l ++ [x]) ∧ Fr S (ob v S) (ob v S) w w' ∧ (∀ g c, v = .slice (some ⟨g, 0, none⟩) l.length c → l.length + 1 ≤ c → g' = g ∧ c' = c)

theorem pushed_of {n0 S : Nat} {v v' : Value} {l : List Int} {x : Int} {v0 v2 : Value} {w w5 : World} {tmp : Obj} (ho : Obj3 w S v0 v v2) (hr : RowV n0 w v l) (hown : w5.ownsRow n0 3 1 v' (l.length + 1) (ic l ++ [.int .i64 x])) (hg : (w.alloc tmp).grownBy w5 v.ownBlock)
    (hcap : ∀ g c, v = .slice (some ⟨g, 0, none⟩) l.length c → l.length + 1 ≤ c → v' = .slice (some ⟨g, 0, none⟩) (l.length + 1) c) : Obj3 w5 S v0 v v2 ∧ Pushed n0 S v l x v0 v2 w (w5.setCell ⟨S, 1, none⟩ v') := by
  have hS := ho.lt
  have h5 : Obj3 w5 S v0 v v2 := ((hg.block S (by simp; omega) (fun e => ob_ne hr ho e.symm)).trans (Below.heap_alloc _ _ _ hS)).trans ho
  refine ⟨h5, ?_⟩
  obtain ⟨g', c', rfl⟩ := ownsRow_succ hown
  have hrow : Row n0 w5 g' c' (l ++ [x]) := by
    unfold Row
    simpa [ic] using hown
  have hne : g' ≠ S := fun e => by
    obtain ⟨_, _, _, cur, hc⟩ := hrow.at
    rw [e, show w5.heap[S]? = _ from h5] at hc
    cases hc
  refine ⟨g', c', h5.set1 _, hrow.of_block (Below.heap_setCell _ _ _ _ hne), ?_, fun g c hv hc => ?_⟩
  · refine ((Fr.of_below (Below.new w tmp)).trans (Fr.grown hg (fun k e => .inr (.inl ?_)))).trans (Fr.set _ _ _ (.inl rfl))
    simp [ob, e]
  · have := hcap g c hv hc
    simpa using this

set_option maxRecDepth 100000 in
set_option maxHeartbeats 1000000 in
theorem push_any (n0 S : Nat) (v : Value) (l : List Int) (x : Int) (v0 v2 : Value) (w : World) (hl : l.length ≤ 1000) (hn0 : n0 ≤ w.heap.size) (ho : Obj3 w S v0 v v2) (h : RowV n0 w v l) :
    Calls Tryd.prog 63 #[.pointer (some ⟨S, 1, none⟩), .iface 3 (.int .i64 x)] w fun e w' => (∃ u, e = .returned u) ∧ Pushed n0 S v l x v0 v2 w w' := by
  obtain ⟨i0, hi, hz0, hz1, hz2⟩ := info_parts infoInt
  have c1 := ho.c1
  have f1 := ho.fz 1
  have hS := ho.lt
  have HC : ∀ j u, [Value.int .i64 x][j]? = some u → (w.alloc (.cells #[.int .i64 x] 3)).cell? ((⟨w.heap.size, 0, none⟩ : Addr).add j) = some u := by
    intro j u hu
    match j, hu with
    | 0, hu => simp at hu; subst hu; simp [Addr.add]
  have HH := Lib.hid (And.intro ho (And.intro h HC))
  have hti := isInt
  obtain ⟨a, c, hv⟩ := h.slice
  clear ho HC
  by_cases hcap : ∃ g, a = some ⟨g, 0, none⟩ ∧ l.length + 1 ≤ c
  · obtain ⟨g, rfl, hc⟩ := hcap
    have hr := h.alloc (.cells #[.int .i64 x] 3)
    subst hv
    clear h
    obtain ⟨n, hn⟩ : ∃ n, l.length = n := ⟨_, rfl⟩
    have HN := Lib.hid hn
    rw [hn] at hr hl hc c1
    clear hn
    rw [HN.out]
    go_enter Tryd.func63, Tryd.ntmps63
    go_wp2_with (at_builtin; go_loud (refine wpList_append_fits _ rfl _ _ 48 rfl n0 3 i0 1 Tryd.underlying48 hi hz1 g n c (ic l) rfl hr ⟨w.heap.size, 0, none⟩ 1 1 [.int .i64 x] rfl rfl HH.out.2.2 (by simp [Value.oneCell']) hc ?_; intro w5 hown' hgrow; obtain ⟨h5, hP⟩ := pushed_of (v' := .slice (some ⟨g, 0, none⟩) (n + 1) c) HH.out.1 HH.out.2.1 (by rw [HN.out]; exact hown') hgrow (fun g' c' e hc' => by rw [HN.out] at e ⊢; cases e; rfl); have hc5 := h5.c1; have hf5 := h5.fz 1; have HP := Lib.hid hP; clear h5 hP))
    go_end0
    rw [HN.out] at HP
    exact ⟨⟨_, rfl⟩, HP.out⟩
  · have hr := h.alloc (.cells #[.int .i64 x] 3)
    subst hv
    clear h
    obtain ⟨n, hn⟩ : ∃ n, l.length = n := ⟨_, rfl⟩
    have HN := Lib.hid hn
    rw [hn] at hr hl c1
    have HA := Lib.hid hcap
    clear hn hcap
    rw [HN.out]
    go_enter Tryd.func63, Tryd.ntmps63
    go_wp2_with (at_builtin; go_loud (refine wpList_append_own _ rfl _ _ 48 rfl n0 3 i0 (.int .i64 0) 1 8 Tryd.underlying48 hi hz0 hz1 hz2 rfl (by decide) (.slice a n c) n (ic l) rfl hr ⟨w.heap.size, 0, none⟩ 1 1 [.int .i64 x] rfl rfl HH.out.2.2 (by simp [Value.oneCell']) (by unfold maxLen; omega) (by omega) (by simp; omega) ?_; intro v' w5 hown' hgrow _; obtain ⟨h5, hP⟩ := pushed_of (v' := v') HH.out.1 HH.out.2.1 (by rw [HN.out]; exact hown') (by rw [HN.out]; exact hgrow) (fun g' c' e hc' => by rw [HN.out] at e hc'; cases e; exact absurd ⟨g', rfl, by rw [HN.out]; exact hc'⟩ HA.out); obtain ⟨g2, c2, rfl⟩ := ownsRow_succ hown'; have hc5 := h5.c1; have hf5 := h5.fz 1; have HP := Lib.hid hP; clear h5 hP))
    go_end0
    rw [HN.out] at HP
    exact ⟨⟨_, rfl⟩, HP.out⟩

end Go.Proofs.YtjfooblnpkckfaaDoor
