/- Slots as they lie; the iterator over the live ones. -/
import Derived.Test.YtjfooblnpkckfaaDoorSlTold
namespace Go.Proofs.Slt

/-- Slots: of each its generation, and whether it is taken. -/
abbrev St := List (Nat × Bool)
/-- A handle: slot, generation. -/
abbrev Hnd := Nat × Nat
/-- The live handles of slots that are numbered from k on. -/
def allFrom : Nat → St → List Hnd
  | _, [] => []
  | k, (g, b) :: r => (if b then [(k, g)] else []) ++ allFrom (k + 1) r
def allR (st : St) : List Hnd := allFrom 0 st
theorem allFrom_append (k : Nat) (a b : St) : allFrom k (a ++ b) = allFrom k a ++ allFrom (k + a.length) b := by
  induction a generalizing k with
  | nil => simp [allFrom]
  | cons x r ih => obtain ⟨g, t⟩ := x; simp [allFrom, ih, Nat.add_assoc, Nat.add_comm 1]
/-- .. of the first k. -/
def lv (st : St) (k : Nat) : List Hnd := allFrom 0 (st.take k)
theorem lv_succ {st : St} {k g : Nat} {b : Bool} (h : st[k]? = some (g, b)) : lv st (k + 1) = lv st k ++ (if b then [(k, g)] else []) := by
  obtain ⟨hk, e⟩ := List.getElem?_eq_some_iff.1 h
  unfold lv
  rw [List.take_add_one, h, allFrom_append]
  simp [allFrom, Nat.min_eq_left (Nat.le_of_lt hk)]
theorem lv_all {st : St} {k : Nat} (h : st.length ≤ k) : lv st k = allR st := by rw [lv, List.take_of_length_le h, allR]
theorem lv_prefix (st : St) (k : Nat) : lv st k <+: allR st := by
  refine ⟨allFrom (0 + (st.take k).length) (st.drop k), ?_⟩
  unfold lv allR
  rw [← allFrom_append, List.take_append_drop]
theorem lv_length_lt {st : St} {k g : Nat} (h : st[k]? = some (g, true)) : (lv st k).length < (allR st).length := by
  have h1 := lv_succ h
  have h2 := (lv_prefix st (k + 1)).length_le
  rw [h1] at h2
  simp at h2
  omega
theorem mem_allFrom (k : Nat) (st : St) (h : Hnd) : h ∈ allFrom k st ↔ k ≤ h.1 ∧ st[h.1 - k]? = some (h.2, true) := by
  obtain ⟨s, g⟩ := h
  induction st generalizing k with
  | nil => simp [allFrom]
  | cons x r ih =>
    obtain ⟨g', t⟩ := x
    simp only [allFrom, List.mem_append, ih]
    by_cases e : s = k
    · subst e
      cases t <;> simp <;> omega
    · constructor
      · rintro (h | ⟨h1, h2⟩)
        · cases t <;> simp at h
          exact absurd h.1 e
        · refine ⟨by omega, ?_⟩
          rw [show s - k = (s - (k + 1)) + 1 by omega, List.getElem?_cons_succ]
          exact h2
      · rintro ⟨h1, h2⟩
        refine .inr ⟨by omega, ?_⟩
        rw [show s - k = (s - (k + 1)) + 1 by omega, List.getElem?_cons_succ] at h2
        exact h2
theorem mem_allR (st : St) (h : Hnd) : h ∈ allR st ↔ st[h.1]? = some (h.2, true) := by
  unfold allR
  rw [mem_allFrom]
  simp

end Go.Proofs.Slt
namespace Go.Proofs.YtjfooblnpkckfaaDoor
open Go.RowKit Go.Proofs.Slt Go.Shelf

attribute [local go_sem] Oper.semAt_some

/-- The slots' cells. -/
def sc : Nat → St → List Value
  | _, [] => []
  | k, (g, b) :: r => [.int .i64 k, .int .i64 g, .bool b] ++ sc (k + 1) r
theorem sc_length (k : Nat) (st : St) : (sc k st).length = st.length * 3 := by
  induction st generalizing k with
  | nil => rfl
  | cons x r ih => obtain ⟨g, b⟩ := x; simp only [sc, List.length_append, List.length_cons, List.length_nil, ih]; omega
theorem sc_append (k : Nat) (a b : St) : sc k (a ++ b) = sc k a ++ sc (k + a.length) b := by
  induction a generalizing k with
  | nil => simp [sc]
  | cons x r ih => obtain ⟨g, t⟩ := x; simp [sc, ih, Nat.add_assoc, Nat.add_comm 1]
theorem sc_get (k : Nat) (st : St) (j g : Nat) (b : Bool) (h : st[j]? = some (g, b)) : (sc k st)[j * 3]? = some (.int .i64 ((k + j : Nat) : Int)) ∧ (sc k st)[j * 3 + 1]? = some (.int .i64 g) ∧ (sc k st)[j * 3 + 2]? = some (.bool b) := by
  induction st generalizing j k with
  | nil => simp at h
  | cons a r ih =>
    obtain ⟨g', b'⟩ := a
    cases j with
    | zero =>
      simp at h
      obtain ⟨rfl, rfl⟩ := h
      exact ⟨rfl, rfl, rfl⟩
    | succ j =>
      have hi := ih (k + 1) j (by simpa using h)
      have e : ∀ i, (sc k ((g', b') :: r))[(j + 1) * 3 + i]? = (sc (k + 1) r)[j * 3 + i]? := fun i => by
        show ([.int .i64 k, .int .i64 g', .bool b'] ++ sc (k + 1) r)[(j + 1) * 3 + i]? = _
        rw [List.getElem?_append_right (by simp; omega)]
        congr 1
        simp
        omega
      refine ⟨(e 0).trans ?_, (e 1).trans hi.2.1, (e 2).trans hi.2.2⟩
      rw [show j * 3 + 0 = j * 3 from rfl, hi.1, show k + 1 + j = k + (j + 1) by omega]
/-- The slots st lie in a row of their own. -/
def Rs (n0 : Nat) (W : World) (g1 c1 : Nat) (st : St) : Prop := W.ownsRow n0 59 3 (.slice (some ⟨g1, 0, none⟩) st.length c1) st.length (sc 0 st)
theorem Rs.get {n0 : Nat} {W : World} {g1 c1 : Nat} {st : St} (h : Rs n0 W g1 c1 st) {j g : Nat} {b : Bool} (hj : st[j]? = some (g, b)) :
    W.cell? ⟨g1, j * 3, none⟩ = some (.int .i64 j) ∧ W.cell? ⟨g1, j * 3 + 1, none⟩ = some (.int .i64 g) ∧ W.cell? ⟨g1, j * 3 + 2, none⟩ = some (.bool b) := by
  obtain ⟨k0, k1, k2⟩ := sc_get 0 st j g b hj
  have hl := (List.getElem?_eq_some_iff.1 hj).1
  rw [Nat.zero_add] at k0
  exact ⟨(World.ownsRow.cellAt h _ (by omega)).trans k0, (World.ownsRow.cellAt h _ (by omega)).trans k1, (World.ownsRow.cellAt h _ (by omega)).trans k2⟩
theorem Rs.frozen {n0 : Nat} {W : World} {g1 c1 : Nat} {st : St} (h : Rs n0 W g1 c1 st) (j : Nat) : W.frozen? ⟨g1, j, none⟩ = false := World.ownsRow.frozenAt h j
theorem Rs.at {n0 : Nat} {W : World} {g1 c1 : Nat} {st : St} (h : Rs n0 W g1 c1 st) : n0 ≤ g1 ∧ st.length ≤ c1 ∧ c1 ≤ maxLen ∧ ∃ cur, W.heap[g1]? = some (.cells cur 59 (0, 0)) := by
  rcases h.2 with ⟨h', _⟩ | ⟨g', cap', cur, h', hb, hg, hnc, hcm, _⟩
  · simp at h'
  · simp only [Value.slice.injEq, Option.some.injEq, Addr.mk.injEq, and_true, true_and] at h'
    obtain ⟨rfl, rfl⟩ := h'
    exact ⟨hb, hnc, hcm, cur, hg⟩
theorem Rs.lt {n0 : Nat} {W : World} {g1 c1 : Nat} {st : St} (h : Rs n0 W g1 c1 st) : g1 < W.heap.size := by
  obtain ⟨_, _, _, cur, hg⟩ := h.at
  exact (Array.getElem?_eq_some_iff.1 hg).1
theorem Rs.of_block {n0 : Nat} {W W' : World} {g1 c1 : Nat} {st : St} (h : Rs n0 W g1 c1 st) (e : W'.heap[g1]? = W.heap[g1]?) : Rs n0 W' g1 c1 st := by
  refine ⟨h.1, ?_⟩
  rcases h.2 with ⟨h', _⟩ | ⟨g', cap', cur, h', hb, hg, rest⟩
  · simp at h'
  · have h'' := h'
    simp only [Value.slice.injEq, Option.some.injEq, Addr.mk.injEq, and_true, true_and] at h''
    obtain ⟨rfl, rfl⟩ := h''
    exact .inr ⟨g1, c1, cur, rfl, hb, e.trans hg, rest⟩
theorem sc_set (k : Nat) (st : St) (j g g' : Nat) (b b' : Bool) (h : st[j]? = some (g, b)) : (sc k st).set (j * 3 + 1) (.int .i64 g') = sc k (st.set j (g', b)) ∧ (sc k st).set (j * 3 + 2) (.bool b') = sc k (st.set j (g, b')) := by
  induction st generalizing j k with
  | nil => simp at h
  | cons a r ih =>
    obtain ⟨g0, b0⟩ := a
    cases j with
    | zero =>
      simp at h
      obtain ⟨rfl, rfl⟩ := h
      exact ⟨rfl, rfl⟩
    | succ j =>
      have hi := ih (k + 1) j (by simpa using h)
      have e : ∀ i u, (sc k ((g0, b0) :: r)).set ((j + 1) * 3 + i) u = [Value.int .i64 k, .int .i64 g0, .bool b0] ++ (sc (k + 1) r).set (j * 3 + i) u := fun i u => by
        show ([Value.int .i64 k, .int .i64 g0, .bool b0] ++ sc (k + 1) r).set _ _ = _
        rw [List.set_append_right _ _ (by simp; omega)]
        congr 2
        simp
        omega
      refine ⟨?_, ?_⟩
      · rw [e, hi.1]; rfl
      · rw [e, hi.2]; rfl
theorem Rs.setGen {n0 : Nat} {W : World} {g1 c1 : Nat} {st : St} (h : Rs n0 W g1 c1 st) {j g : Nat} {b : Bool} (hj : st[j]? = some (g, b)) (g' : Nat) : Rs n0 (W.setCell ⟨g1, j * 3 + 1, none⟩ (.int .i64 g')) g1 c1 (st.set j (g', b)) := by
  have := (World.ownsRow.stored h (j * 3 + 1) (.int .i64 g')).1
  unfold Rs
  rw [List.length_set, ← (sc_set 0 st j g g' b b hj).1]
  exact this
theorem Rs.setTaken {n0 : Nat} {W : World} {g1 c1 : Nat} {st : St} (h : Rs n0 W g1 c1 st) {j g : Nat} {b : Bool} (hj : st[j]? = some (g, b)) (b' : Bool) : Rs n0 (W.setCell ⟨g1, j * 3 + 2, none⟩ (.bool b')) g1 c1 (st.set j (g, b')) := by
  have := (World.ownsRow.stored h (j * 3 + 2) (.bool b')).1
  unfold Rs
  rw [List.length_set, ← (sc_set 0 st j g g b b' hj).2]
  exact this

/-- A handle as a value. -/
def hv (x : Hnd) : Value := .agg #[.int .i64 x.1, .int .i64 x.2]
/-- What a round tells: whether to go on. -/
def ToldH (J Jx : List Hnd → World → Prop) (pre : List Hnd) (x : Hnd) (n₀ : Nat) (W W' : World) (b : Bool) : Prop :=
  (b = true → J (pre ++ [x]) W' ∧ Below n₀ W W') ∧ (b = false → Jx (pre ++ [x]) W')
theorem below_grown {w w' : World} (h : Below w.heap.size w w') : w.grownBy w' none := ⟨h.os, h.tape, h.output, h.size, fun k hk _ => h.block k hk⟩

set_option maxRecDepth 100000 in
set_option maxHeartbeats 2000000 in
theorem live1_in (n : Nat) (hn : 1 ≤ n) (m0 n0 l Bs S g1 c1 len : Nat) (v1 v2 : Value) (st : St) (hlen : st.length = len) (hreach : len ≤ 1000) (hb1 : g1 < m0) (J Jx : List Hnd → World → Prop)
    (W : World) (hmW : m0 ≤ W.heap.size) (hJ : AbidesFrom W.heap.size J)
    (hY : ∀ pre x W, J pre W → pre.length < (allR st).length → YieldAt Fence.wide (n - 1) Tryd.prog l #[hv x] W fun e W' => ∃ g, e = .returned (.bool g) ∧ ToldH J Jx pre x m0 W W' g)
    (hBs : W.cell? ⟨Bs, 0, none⟩ = some (.pointer (some ⟨S, 0, none⟩))) (ho : Obj3 W S (.slice (some ⟨g1, 0, none⟩) len c1) v1 v2) (hr : Rs n0 W g1 c1 st)
    (h0 : J [] W) :
    CallsIn Fence.wide n Tryd.prog 35 #[.func (.yield l) #[] #[], .pointer (some ⟨Bs, 0, none⟩)] W fun e W' => (∃ v, e = .returned v) ∧
      ((∃ ys, ys = allR st ∧ J ys W') ∨ (∃ pre, pre <+: allR st ∧ Jx pre W')) := by
  have c0 := ho.c0
  refine callsIn_of_wp Tryd.func35 rfl trivial ?_ rfl
  simp only [Tryd.ntmps35, List.size_toArray, List.length_cons, List.length_nil, Nat.reduceAdd, Nat.reduceSub, Array.replicate_succ, Array.replicate_zero, List.push_toArray, List.append_toArray, List.nil_append, List.cons_append]
  have HL := Lib.hid hlen
  have HR := Lib.hid (And.intro hr ho)
  clear hlen hr ho
  gi_wp2
  gi_loopw [10] (fun i wr => ∃ k : Nat, k ≤ len ∧ i = .int .i64 k ∧ Hid (J (lv st k) wr) ∧ Below m0 W wr)
    (fun i _ => len - (intOf i).toNat)
  case atStart => exact ⟨0, Nat.zero_le _, rfl, h0, Below.refl _ _⟩
  case round =>
    obtain ⟨k, hk, rfl, HJ, hnx⟩ := hrel
    have hsz := hnx.size
    by_cases hlt : k < len
    · obtain ⟨⟨gn, tk⟩, hx⟩ : ∃ x, st[k]? = some x := ⟨_, List.getElem?_eq_getElem (by rw [HL.out]; exact hlt)⟩
      obtain ⟨q0, q1, q2⟩ := HR.out.1.get hx
      replace q0 := (hnx.cell (p := ⟨g1, k * 3, none⟩) hb1).trans q0
      replace q1 := (hnx.cell (p := ⟨g1, k * 3 + 1, none⟩) hb1).trans q1
      replace q2 := (hnx.cell (p := ⟨g1, k * 3 + 2, none⟩) hb1).trans q2
      have HX := Lib.hid hx
      have HJ0 := Lib.hid hJ
      have HY := Lib.hid hY
      clear hx hJ hY
      have hbr : Below wr.heap.size wr (wr.alloc (.cells #[.int .i64 k, .int .i64 gn, .bool tk] 59)) := Below.new _ _
      have HJ1 := Lib.hid (HJ0.out _ _ _ none HJ.out (below_grown hbr) (fun r e => by cases e))
      cases tk with
      | false =>
        have HS := Lib.hid (lv_succ HX.out)
        gi_wp2
        refine ⟨(fun f e => by cases e), ?_⟩
        gi_wp2
        go_roundw
        case rel => exact ⟨k + 1, by omega, by simp, by rw [HS.out]; show J _ _; simpa using HJ1.out, hnx.trans (hbr.mono (by omega))⟩
        case measure => simp [intOf]; omega
      | true =>
        have HS : Hid (lv st (k + 1) = lv st k ++ [(k, gn)]) := by show _ = _; rw [lv_succ HX.out]; simp
        obtain ⟨fn, tmps, assign, body, hy, hR⟩ := HY.out (lv st k) (k, gn) _ HJ1.out (lv_length_lt HX.out)
        simp only [hv] at hy
        gi_wp2
        refine hR.mono ?_
        rintro e W3 ⟨g, rfl, htold⟩
        cases g with
        | true =>
          obtain ⟨hJ3, hk3⟩ := htold.1 rfl
          have hw3 := (hnx.trans (hbr.mono (by omega))).trans hk3
          have HJ3 := Lib.hid hJ3
          clear htold hR hy hJ3
          gi_wp2
          go_roundw
          case rel => exact ⟨k + 1, by omega, by simp, by rw [HS.out]; exact HJ3.out, hw3⟩
          case measure => simp [intOf]; omega
        | false =>
          have hx3 := Lib.hid (htold.2 rfl)
          clear htold hR hy
          gi_wp2
          refine bodyPost_ret (results_none rfl _ _ _) rfl ?_
          exact ⟨⟨_, rfl⟩, .inr ⟨_, by rw [← HS.out]; exact lv_prefix _ _, hx3.out⟩⟩
    · obtain rfl : k = len := by omega
      gi_wp2
      go_end0
      exact ⟨⟨_, rfl⟩, .inl ⟨_, rfl, by rw [← lv_all (Nat.le_of_eq HL.out)]; exact HJ.out⟩⟩

set_option maxHeartbeats 1000000 in
theorem live_in (n S : Nat) (w : World) :
    CallsIn Fence.wide n Tryd.prog 28 #[.pointer (some ⟨S, 0, none⟩)] w fun e w' => e = .returned (.func (.func 35) #[] #[.pointer (some ⟨w.heap.size, 0, none⟩)]) ∧ w.alloc (.cells #[.pointer (some ⟨S, 0, none⟩)] 24) = w' := by
  refine callsIn_of_wp Tryd.func28 rfl trivial ?_ rfl
  simp only [Tryd.ntmps28, List.size_toArray, List.length_cons, List.length_nil, Nat.reduceAdd, Nat.reduceSub, Array.replicate_succ, Array.replicate_zero, List.push_toArray, List.append_toArray, List.nil_append, List.cons_append]
  gi_wp2
  go_ret
  exact ⟨rfl, rfl⟩

theorem live_stops (n : Nat) (hn : 1 ≤ n) (m0 n0 Bs S g1 c1 : Nat) (v1 v2 : Value) (st : St) (hreach : st.length ≤ 1000) (w : World) (hm : m0 ≤ w.heap.size) (hb1 : g1 < m0) (_hS : S < m0)
    (hBs : w.cell? ⟨Bs, 0, none⟩ = some (.pointer (some ⟨S, 0, none⟩))) (ho : Obj3 w S (.slice (some ⟨g1, 0, none⟩) st.length c1) v1 v2) (hr : Rs n0 w g1 c1 st) :
    SeqStopsK Fence.wide n Tryd.prog 35 #[.pointer (some ⟨Bs, 0, none⟩)] (fun x : Hnd => #[hv x]) (Below m0) (fun ys => ys = allR st) (fun pre => pre <+: allR st) (allR st).length w := fun l J Jx W hW hJ hJx hY h0 => by
  have hc' := (hW.cell (p := ⟨Bs, 0, none⟩) (World.block_lt_of_cell? _ _ hBs)).trans hBs
  refine (live1_in n hn m0 n0 l Bs S g1 c1 st.length v1 v2 st rfl hreach hb1 J Jx W (Nat.le_trans hm hW.size) hJ ?_ hc' (ho.of_block (hW.block _ ho.lt)) (hr.of_block (hW.block _ hr.lt)) h0).mono ?_
  · intro pre x W1 hp hlt
    refine (hY pre x W1 hp hlt).mono ?_
    rintro e W' (⟨rfl, h1, h2⟩ | ⟨rfl, h1⟩)
    · exact ⟨true, rfl, fun _ => ⟨h1, h2⟩, fun h => by cases h⟩
    · exact ⟨false, rfl, fun h => (by cases h), fun _ => h1⟩
  · rintro e W' ⟨he, ⟨ys, hys, hj⟩ | ⟨pre, hp, hj⟩⟩
    · exact ⟨he, .inl ⟨ys, hys, hj⟩⟩
    · exact ⟨he, .inr ⟨pre, hp, hj⟩⟩

end Go.Proofs.YtjfooblnpkckfaaDoor
