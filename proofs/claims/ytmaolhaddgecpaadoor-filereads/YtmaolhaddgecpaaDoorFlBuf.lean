/- A buffer in memory; span; what a copy of a part leaves. -/
import Derived.Test.YtmaolhaddgecpaaDoorFlTold
import Derived.Laws.CopyOwn
import Derived.Laws.CopyRow
namespace Go.Proofs.YtmaolhaddgecpaaDoor
open Go.RowKit Go.Proofs.Fld Go.Proofs.Fil Go.Shelf Go.Sort

attribute [local go_sem] Oper.semAt_some

abbrev BT : TypeId := 68
/-- The block B is a buffer that says u, and holds the bytes l from its first cell on. -/
def Buf (B u : Nat) (l : It) (W : World) : Prop :=
  ∃ cur : Array Value, W.heap[B]? = some (.cells cur 68 (0, 0)) ∧ cur.size = 1001 ∧ cur[1000]? = some (Value.int .i64 (u : Int)) ∧ (∀ (j : Nat) (x : UInt8), l[j]? = some x → cur[j]? = some (Value.int .u8 (x.toNat : Int))) ∧ l.length ≤ 1000
theorem Buf.lt {B u : Nat} {l : It} {W : World} (h : Buf B u l W) : B < W.heap.size := by
  obtain ⟨cur, h, _⟩ := h
  exact (Array.getElem?_eq_some_iff.1 h).1
theorem Buf.of_block {B u : Nat} {l : It} {A W : World} (h : Buf B u l A) (k : W.heap[B]? = A.heap[B]?) : Buf B u l W := by
  obtain ⟨cur, h, r⟩ := h
  exact ⟨cur, k.trans h, r⟩
theorem Buf.more {B u : Nat} {l : It} {A W : World} (h : Buf B u l A) (k : Below A.heap.size A W) : Buf B u l W := h.of_block (k.block _ h.lt)
theorem cell_row {W : World} {B : Nat} {cur : Array Value} {t : TypeId} {fr : Nat × Nat} (h : W.heap[B]? = some (.cells cur t fr)) (j : Nat) : W.cell? ⟨B, j, none⟩ = cur[j]? := by
  unfold World.cell?
  rw [h]
  simp
theorem frozen_row {W : World} {B : Nat} {cur : Array Value} {t : TypeId} (h : W.heap[B]? = some (.cells cur t (0, 0))) (j : Nat) : W.frozen? ⟨B, j, none⟩ = false := by
  unfold World.frozen?
  rw [h]
  simp
theorem Buf.used {B u : Nat} {l : It} {W : World} (h : Buf B u l W) : W.cell? ⟨B, 1000, none⟩ = some (.int .i64 (u : Int)) := by
  obtain ⟨cur, h, _, h2, _⟩ := h
  rw [cell_row h, h2]
theorem Buf.free {B u : Nat} {l : It} {W : World} (h : Buf B u l W) (j : Nat) : W.frozen? ⟨B, j, none⟩ = false := by
  obtain ⟨cur, h, _⟩ := h
  exact frozen_row h j
theorem Buf.at {B u : Nat} {l : It} {W : World} (h : Buf B u l W) (j : Nat) (x : UInt8) (hj : l[j]? = some x) : W.cell? ⟨B, j, none⟩ = some (.int .u8 (x.toNat : Int)) := by
  obtain ⟨cur, h, _, _, h3, _⟩ := h
  rw [cell_row h, h3 j x hj]
theorem Buf.fits {B u : Nat} {l : It} {W : World} (h : Buf B u l W) : l.length ≤ 1000 := by
  obtain ⟨_, _, _, _, _, h⟩ := h
  exact h
theorem zero_size : Tryd.zeroCells68.size = 1001 := by kernel_rfl
theorem zero_used : Tryd.zeroCells68[1000]? = some (Value.int .i64 0) := by kernel_rfl
theorem Buf.new (w : World) : Buf w.heap.size 0 [] (w.alloc (.cells Tryd.zeroCells68 68)) := by
  exact ⟨_, World.alloc_heap_new w _, zero_size, zero_used, (fun j x h => by simp at h), Nat.zero_le _⟩
theorem Buf.set {B u : Nat} {l : It} {W : World} (h : Buf B u l W) (v : Nat) : Buf B v l (W.setCell ⟨B, 1000, none⟩ (.int .i64 (v : Int))) := by
  have hl := h.fits
  obtain ⟨cur, h, h1, h2, h3, h4⟩ := h
  refine ⟨cur.setIfInBounds 1000 (.int .i64 (v : Int)), ?_, by rw [Array.size_setIfInBounds, h1], ?_, ?_, h4⟩
  · exact heap_setCell_same W B 1000 cur _ _ h
  · rw [Array.getElem?_setIfInBounds_self_of_lt (by omega : 1000 < cur.size)]
  · intro j x hj
    have hjl := (List.getElem?_eq_some_iff.1 hj).1
    rw [Array.getElem?_setIfInBounds_ne (by omega)]
    exact h3 j x hj
/-- What span tells. -/
def spanV (B lo hi : Nat) : Value := .slice (some ⟨B, if hi = lo then 0 else lo, none⟩) (hi - lo) (hi - lo)
theorem elemA : Tryd.prog.elem 64 = 5 := by kernel_rfl
theorem lenA : Tryd.prog.arrayLen 64 = 1000 := by kernel_rfl
theorem infoB : (Tryd.prog.info? 5).map (·.size) = some 1 := by kernel_rfl
theorem sizeB (w : World) : (sizeOf 5).run Tryd.prog w = .ok 1 w := by
  obtain ⟨i, hi, h⟩ := Option.map_eq_some_iff.1 infoB
  simp [sizeOf, typeInfo, hi, h]
theorem slice_arr (B lo hi : Nat) (h1 : lo ≤ hi) (h2 : hi ≤ 1000) (W : World) : (Instr.sliceAt 64 (.pointer (some ⟨B, 0, none⟩)) (some (.int .i64 (lo : Int))) (some (.int .i64 (hi : Int))) (some (.int .i64 (hi : Int)))).run Tryd.prog W = .ok (spanV B lo hi) W := by
  rw [run_sliceAt_array_lhm W 64 ⟨B, 0, none⟩ (by kernel_rfl) .i64 .i64 .i64 (lo : Int) (hi : Int) (hi : Int) (by omega) (by omega) (by omega) (by rw [lenA]; omega), elemA, sizeB]
  simp only [Result.andThen, slicedAt, Int.toNat_natCast, Nat.mul_one, spanV]
  by_cases e : hi = lo
  · simp [e]
  · simp [e, add_at]
def SpanP (B lo hi : Nat) (w : World) (e : Ending) (w' : World) : Prop := e = .returned (spanV B lo hi) ∧ w = w'
set_option maxHeartbeats 1000000 in
theorem span_any (B lo hi : Nat) (h1 : lo ≤ hi) (h2 : hi ≤ 1000) (w : World) : Calls Tryd.prog 36 #[.pointer (some ⟨B, 0, none⟩), .int .i64 (lo : Int), .int .i64 (hi : Int)] w (SpanP B lo hi w) := by
  have sl := slice_arr B lo hi h1 h2
  obtain ⟨V, hV⟩ : ∃ V, spanV B lo hi = V := ⟨_, rfl⟩
  rw [hV] at sl
  have HV := Lib.hid hV
  clear hV
  go_enter Tryd.func36, Tryd.ntmps36
  go_wp2
  go_ret
  refine ⟨?_, rfl⟩
  rw [HV.out]
  rfl

/-- The bytes x copied behind l. -/
def copied (cur : Array Value) (o : Nat) (x : It) : Array Value := (cur.toList.take o ++ Lib.byteCells x ++ cur.toList.drop (o + x.length)).toArray
theorem bs_data (x : It) : (bs x).data.toList = x := by simp [bs]
theorem run_copyB (W : World) (ty : TypeId) (B u : Nat) (l x : It) (hl : l.length + x.length ≤ 1000) (h : Buf B u l W) :
    ∃ W', (Builtin.copy_ #[43, 9] ty #[spanV B l.length (l.length + x.length), .string (bs x)]).run Tryd.prog W = .ok (.int .i64 (x.length : Int)) W' ∧ Buf B u (l ++ x) W' ∧ KR B (B + 1) W.heap.size W W' ∧ Below B W W' := by
  by_cases h0 : x = []
  · subst h0
    refine ⟨W, ?_, by rw [List.append_nil]; exact h, KR.refl _ _ _ _, Below.refl _ _⟩
    exact Lib.run_copy_empty_string W 43 9 ty 5 _ _ _ _ Tryd.underlying43 (by rw [infoB]; rfl) (by rw [bs_size]; rfl)
  · have hp : 0 < x.length := List.length_pos_iff.2 h0
    obtain ⟨cur, hc, h1, h2, h3, h4⟩ := h
    have hr := Lib.run_copy_row_string (P := Tryd.prog) W 43 9 ty 5 B l.length x.length x.length (bs x) cur 68 Tryd.underlying43 infoB hc (by rw [bs_size]; exact Nat.le_refl _) (by rw [bs_size]; omega)
    rw [bs_size, bs_data] at hr
    have hsp : spanV B l.length (l.length + x.length) = .slice (some ⟨B, l.length, none⟩) x.length x.length := by
      unfold spanV
      rw [if_neg (by omega), Nat.add_sub_cancel_left]
    refine ⟨_, by rw [hsp]; exact hr, ⟨copied cur l.length x, setRow_heap W B _ _ _ _ hc, ?_, ?_, ?_, by rw [List.length_append]; exact hl⟩, ⟨by simp [World.setRow], fun k _ hk => setRow_other W B k _ (by omega)⟩, below_setRow (Below.refl _ _) (Nat.le_refl _) _⟩
    · unfold copied
      simp only [List.size_toArray, List.length_append, List.length_take, List.length_drop, Lib.byteCells_length, Array.length_toList]
      omega
    · unfold copied
      rw [List.getElem?_toArray, List.getElem?_append_right (by simp only [List.length_append, List.length_take, Lib.byteCells_length, Array.length_toList]; omega), List.getElem?_drop]
      simp only [List.length_append, List.length_take, Lib.byteCells_length, Array.length_toList]
      rw [show l.length + x.length + (1000 - (min l.length cur.size + x.length)) = 1000 by omega, Array.getElem?_toList]
      exact h2
    · intro j y hj
      unfold copied
      rw [List.getElem?_toArray]
      by_cases hjl : j < l.length
      · rw [List.getElem?_append_left hjl] at hj
        rw [List.append_assoc, List.getElem?_append_left (by simp only [List.length_take, Array.length_toList]; omega), List.getElem?_take, if_pos hjl, Array.getElem?_toList]
        exact h3 j y hj
      · rw [List.getElem?_append_right (by omega)] at hj
        have hjx := (List.getElem?_eq_some_iff.1 hj).1
        rw [List.append_assoc, List.getElem?_append_right (by simp only [List.length_take, Array.length_toList]; omega), List.getElem?_append_left (by simp only [List.length_take, Lib.byteCells_length, Array.length_toList]; omega)]
        simp only [List.length_take, Array.length_toList]
        rw [show j - min l.length cur.size = j - l.length by omega]
        unfold Lib.byteCells
        rw [List.getElem?_map, hj]
        rfl
theorem run_stringB (W : World) (B u : Nat) (l : It) (h : Buf B u l W) : (convert 43 9 (spanV B 0 l.length)).run Tryd.prog W = .ok (.string (bs l)) W := by
  have hsp : spanV B 0 l.length = .slice (some ⟨B, 0, none⟩) l.length l.length := by
    unfold spanV
    simp
  rw [hsp]
  exact run_convert_bytes_back W 43 9 5 ⟨B, 0, none⟩ l.length l Tryd.underlying43 Tryd.underlying5 Tryd.underlying9 (fun j hj => by
    rw [add_at, Nat.zero_add]
    exact h.at j _ (List.getElem?_eq_getElem hj))
end Go.Proofs.YtmaolhaddgecpaaDoor
