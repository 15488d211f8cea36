/- The reader in memory; skip, wrong, end, read, begins, behind, sign. -/
import Derived.Test.YtcjokjipgeaikaaDoorTxBase
namespace Go.Proofs.YtcjokjipgeaikaaDoor
open Go.RowKit Go.Shelf Go.Proofs.Fld Go.Proofs.Tx

/-- The reader at block R has the bytes l left, of a text of T bytes. -/
def Rx (w : World) (R T : Nat) (l : List UInt8) : Prop := w.heap[R]? = some (.cells #[.string (bs l), .int .i64 ((T - l.length : Nat) : Int)] 61 (0, 0))
theorem Rx.lt {w : World} {R T : Nat} {l : List UInt8} (h : Rx w R T l) : R < w.heap.size := (Array.getElem?_eq_some_iff.1 h).1
theorem Rx.c0 {w : World} {R T : Nat} {l : List UInt8} (h : Rx w R T l) : w.cell? ⟨R, 0, none⟩ = some (.string (bs l)) := by rw [cell_of_row w R 0 _ _ _ h]; rfl
theorem Rx.c1 {w : World} {R T : Nat} {l : List UInt8} (h : Rx w R T l) : w.cell? ⟨R, 1, none⟩ = some (.int .i64 ((T - l.length : Nat) : Int)) := by rw [cell_of_row w R 1 _ _ _ h]; rfl
theorem Rx.f0 {w : World} {R T : Nat} {l : List UInt8} (h : Rx w R T l) (o : Nat) : w.frozen? ⟨R, o, none⟩ = false := by
  have h' : w.heap[R]? = _ := h
  simp [World.frozen?, h']
theorem Rx.block {w w' : World} {R T : Nat} {l : List UInt8} (h : Rx w R T l) (k : w'.heap[R]? = w.heap[R]?) : Rx w' R T l := k.trans h
theorem Rx.below {w w' : World} {R T n : Nat} {l : List UInt8} (h : Rx w R T l) (hb : Below n w w') (hR : R < n) : Rx w' R T l := h.block (hb.block R hR)
theorem Rx.more {w w' : World} {R T : Nat} {l : List UInt8} (h : Rx w R T l) (hb : Below w.heap.size w w') : Rx w' R T l := h.below hb h.lt
theorem Rx.new (w : World) (l : List UInt8) : Rx (w.alloc (.cells #[.string (bs l), .int .i64 0] 61)) w.heap.size l.length l := by
  unfold Rx
  rw [Nat.sub_self]
  exact World.alloc_heap_new w _
theorem Rx.set {w : World} {R T : Nat} {l m : List UInt8} {p : Int} (h : Rx w R T l) (hp : p = ((T - m.length : Nat) : Int)) : Rx ((w.setCell ⟨R, 0, none⟩ (.string (bs m))).setCell ⟨R, 1, none⟩ (.int .i64 p)) R T m := by
  subst hp
  have h' : w.heap[R]? = _ := h
  have e1 : (w.setCell ⟨R, 0, none⟩ (.string (bs m))).heap[R]? = some (.cells #[.string (bs m), .int .i64 ((T - l.length : Nat) : Int)] 61 (0, 0)) := by
    simp only [World.setCell, Array.getElem?_modify, if_true, h', Option.map_some]
    rfl
  have e2 : ((w.setCell ⟨R, 0, none⟩ (.string (bs m))).setCell ⟨R, 1, none⟩ (.int .i64 ((T - m.length : Nat) : Int))).heap[R]? = some (.cells #[.string (bs m), .int .i64 ((T - m.length : Nat) : Int)] 61 (0, 0)) := by
    generalize w.setCell ⟨R, 0, none⟩ (.string (bs m)) = W at *
    simp only [World.setCell, Array.getElem?_modify, if_true, e1, Option.map_some]
    rfl
  exact e2

/-- The error of the place where what is left begins. -/
def faultV (T : Nat) (r : List UInt8) : Value := .iface 51 (.agg #[.int .i64 ((T - r.length : Nat) : Int)])

theorem setTwo_only (w : World) (R : Nat) (u v : Value) : w.grownBy ((w.setCell ⟨R, 0, none⟩ u).setCell ⟨R, 1, none⟩ v) (some R) := by
  refine ⟨rfl, rfl, rfl, by simp [World.setCell], fun k _ hk => ?_⟩
  have hne : R ≠ k := fun e => hk (by rw [e])
  rw [Below.heap_setCell _ _ _ _ (by first | exact hne | exact hne.symm), Below.heap_setCell _ _ _ _ (by first | exact hne | exact hne.symm)]

def SkipPost (R T : Nat) (m : List UInt8) (w : World) (e : Ending) (w' : World) : Prop := e = .returned (.tuple #[]) ∧ Rx w' R T m ∧ w.grownBy w' (some R) ∧ w'.heap.size = w.heap.size
set_option maxHeartbeats 1000000 in
theorem skip_any (R T : Nat) (l : List UInt8) (k : Nat) (hk : k ≤ l.length) (hl : l.length ≤ T) (hT : T ≤ 4611686018427387904) (w : World) (h : Rx w R T l) :
    Calls Tryd.prog 47 #[.pointer (some ⟨R, 0, none⟩), .int .i64 (k : Int)] w (SkipPost R T (l.drop k) w) := by
  have c0 := h.c0
  have c1 := h.c1
  have f0 := h.f0 0
  have f1 := h.f0 1
  have hs := str_from l k hk
  have hp0 : (0 : Int) ≤ ((T - l.length : Nat) : Int) := by omega
  have hp1 : ((T - l.length : Nat) : Int) + (k : Int) ≤ 4611686018427387904 := by omega
  have H := Lib.hid h
  clear h
  go_enter Tryd.func47, Tryd.ntmps47
  go_wp2
  go_end0
  refine ⟨rfl, H.out.set ?_, setTwo_only _ _ _ _, by simp [World.setCell]⟩
  simp only [List.length_drop]
  omega

set_option maxHeartbeats 400000 in
theorem wrong_any (R T : Nat) (l : List UInt8) (w : World) (h : Rx w R T l) :
    Calls Tryd.prog 48 #[.pointer (some ⟨R, 0, none⟩)] w fun e w' => e = .returned (faultV T l) ∧ w = w' := by
  have c1 := h.c1
  clear h
  go_enter Tryd.func48, Tryd.ntmps48
  go_wp2
  go_ret
  exact ⟨rfl, rfl⟩

def endV (T : Nat) (l : List UInt8) : Value := if l.isEmpty then .nilIface else faultV T l
set_option maxHeartbeats 400000 in
theorem end_any (R T : Nat) (l : List UInt8) (w : World) (h : Rx w R T l) :
    Calls Tryd.prog 33 #[.pointer (some ⟨R, 0, none⟩)] w fun e w' => e = .returned (endV T l) ∧ w = w' := by
  have c0 := h.c0
  have hq := str_neq l
  have H := Lib.hid h
  clear h
  cases l with
  | nil =>
    have hq2 : (bs []).toList.isEmpty = true := by rw [bs_toList]; rfl
    go_enter Tryd.func33, Tryd.ntmps33
    go_wp2
    go_ret
    exact ⟨rfl, rfl⟩
  | cons b r =>
    have hq2 : (bs (b :: r)).toList.isEmpty = false := by rw [bs_toList]; rfl
    go_enter Tryd.func33, Tryd.ntmps33
    go_wp2_with fail
    refine (wrong_any R T (b :: r) _ H.out).mono ?_
    rintro e w' ⟨rfl, rfl⟩
    go_wp2
    go_ret
    exact ⟨rfl, rfl⟩

set_option maxHeartbeats 400000 in
theorem read_any (l : List UInt8) (w : World) : Calls Tryd.prog 22 #[.string (bs l)] w fun e w' => e = .returned (.pointer (some ⟨w.heap.size, 0, none⟩)) ∧ w' = w.alloc (.cells #[.string (bs l), .int .i64 0] 61) := by
  go_enter Tryd.func22, Tryd.ntmps22
  go_wp2
  go_ret
  exact ⟨rfl, rfl⟩

theorem dec_le (a b : Nat) : decide ((a : Int) ≤ (b : Int)) = decide (a ≤ b) := by simp
set_option maxHeartbeats 400000 in
theorem begins_any (m least most : Nat) (hm : m ≤ 1000000) (hl : least ≤ 1000000) (hM : most ≤ 1000000) (w : World) :
    Calls Tryd.prog 50 #[.int .i64 (m : Int), .int .i64 (least : Int), .int .i64 (most : Int)] w fun e w' => e = .returned (.bool (beg m least most)) ∧ w = w' := by
  by_cases h1 : least ≤ m
  · by_cases h2 : m ≤ most
    · have e : beg m least most = true := by unfold beg; simp [h1, h2]
      have E := Lib.hid e
      clear e
      go_enter Tryd.func50, Tryd.ntmps50
      go_wp2
      go_ret
      exact ⟨by rw [E.out]; first | rfl | (simp; omega), rfl⟩
    · have e : beg m least most = false := by unfold beg; simp [h2]; omega
      have h3 : ¬ 10 * m ≤ most := by omega
      have E := Lib.hid e
      clear e
      by_cases h4 : 0 < m
      · have h5 : least ≤ 10 * m + 9 := by omega
        go_enter Tryd.func50, Tryd.ntmps50
        go_wp2
        go_ret
        exact ⟨by rw [E.out]; first | rfl | (simp; omega), rfl⟩
      · go_enter Tryd.func50, Tryd.ntmps50
        go_wp2
        go_ret
        exact ⟨by rw [E.out]; first | rfl | (simp; omega), rfl⟩
  · by_cases h4 : 0 < m
    · by_cases h5 : least ≤ 10 * m + 9
      · by_cases h6 : 10 * m ≤ most
        · have e : beg m least most = true := by unfold beg; simp [h4, h5, h6]
          have E := Lib.hid e
          clear e
          go_enter Tryd.func50, Tryd.ntmps50
          go_wp2
          go_ret
          exact ⟨by rw [E.out]; first | rfl | (simp; omega), rfl⟩
        · have e : beg m least most = false := by unfold beg; simp [h1, h6]
          have E := Lib.hid e
          clear e
          go_enter Tryd.func50, Tryd.ntmps50
          go_wp2
          go_ret
          exact ⟨by rw [E.out]; first | rfl | (simp; omega), rfl⟩
      · have e : beg m least most = false := by unfold beg; simp [h1, h5]
        have E := Lib.hid e
        clear e
        go_enter Tryd.func50, Tryd.ntmps50
        go_wp2
        go_ret
        exact ⟨by rw [E.out]; first | rfl | (simp; omega), rfl⟩
    · have e : beg m least most = false := by unfold beg; simp [h1, h4]
      have E := Lib.hid e
      clear e
      go_enter Tryd.func50, Tryd.ntmps50
      go_wp2
      go_ret
      exact ⟨by rw [E.out]; first | rfl | (simp; omega), rfl⟩

/-- A row of signs, each of one byte. -/
def Signs (w : World) (g : Nat) (cs : List UInt8) : Prop := g < w.heap.size ∧ ∀ j c, cs[j]? = some c → w.cell? ⟨g, j, none⟩ = some (.string (bs [c]))
theorem Signs.below {w w' : World} {g : Nat} {cs : List UInt8} (h : Signs w g cs) (hb : Below w.heap.size w w') : Signs w' g cs :=
  ⟨Nat.lt_of_lt_of_le h.1 hb.size, fun j c hj => (hb.cell (p := ⟨g, j, none⟩) h.1).trans (h.2 j c hj)⟩
theorem signs_one (w : World) (a : UInt8) : Signs (w.alloc (.cells #[.string (bs [a])] 9)) w.heap.size [a] := by
  refine ⟨by simp, fun j c hj => ?_⟩
  rw [cell_of_row _ _ _ _ _ _ (World.alloc_heap_new w _)]
  match j with
  | 0 => injection hj with hj; subst hj; rfl
  | j + 1 => simp at hj
theorem signs_two (w : World) (a b : UInt8) : Signs (w.alloc (.cells #[.string (bs [a]), .string (bs [b])] 9)) w.heap.size [a, b] := by
  refine ⟨by simp, fun j c hj => ?_⟩
  rw [cell_of_row _ _ _ _ _ _ (World.alloc_heap_new w _)]
  match j with
  | 0 => injection hj with hj; subst hj; rfl
  | 1 => injection hj with hj; subst hj; rfl
  | j + 2 => simp at hj

def BehindPost (cs : List UInt8) (w : World) (e : Ending) (w' : World) : Prop := ∃ g, e = .returned (.slice (some ⟨g, 0, none⟩) cs.length cs.length) ∧ Signs w' g cs ∧ Below w.heap.size w w' ∧ w.heap.size ≤ g
set_option maxHeartbeats 400000 in
theorem behind_any (i : Nat) (w : World) : Calls Tryd.prog 52 #[.int .i64 (i : Int)] w (BehindPost (behindL i) w) := by
  by_cases h : i = 63
  · subst h
    go_enter Tryd.func52, Tryd.ntmps52
    go_wp2
    go_ret
    exact ⟨_, rfl, signs_one w 125, Below.new _ _, Nat.le_refl _⟩
  · have e : ((i : Int) == 63) = false := by
      rw [beq_eq_false_iff_ne]
      omega
    have H := Lib.hid h
    clear h
    go_enter Tryd.func52, Tryd.ntmps52
    go_wp2
    go_ret
    have eb : behindL i = [44, 125] := by unfold behindL; rw [if_neg H.out]
    rw [eb]
    exact ⟨_, rfl, signs_two w 44 125, Below.new _ _, Nat.le_refl _⟩

end Go.Proofs.YtcjokjipgeaikaaDoor
