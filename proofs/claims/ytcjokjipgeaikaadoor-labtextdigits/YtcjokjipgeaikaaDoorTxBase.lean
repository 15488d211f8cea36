/- Strings as lists of bytes; frames; a range over a function that writes cells of its own and keeps a string's iterator. -/
import Derived.Test.YtcjokjipgeaikaaDoorTxMath
import Derived.Test.YtcjokjipgeaikaaDoorTxShelf
import Derived.Test.YtcjokjipgeaikaaDoorRise
import Derived.Test.YtcjokjipgeaikaaDoorLabRefU
import Derived.Test.YtcjokjipgeaikaaDoorLabKit
import Derived.Test.YtcjokjipgeaikaaDoorFldMath
import Derived.Lib.Strings
import Derived.Lib.IndexBytes
import Derived.Lib.OthersKept
import Derived.RangeFuncNested
import Derived.RangeFuncBound
import Derived.RangeFuncCalls
import Derived.RangeFuncLeaves
import Derived.RangeFuncBox
import Derived.Shelf.Abstract
import Derived.Shelf.RegionOpen
import Derived.OwnWalkIn
import Derived.TacticsInMore
import Derived.LoopNIn
import Derived.LoopIn
import Derived.WalkMore
import Derived.Lib.Hide
import Derived.Deep.RegionWith
import Derived.BigCall
import Derived.RegionTactic
namespace Go.Proofs.YtcjokjipgeaikaaDoor
open Go.RowKit Go.Shelf Go.Proofs.Fld Go.Proofs.Tx

theorem below_more {n : Nat} {w w1 w2 : World} (h : Below n w w1) (k : Below w1.heap.size w1 w2) (hn : n ≤ w.heap.size := by exact Nat.le_refl _) : Below n w w2 := h.trans (k.mono (Nat.le_trans hn h.size))
theorem Below.new (w : World) (o : Obj) : Below w.heap.size w (w.alloc o) := (Below.refl _ w).alloc (Nat.le_refl _) _

theorem bs_toList (l : List UInt8) : (bs l).toList = l := by
  rw [Lib.toList_data]
  rfl
theorem bs_data (l : List UInt8) : (bs l).data.toList = l := rfl
theorem bs_extract (l : List UInt8) (a b : Nat) : (bs l).extract a b = bs ((l.drop a).take (b - a)) := by
  have h := Lib.extract_data (bs l) a b
  rw [bs_all ((bs l).extract a b), h]
  rfl
theorem bs_append (l m : List UInt8) : bs l ++ bs m = bs (l ++ m) := by
  unfold bs
  apply ByteArray.ext
  simp
theorem str_neq (l : List UInt8) (w : World) : (binOp .neq 9 (.string (bs l)) (.string { data := #[] })).run Tryd.prog w = .ok (.bool (!l.isEmpty)) w := by
  have e : ({ data := #[] } : ByteArray) = bs [] := rfl
  rw [e]
  simp [go_sem, bs_toList]
theorem str_eql (l m : List UInt8) (w : World) : (binOp .eql 9 (.string (bs l)) (.string (bs m))).run Tryd.prog w = .ok (.bool (decide (l = m))) w := by
  simp [go_sem, bs_toList]
  by_cases h : l = m <;> simp [h]
theorem str_from (l : List UInt8) (k : Nat) (h : k ≤ l.length) (w : World) : (Instr.slice 9 (.string (bs l)) (some (.int .i64 (k : Int))) none none).run Tryd.prog w = .ok (.string (bs (l.drop k))) w := by
  simp [go_sem, Tryd.underlying9, bs_size, bs_extract, h]
  rw [List.take_of_length_le (by simp)]
theorem str_upto (l : List UInt8) (k : Nat) (h : k ≤ l.length) (w : World) : (Instr.slice 9 (.string (bs l)) none (some (.int .i64 (k : Int))) none).run Tryd.prog w = .ok (.string (bs (l.take k))) w := by
  simp [go_sem, Tryd.underlying9, bs_size, bs_extract, h]
theorem str_add (l m : List UInt8) (h : l.length + m.length ≤ 9223372036854775807) (w : World) : (binOp .add 9 (.string (bs l)) (.string (bs m))).run Tryd.prog w = .ok (.string (bs (l ++ m))) w := by
  simp [go_sem, bs_append, bs_size, h]

theorem only_trans {a b c : World} {R : Nat} (h : a.grownBy b (some R)) (k : b.grownBy c (some R)) : a.grownBy c (some R) :=
  ⟨k.os.trans h.os, k.tape.trans h.tape, k.output.trans h.output, Nat.le_trans h.size k.size, fun i hi hn => (k.block i (Nat.lt_of_lt_of_le hi h.size) hn).trans (h.block i hi hn)⟩
theorem only_below {a b c : World} {R n : Nat} (h : a.grownBy b (some R)) (k : Below n b c) (hn : a.heap.size ≤ n) : a.grownBy c (some R) :=
  ⟨k.os.trans h.os, k.tape.trans h.tape, k.output.trans h.output, Nat.le_trans h.size k.size, fun i hi hne => (k.block i (by omega)).trans (h.block i hi hne)⟩
theorem only_of {a b : World} (R : Nat) (h : Below a.heap.size a b) : a.grownBy b (some R) := only_below (World.grownBy.refl a _) h (Nat.le_refl _)
theorem only_cell {a b : World} {R : Nat} (h : a.grownBy b (some R)) {p : Addr} (hp : p.block < a.heap.size) (hne : p.block ≠ R) : b.cell? p = a.cell? p :=
  World.cell?_of_block (h.block _ hp (fun e => hne (by injection e)))
theorem only_frozen {a b : World} {R : Nat} (h : a.grownBy b (some R)) {p : Addr} (hp : p.block < a.heap.size) (hne : p.block ≠ R) : b.frozen? p = a.frozen? p :=
  World.frozen?_of_block (h.block _ hp (fun e => hne (by injection e)))
theorem only_inner {a b c : World} {R : Nat} (h : Below a.heap.size a b) (hR : a.heap.size ≤ R) (k : b.grownBy c (some R)) : Below a.heap.size a c :=
  ⟨k.os.trans h.os, k.tape.trans h.tape, k.output.trans h.output, Nat.le_trans h.size k.size, fun i hi => (k.block i (Nat.lt_of_lt_of_le hi h.size) (fun e => by injection e with e; omega)).trans (h.block i hi)⟩
theorem own_only {β : Type} {w : World} {R B : Nat} (hB : w.heap.size ≤ B) : OwnFrom B (fun (_ : β) W => w.grownBy W (some R)) := fun _ W W' row hs hg hr =>
  ⟨hg.os.trans hs.os, hg.tape.trans hs.tape, hg.output.trans hs.output, Nat.le_trans hs.size hg.size, fun i hi hn => (hg.block i (Nat.lt_of_lt_of_le hi hs.size) (fun e => by have := (hr i e.symm).1; omega)).trans (hs.block i hi hn)⟩

def mk (D : Nat) : Deferred := { target := .collected D, args := #[] }

/-- Those blocks lie as they lay. -/
def KeepsKs (Ks : Nat → Prop) (W W' : World) : Prop := ∀ k, Ks k → W'.heap[k]? = W.heap[k]?
theorem KeepsKs.refl (Ks : Nat → Prop) (W : World) : KeepsKs Ks W W := fun _ _ => rfl
theorem KeepsKs.trans {Ks : Nat → Prop} {A B C : World} (h : KeepsKs Ks A B) (k : KeepsKs Ks B C) : KeepsKs Ks A C := fun i hi => (k i hi).trans (h i hi)
theorem KeepsKs.putObj {Ks : Nat → Prop} {W : World} {l : Nat} {o : Obj} (h : ∀ k, Ks k → k < l) : KeepsKs Ks W (W.putObj l o) := fun k hk => World.putObj_heap_other (by have := h k hk; omega)
theorem keepsFrom_put {B : Nat} {W : World} {l : Nat} {o : Obj} (h : l < B) : KeepsFrom B W (W.putObj l o) := KeepsFrom.of_grownBy (grownBy_putObj' W l o) (fun j e => by cases e; exact h)
theorem keeps_up {B B' : Nat} {W W' : World} (h : KeepsFrom B W W') (hB : B ≤ B') : KeepsFrom B' W W' := ⟨h.size, fun k o hk ho hc => h.same k o (Nat.le_trans hB hk) ho hc⟩

/-- The iterator's contract: it takes its own steps St between the rounds (which may turn what it has made since it was called), which whoever ranges abides. -/
def SeqStepsI {α : Type} (n : Nat) (P : Program) (g : Nat) (lb : Array Value) (encs : α → Array Value) (Ks : Nat → Prop) (St : Nat → World → World → Prop) (S Sp : List α → World → Prop) (w : World) : Prop :=
  ∀ (l : Nat) (J Jx : List α → World → Prop) (W : World), Below w.heap.size w W → (∀ s A B, J s A → St W.heap.size A B → J s B) →
    (∀ pre x W1, J pre W1 → YieldAt Fence.wide (n - 1) P l (encs x) W1 fun e W' => (e = .returned (.bool true) ∧ J (pre ++ [x]) W' ∧ KeepsKs Ks W1 W' ∧ KeepsFrom W.heap.size W1 W') ∨ (e = .returned (.bool false) ∧ Jx (pre ++ [x]) W' ∧ KeepsKs Ks W1 W' ∧ KeepsFrom W.heap.size W1 W')) →
    J [] W → CallsIn Fence.wide n P g (#[.func (.yield l) #[] #[]] ++ lb) W fun e W' => (∃ v, e = .returned v) ∧ ((∃ xs, S xs W' ∧ J xs W') ∨ (∃ pre, Sp pre W' ∧ Jx pre W'))

def postS {α : Type} (B : Nat) (Ks : Nat → Prop) (I : List α → World → Prop) (Ix : Code → List α → World → Prop) (xs : List α) (W : World) : Exit → Act → World → Prop
  | .normal, _, W' => KeepsFrom B W W' ∧ KeepsKs Ks W W' ∧ I xs W'
  | .ret, _, W' => KeepsFrom B W W' ∧ KeepsKs Ks W W' ∧ Ix .ret xs W'
  | .exit id, _, W' => KeepsFrom B W W' ∧ KeepsKs Ks W W' ∧ Ix (.exit id) xs W'
  | .goto t, _, W' => KeepsFrom B W W' ∧ KeepsKs Ks W W' ∧ Ix (.goto t) xs W'
  | .panic _, _, _ => False
  | .outgrown, _, _ => False

section
variable {α : Type} {P : Program} {n : Nat} {g : Operand} {ps : Array Tmp} {assign body : Code} {Q : Exit → Act → World → Prop} {a : Act} {w : World}

/-- The loop's record, in its states. -/
def loopRec (fn : FuncId) (tm : Array Value) (ps : Array Tmp) (assign body : Code) (d : Nat) (st : LoopState) (pe : Option Code) : Obj := .loop { state := st, pending := pe, fn, tmps := tm, params := ps, assign, body, defers := d }

/-- A round's end: the record says how it went on; the block for deferred calls lies as it lay. -/
theorem endRound_at {fn : FuncId} {tm : Array Value} {d l : Nat} {B : Nat} {W W3 : World} (hB : B ≤ d) (hl : d < l) (hR : W.heap[l]? = some (loopRec fn tm ps assign body d .busy none)) (hD : W.heap[d]? = some (.deferred (some []))) (hk : KeepsFrom B W W3) (jump : Option Code) :
    (Instr.endRound l jump).run P W3 = .ok (.bool jump.isNone) (W3.putObj l (loopRec fn tm ps assign body d (if jump.isNone then .ready else .done) jump)) ∧ W3.heap[l]? = some (loopRec fn tm ps assign body d .busy none) ∧
      (W3.putObj l (loopRec fn tm ps assign body d (if jump.isNone then .ready else .done) jump)).heap[l]? = some (loopRec fn tm ps assign body d (if jump.isNone then .ready else .done) jump) ∧
      (W3.putObj l (loopRec fn tm ps assign body d (if jump.isNone then .ready else .done) jump)).heap[d]? = some (.deferred (some [])) := by
  have h3 := hk.same l _ (by omega) hR rfl
  exact ⟨run_endRound jump h3, h3, World.putObj_heap_same (Array.getElem?_eq_some_iff.1 h3).1, (World.putObj_heap_other (by omega)).trans (hk.same d _ hB hD rfl)⟩

set_option maxHeartbeats 1000000 in
theorem wpIn_rangeStepsI (h1 : 1 ≤ n) {gf : Nat} {lb : Array Value} (hg : a.eval g = .func (.func gf) #[] lb) (eg : ∀ args w, (callFunc gf args).run P w = .ok (.enter gf args) w)
    {encs : α → Array Value} {Ks : Nat → Prop} {St : Nat → World → World → Prop} {S Sp : List α → World → Prop} {w0 : World} (hseq : SeqStepsI (n - 1) P gf lb encs Ks St S Sp w0) (hKs : ∀ k, Ks k → k < w.heap.size) (hSo : OwnFrom w.heap.size S) (hSpo : OwnFrom w.heap.size Sp) (hb0 : Below w0.heap.size w0 w) (hps : ∀ x, (encs x).size = ps.size)
    (hSt : ∀ (n₀ : Nat) (A B : World) (k : Nat) (o : Obj), St n₀ A B → k < n₀ → A.heap[k]? = some o → o.isCells = false → B.heap[k]? = some o)
    (I : List α → World → Prop) (Ix : Code → List α → World → Prop) (hI : OwnFrom w.heap.size I) (hIx : ∀ c, OwnFrom w.heap.size (Ix c)) (hIS : ∀ s A B, I s A → St (w.heap.size + 2) A B → I s B) (h0 : I [] w) (a₁ : α → Act)
    (hassign : ∀ (l : Nat) (x : α) (W : World) (K : Act → World → Prop), K (a₁ x) W →
      assign.wpIn (Fence.wide.inRound l) (n - 1 - 1) P (Exit.then K (fun _ _ _ => False)) { tmps := (ps.zip (encs x)).foldl (fun t (p, v) => t.setIfInBounds p v) a.tmps, defers := [] } W)
    (hbody : ∀ (l : Nat) (pre : List α) (x : α) (W : World), I pre W → body.wpIn (Fence.wide.inRound l) (n - 1 - 1) P (postS w.heap.size Ks I Ix (pre ++ [x]) W) (a₁ x) W)
    (hdone : ∀ (D : Nat) (xs : List α) (W : World), w.heap.size ≤ D → S xs W → I xs W → W.heap[D]? = some (.deferred (some [])) → Q .normal { a with defers := mk D :: a.defers } W)
    (hstop : ∀ (D : Nat) (c : Code) (pre : List α) (W : World), w.heap.size ≤ D → Sp pre W → Ix c pre W → W.heap[D]? = some (.deferred (some [])) → c.wpIn Fence.wide n P Q { a with defers := mk D :: a.defers } W) :
    (Code.rangeFunc g ps assign body).wpIn Fence.wide n P Q a w := by
  refine wpIn_rangeFunc ?_
  intro fn hfn
  have hro : Fence.wide.round = none := rfl
  rw [hro]
  let L (st : LoopState) (pe : Option Code) : Obj := loopRec fn a.tmps ps assign body w.heap.size st pe
  obtain ⟨V, hV⟩ : ∃ V, (w.alloc (.deferred (some []))).alloc (L .ready none) = V := ⟨_, rfl⟩
  have vL : V.heap[w.heap.size + 1]? = some (L .ready none) := by
    have := World.alloc_heap_new (w.alloc (.deferred (some []))) (L .ready none)
    rw [World.size_alloc] at this
    rw [← hV]
    exact this
  have vD : V.heap[w.heap.size]? = some (.deferred (some [])) := by
    rw [← hV]
    exact (Below.heap_alloc _ _ _ (by simp)).trans (World.alloc_heap_new w _)
  have vS : V.heap.size = w.heap.size + 2 := by rw [← hV]; simp
  have vB : Below w.heap.size w V := by
    rw [← hV]
    exact (Below.new w _).alloc (by simp) _
  refine ⟨w.heap.size + 1, [mk w.heap.size], V, { target := .fn (.func gf) lb, args := #[.func (.yield (w.heap.size + 1)) #[] #[]] }, V, gf, #[.func (.yield (w.heap.size + 1)) #[] #[]] ++ lb, V, ?_, ?_, ?_, ?_, fun _ => h1, ?_⟩
  · rw [← hV]
    exact run_enterLoop_outer _ _ _ _ _
  · simp only [resolve, hg]
    simp [go_sem]
  · intro _ _
    trivial
  · simp [invoke, go_sem, eg]
  refine (hseq (w.heap.size + 1) (fun pre W => I pre W ∧ W.heap[w.heap.size + 1]? = some (L .ready none) ∧ W.heap[w.heap.size]? = some (.deferred (some [])))
    (fun pre W => ∃ c, Ix c pre W ∧ W.heap[w.heap.size + 1]? = some (L .done (some c)) ∧ W.heap[w.heap.size]? = some (.deferred (some []))) V (hb0.trans (vB.mono hb0.size))
    (fun s A B hs hst => by rw [vS] at hst; exact ⟨hIS s A B hs.1 hst, hSt _ A B _ _ hst (by omega) hs.2.1 rfl, hSt _ A B _ _ hst (by omega) hs.2.2 rfl⟩) ?_ ⟨by rw [← hV]; exact hI.alloc _ (hI.alloc _ h0), vL, vD⟩).mono ?_
  · rintro pre x W ⟨hi, hl, hd⟩
    have hlt := (Array.getElem?_eq_some_iff.1 hl).1
    refine ⟨fn, _, assign, body, run_yield hl (hps x), roundIn_of_wpIn hfn (hassign _ x W _ ⟨_, run_beginRound hl rfl, ?_⟩)⟩
    have hl2 : (W.putObj (w.heap.size + 1) (L .busy none)).heap[w.heap.size + 1]? = some (L .busy none) := World.putObj_heap_same hlt
    have hd2 : (W.putObj (w.heap.size + 1) (L .busy none)).heap[w.heap.size]? = some (.deferred (some [])) := (World.putObj_heap_other (by omega)).trans hd
    have hk2 : KeepsKs Ks W (W.putObj (w.heap.size + 1) (L .busy none)) := KeepsKs.putObj (fun k hk => by have := hKs k hk; omega)
    refine wpIn_mono (hbody _ pre x _ (hI.putObj _ hi (by omega) hl rfl)) ?_
    have hf2 : KeepsFrom V.heap.size W (W.putObj (w.heap.size + 1) (L .busy none)) := keepsFrom_put (by omega)
    rintro e a3 W3 hp
    cases e with
    | normal =>
      obtain ⟨hr, hl3, hl4, hk4⟩ := endRound_at (P := P) (Nat.le_refl _) (Nat.lt_succ_self _) hl2 hd2 hp.1 none
      exact ⟨_, _, hr, .inl ⟨rfl, ⟨hI.putObj _ hp.2.2 (by omega) hl3 rfl, hl4, hk4⟩, (hk2.trans hp.2.1).trans (KeepsKs.putObj (fun k hk => by have := hKs k hk; omega)), (hf2.trans (keeps_up hp.1 (by omega))).trans (keepsFrom_put (by omega))⟩⟩
    | ret =>
      obtain ⟨hr, hl3, hl4, hk4⟩ := endRound_at (P := P) (Nat.le_refl _) (Nat.lt_succ_self _) hl2 hd2 hp.1 (some .ret)
      exact ⟨_, _, hr, .inr ⟨rfl, ⟨.ret, (hIx _).putObj _ hp.2.2 (by omega) hl3 rfl, hl4, hk4⟩, (hk2.trans hp.2.1).trans (KeepsKs.putObj (fun k hk => by have := hKs k hk; omega)), (hf2.trans (keeps_up hp.1 (by omega))).trans (keepsFrom_put (by omega))⟩⟩
    | exit id =>
      obtain ⟨hr, hl3, hl4, hk4⟩ := endRound_at (P := P) (Nat.le_refl _) (Nat.lt_succ_self _) hl2 hd2 hp.1 (some (.exit id))
      exact ⟨_, _, hr, .inr ⟨rfl, ⟨.exit id, (hIx _).putObj _ hp.2.2 (by omega) hl3 rfl, hl4, hk4⟩, (hk2.trans hp.2.1).trans (KeepsKs.putObj (fun k hk => by have := hKs k hk; omega)), (hf2.trans (keeps_up hp.1 (by omega))).trans (keepsFrom_put (by omega))⟩⟩
    | goto t =>
      obtain ⟨hr, hl3, hl4, hk4⟩ := endRound_at (P := P) (Nat.le_refl _) (Nat.lt_succ_self _) hl2 hd2 hp.1 (some (.goto t))
      exact ⟨_, _, hr, .inr ⟨rfl, ⟨.goto t, (hIx _).putObj _ hp.2.2 (by omega) hl3 rfl, hl4, hk4⟩, (hk2.trans hp.2.1).trans (KeepsKs.putObj (fun k hk => by have := hKs k hk; omega)), (hf2.trans (keeps_up hp.1 (by omega))).trans (keepsFrom_put (by omega))⟩⟩
    | panic ch => exact hp.elim
    | outgrown => exact hp.elim
  · rintro e W2 ⟨⟨v, rfl⟩, (⟨xs, hS, hi, hl, hd⟩ | ⟨pre, hSp, c, hi, hl, hd⟩)⟩
    · exact ⟨none, _, run_endLoop hl (by simp), hdone _ xs _ (Nat.le_refl _) (hSo.putObj _ hS (by omega) hl rfl) (hI.putObj _ hi (by omega) hl rfl) ((World.putObj_heap_other (by omega)).trans hd)⟩
    · exact ⟨some c, _, run_endLoop hl (by simp), hstop _ c pre _ (Nat.le_refl _) (hSpo.putObj _ hSp (by omega) hl rfl) ((hIx c).putObj _ hi (by omega) hl rfl) ((World.putObj_heap_other (by omega)).trans hd)⟩
end

end Go.Proofs.YtcjokjipgeaikaaDoor
