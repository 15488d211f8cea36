/- Merged texts: FldRange, FldStr, FldBytes, FldNums, FldGet, FldGet2, FldShown -/
import Derived.Test.YtfpjbefhfkembaaDoorFldB
import Derived.Lib.Strings
import Derived.Lib.IndexBytes
import Derived.Maps.AppendAt
/- A range over a function that writes a cell of its own between two rounds: a law beside the library's (which knows iterators that write nothing that lay ahead). -/
namespace Go.Proofs.YtfpjbefhfkembaaDoor
open Go.RowKit Go.Shelf Go.Proofs.Fld

/-- Those blocks lie as they lay. -/
def KeepsKs (Ks : Nat → Prop) (W W' : World) : Prop := ∀ k, Ks k → W'.heap[k]? = W.heap[k]?
theorem KeepsKs.trans {Ks : Nat → Prop} {A B C : World} (h : KeepsKs Ks A B) (k : KeepsKs Ks B C) : KeepsKs Ks A C := fun i hi => (k i hi).trans (h i hi)
theorem KeepsKs.putObj {Ks : Nat → Prop} {W : World} {l : Nat} {o : Obj} (h : ∀ k, Ks k → k < l) : KeepsKs Ks W (W.putObj l o) := fun k hk => World.putObj_heap_other (by have := h k hk; omega)

/-- The iterator's contract: it takes its own steps St between the rounds, which whoever ranges abides. -/
def SeqSteps {α : Type} (n : Nat) (P : Program) (g : Nat) (lb : Array Value) (encs : α → Array Value) (Ks : Nat → Prop) (St : World → World → Prop) (S Sp : List α → World → Prop) (w : World) : Prop :=
  ∀ (l : Nat) (J Jx : List α → World → Prop) (W : World), Below w.heap.size w W → (∀ s A B, J s A → St A B → J s B) →
    (∀ pre x W1, J pre W1 → YieldAt Fence.wide (n - 1) P l (encs x) W1 fun e W' => (e = .returned (.bool true) ∧ J (pre ++ [x]) W' ∧ KeepsKs Ks W1 W') ∨ (e = .returned (.bool false) ∧ Jx (pre ++ [x]) W' ∧ KeepsKs Ks W1 W')) →
    J [] W → CallsIn Fence.wide n P g (#[.func (.yield l) #[] #[]] ++ lb) W fun e W' => (∃ v, e = .returned v) ∧ ((∃ xs, S xs W' ∧ J xs W') ∨ (∃ pre, Sp pre W' ∧ Jx pre W'))

def postS {α : Type} (B : Nat) (Ks : Nat → Prop) (I : List α → World → Prop) (Ix : Code → List α → World → Prop) (xs : List α) (W : World) : Exit → Act → World → Prop
  | .normal, _, W' => KeepsFrom B W W' ∧ KeepsKs Ks W W' ∧ I xs W'
  | .ret, _, W' => KeepsFrom B W W' ∧ KeepsKs Ks W W' ∧ Ix .ret xs W'
  | .exit id, _, W' => KeepsFrom B W W' ∧ KeepsKs Ks W W' ∧ Ix (.exit id) xs W'
  | .goto t, _, W' => KeepsFrom B W W' ∧ KeepsKs Ks W W' ∧ Ix (.goto t) xs W'
  | .panic _, _, _ => False
  | .outgrown, _, _ => False

section
variable {α : Type} {P : Program} {n : Nat} {g : Operand} {ps : Array Tmp} {assign body : Code} {Q : Exit → Act → World → Prop} {a : Act} {w : World}

/-- The loop's record, in its states. -/
def loopRec (fn : FuncId) (tm : Array Value) (ps : Array Tmp) (assign body : Code) (d : Nat) (st : LoopState) (pe : Option Code) : Obj := .loop { state := st, pending := pe, fn, tmps := tm, params := ps, assign, body, defers := d }

/-- A round's end: the record says how it went on; the block for deferred calls lies as it lay. -/
theorem endRound_at {fn : FuncId} {tm : Array Value} {d l : Nat} {B : Nat} {W W3 : World} (hB : B ≤ d) (hl : d < l) (hR : W.heap[l]? = some (loopRec fn tm ps assign body d .busy none)) (hD : W.heap[d]? = some (.deferred (some []))) (hk : KeepsFrom B W W3) (jump : Option Code) :
    (Instr.endRound l jump).run P W3 = .ok (.bool jump.isNone) (W3.putObj l (loopRec fn tm ps assign body d (if jump.isNone then .ready else .done) jump)) ∧ W3.heap[l]? = some (loopRec fn tm ps assign body d .busy none) ∧
      (W3.putObj l (loopRec fn tm ps assign body d (if jump.isNone then .ready else .done) jump)).heap[l]? = some (loopRec fn tm ps assign body d (if jump.isNone then .ready else .done) jump) ∧
      (W3.putObj l (loopRec fn tm ps assign body d (if jump.isNone then .ready else .done) jump)).heap[d]? = some (.deferred (some [])) := by
  have h3 := hk.same l _ (by omega) hR rfl
  exact ⟨run_endRound jump h3, h3, World.putObj_heap_same (Array.getElem?_eq_some_iff.1 h3).1, (World.putObj_heap_other (by omega)).trans (hk.same d _ hB hD rfl)⟩

set_option maxHeartbeats 1000000 in
theorem wpIn_rangeSteps (h1 : 1 ≤ n) {gf : Nat} {lb : Array Value} (hg : a.eval g = .func (.func gf) #[] lb) (eg : ∀ args w, (callFunc gf args).run P w = .ok (.enter gf args) w)
    {encs : α → Array Value} {Ks : Nat → Prop} {St : World → World → Prop} {S Sp : List α → World → Prop} {w0 : World} (hseq : SeqSteps (n - 1) P gf lb encs Ks St S Sp w0) (hKs : ∀ k, Ks k → k < w.heap.size) (hSo : OwnFrom w.heap.size S) (hSpo : OwnFrom w.heap.size Sp) (hb0 : Below w0.heap.size w0 w) (hps : ∀ x, (encs x).size = ps.size)
    (hSt : ∀ (A B : World) (k : Nat) (o : Obj), St A B → A.heap[k]? = some o → o.isCells = false → B.heap[k]? = some o)
    (I : List α → World → Prop) (Ix : Code → List α → World → Prop) (hI : OwnFrom w.heap.size I) (hIx : ∀ c, OwnFrom w.heap.size (Ix c)) (hIS : ∀ s A B, I s A → St A B → I s B) (h0 : I [] w) (a₁ : α → Act)
    (hassign : ∀ (l : Nat) (x : α) (W : World) (K : Act → World → Prop), K (a₁ x) W →
      assign.wpIn (Fence.wide.inRound l) (n - 1 - 1) P (Exit.then K (fun _ _ _ => False)) { tmps := (ps.zip (encs x)).foldl (fun t (p, v) => t.setIfInBounds p v) a.tmps, defers := [] } W)
    (hbody : ∀ (l : Nat) (pre : List α) (x : α) (W : World), I pre W → body.wpIn (Fence.wide.inRound l) (n - 1 - 1) P (postS w.heap.size Ks I Ix (pre ++ [x]) W) (a₁ x) W)
    (hdone : ∀ (D : Nat) (xs : List α) (W : World), w.heap.size ≤ D → S xs W → I xs W → W.heap[D]? = some (.deferred (some [])) → Q .normal { a with defers := mk D :: a.defers } W)
    (hstop : ∀ (D : Nat) (c : Code) (pre : List α) (W : World), w.heap.size ≤ D → Sp pre W → Ix c pre W → W.heap[D]? = some (.deferred (some [])) → c.wpIn Fence.wide n P Q { a with defers := mk D :: a.defers } W) :
    (Code.rangeFunc g ps assign body).wpIn Fence.wide n P Q a w := by
  refine wpIn_rangeFunc ?_
  intro fn hfn
  have hro : Fence.wide.round = none := rfl
  rw [hro]
  let L (st : LoopState) (pe : Option Code) : Obj := loopRec fn a.tmps ps assign body w.heap.size st pe
  obtain ⟨V, hV⟩ : ∃ V, (w.alloc (.deferred (some []))).alloc (L .ready none) = V := ⟨_, rfl⟩
  have vL : V.heap[w.heap.size + 1]? = some (L .ready none) := by
    have := World.alloc_heap_new (w.alloc (.deferred (some []))) (L .ready none)
    rw [World.size_alloc] at this
    rw [← hV]
    exact this
  have vD : V.heap[w.heap.size]? = some (.deferred (some [])) := by
    rw [← hV]
    exact (Below.heap_alloc _ _ _ (by simp)).trans (World.alloc_heap_new w _)
  have vB : Below w.heap.size w V := by
    rw [← hV]
    exact (Below.new w _).alloc (by simp) _
  refine ⟨w.heap.size + 1, [mk w.heap.size], V, { target := .fn (.func gf) lb, args := #[.func (.yield (w.heap.size + 1)) #[] #[]] }, V, gf, #[.func (.yield (w.heap.size + 1)) #[] #[]] ++ lb, V, ?_, ?_, ?_, ?_, fun _ => h1, ?_⟩
  · rw [← hV]
    exact run_enterLoop_outer _ _ _ _ _
  · simp only [resolve, hg]
    simp [go_sem]
  · intro _ _
    trivial
  · simp [invoke, go_sem, eg]
  refine (hseq (w.heap.size + 1) (fun pre W => I pre W ∧ W.heap[w.heap.size + 1]? = some (L .ready none) ∧ W.heap[w.heap.size]? = some (.deferred (some [])))
    (fun pre W => ∃ c, Ix c pre W ∧ W.heap[w.heap.size + 1]? = some (L .done (some c)) ∧ W.heap[w.heap.size]? = some (.deferred (some []))) V (hb0.trans (vB.mono hb0.size))
    (fun s A B hs hst => ⟨hIS s A B hs.1 hst, hSt A B _ _ hst hs.2.1 rfl, hSt A B _ _ hst hs.2.2 rfl⟩) ?_ ⟨by rw [← hV]; exact hI.alloc _ (hI.alloc _ h0), vL, vD⟩).mono ?_
  · rintro pre x W ⟨hi, hl, hd⟩
    have hlt := (Array.getElem?_eq_some_iff.1 hl).1
    refine ⟨fn, _, assign, body, run_yield hl (hps x), roundIn_of_wpIn hfn (hassign _ x W _ ⟨_, run_beginRound hl rfl, ?_⟩)⟩
    have hl2 : (W.putObj (w.heap.size + 1) (L .busy none)).heap[w.heap.size + 1]? = some (L .busy none) := World.putObj_heap_same hlt
    have hd2 : (W.putObj (w.heap.size + 1) (L .busy none)).heap[w.heap.size]? = some (.deferred (some [])) := (World.putObj_heap_other (by omega)).trans hd
    have hk2 : KeepsKs Ks W (W.putObj (w.heap.size + 1) (L .busy none)) := KeepsKs.putObj (fun k hk => by have := hKs k hk; omega)
    refine wpIn_mono (hbody _ pre x _ (hI.putObj _ hi (by omega) hl rfl)) ?_
    rintro e a3 W3 hp
    cases e with
    | normal =>
      obtain ⟨hr, hl3, hl4, hk4⟩ := endRound_at (P := P) (Nat.le_refl _) (Nat.lt_succ_self _) hl2 hd2 hp.1 none
      exact ⟨_, _, hr, .inl ⟨rfl, ⟨hI.putObj _ hp.2.2 (by omega) hl3 rfl, hl4, hk4⟩, (hk2.trans hp.2.1).trans (KeepsKs.putObj (fun k hk => by have := hKs k hk; omega))⟩⟩
    | ret =>
      obtain ⟨hr, hl3, hl4, hk4⟩ := endRound_at (P := P) (Nat.le_refl _) (Nat.lt_succ_self _) hl2 hd2 hp.1 (some .ret)
      exact ⟨_, _, hr, .inr ⟨rfl, ⟨.ret, (hIx _).putObj _ hp.2.2 (by omega) hl3 rfl, hl4, hk4⟩, (hk2.trans hp.2.1).trans (KeepsKs.putObj (fun k hk => by have := hKs k hk; omega))⟩⟩
    | exit id =>
      obtain ⟨hr, hl3, hl4, hk4⟩ := endRound_at (P := P) (Nat.le_refl _) (Nat.lt_succ_self _) hl2 hd2 hp.1 (some (.exit id))
      exact ⟨_, _, hr, .inr ⟨rfl, ⟨.exit id, (hIx _).putObj _ hp.2.2 (by omega) hl3 rfl, hl4, hk4⟩, (hk2.trans hp.2.1).trans (KeepsKs.putObj (fun k hk => by have := hKs k hk; omega))⟩⟩
    | goto t =>
      obtain ⟨hr, hl3, hl4, hk4⟩ := endRound_at (P := P) (Nat.le_refl _) (Nat.lt_succ_self _) hl2 hd2 hp.1 (some (.goto t))
      exact ⟨_, _, hr, .inr ⟨rfl, ⟨.goto t, (hIx _).putObj _ hp.2.2 (by omega) hl3 rfl, hl4, hk4⟩, (hk2.trans hp.2.1).trans (KeepsKs.putObj (fun k hk => by have := hKs k hk; omega))⟩⟩
    | panic ch => exact hp.elim
    | outgrown => exact hp.elim
  · rintro e W2 ⟨⟨v, rfl⟩, (⟨xs, hS, hi, hl, hd⟩ | ⟨pre, hSp, c, hi, hl, hd⟩)⟩
    · exact ⟨none, _, run_endLoop hl (by simp), hdone _ xs _ (Nat.le_refl _) (hSo.putObj _ hS (by omega) hl rfl) (hI.putObj _ hi (by omega) hl rfl) ((World.putObj_heap_other (by omega)).trans hd)⟩
    · exact ⟨some c, _, run_endLoop hl (by simp), hstop _ c pre _ (Nat.le_refl _) (hSpo.putObj _ hSp (by omega) hl rfl) ((hIx c).putObj _ hi (by omega) hl rfl) ((World.putObj_heap_other (by omega)).trans hd)⟩
end

end Go.Proofs.YtfpjbefhfkembaaDoor

/- Strings as lists of bytes. -/
namespace Go.Proofs.YtfpjbefhfkembaaDoor
open Go.RowKit Go.Shelf Go.Proofs.Fld

theorem bs_toList (l : List UInt8) : (bs l).toList = l := by
  rw [Lib.toList_data]
  rfl
theorem bs_extract (l : List UInt8) (a b : Nat) : (bs l).extract a b = bs ((l.drop a).take (b - a)) := by
  have h := Lib.extract_data (bs l) a b
  rw [bs_all ((bs l).extract a b), h]
  rfl
theorem bs_append (l m : List UInt8) : bs l ++ bs m = bs (l ++ m) := by
  unfold bs
  apply ByteArray.ext
  simp
theorem str_neq (l : List UInt8) (w : World) : (binOp .neq 9 (.string (bs l)) (.string { data := #[] })).run Tryd.prog w = .ok (.bool (!l.isEmpty)) w := by
  have e : ({ data := #[] } : ByteArray) = bs [] := rfl
  rw [e]
  simp [go_sem, bs_toList]
theorem str_eql (l m : List UInt8) (w : World) : (binOp .eql 9 (.string (bs l)) (.string (bs m))).run Tryd.prog w = .ok (.bool (decide (l = m))) w := by
  simp [go_sem, bs_toList]
  by_cases h : l = m <;> simp [h]
theorem str_head (b : UInt8) (r : List UInt8) (w : World) : (Instr.index 9 (.string (bs (b :: r))) (.int .i64 0)).run Tryd.prog w = .ok (.int .u8 (b.toNat : Int)) w := by
  rw [run_index_string _ _ _ _ _ Tryd.underlying9, dif_pos (by rw [bs_size]; simp)]
  rfl
theorem str_from (l : List UInt8) (k : Nat) (h : k ≤ l.length) (w : World) : (Instr.slice 9 (.string (bs l)) (some (.int .i64 (k : Int))) none none).run Tryd.prog w = .ok (.string (bs (l.drop k))) w := by
  simp [go_sem, Tryd.underlying9, bs_size, bs_extract, h]
  rw [List.take_of_length_le (by simp)]
theorem str_upto (l : List UInt8) (k : Nat) (h : k ≤ l.length) (w : World) : (Instr.slice 9 (.string (bs l)) none (some (.int .i64 (k : Int))) none).run Tryd.prog w = .ok (.string (bs (l.take k))) w := by
  simp [go_sem, Tryd.underlying9, bs_size, bs_extract, h]
theorem str_add (l m : List UInt8) (h : l.length + m.length ≤ 9223372036854775807) (w : World) : (binOp .add 9 (.string (bs l)) (.string (bs m))).run Tryd.prog w = .ok (.string (bs (l ++ m))) w := by
  simp [go_sem, bs_append, bs_size, h]

end Go.Proofs.YtfpjbefhfkembaaDoor

/- The reader's iterator over bytes. -/
namespace Go.Proofs.YtfpjbefhfkembaaDoor
open Go.RowKit Go.Shelf Go.Proofs.Fld

attribute [local go_sem] Oper.semAt_some

/-- The reader at block R has the bytes l left. -/
def Rd (w : World) (R : Nat) (l : List UInt8) : Prop := Boxed w R 124 (.string (bs l))

/-- The iterator's own step: it writes what is left. -/
def StR (R : Nat) (A B : World) : Prop := A.grownBy B (some R) ∧ (∃ l, Rd A R l) ∧ B.heap.size = A.heap.size

set_option maxHeartbeats 1000000 in
theorem bytes_any (R : Nat) (w : World) :
    Calls Tryd.prog 75 #[.pointer (some ⟨R, 0, none⟩)] w fun e w' => e = .returned (.func (.func 78) #[] #[.pointer (some ⟨w.heap.size, 0, none⟩)]) ∧ w' = w.alloc (.cells #[.pointer (some ⟨R, 0, none⟩)] 157) := by
  go_enter Tryd.func75, Tryd.ntmps75
  go_wp2
  go_ret
  exact ⟨rfl, rfl⟩

set_option maxRecDepth 100000 in
set_option maxHeartbeats 2000000 in
theorem bytes1_in (n : Nat) (hn : 1 ≤ n) (l Bl R : Nat) (hne : Bl ≠ R) (all : List UInt8) (J Jx : List UInt8 → World → Prop) (hJ : ∀ s A B, J s A → StR R A B → J s B)
    (hY : ∀ pre b W, J pre W → YieldAt Fence.wide (n - 1) Tryd.prog l #[.int .u8 ((b : UInt8).toNat : Int)] W fun e W' =>
      (e = .returned (.bool true) ∧ J (pre ++ [b]) W' ∧ KeepsKs (fun k => k = Bl ∨ k = R) W W') ∨ (e = .returned (.bool false) ∧ Jx (pre ++ [b]) W' ∧ KeepsKs (fun k => k = Bl ∨ k = R) W W'))
    (W : World) (hBl : Boxed W Bl 157 (.pointer (some ⟨R, 0, none⟩))) (hR : Rd W R all) (h0 : J [] W) :
    CallsIn Fence.wide n Tryd.prog 78 #[.func (.yield l) #[] #[], .pointer (some ⟨Bl, 0, none⟩)] W fun e W' => (∃ v, e = .returned v) ∧
      ((∃ ys, (ys = all ∧ Rd W' R []) ∧ J ys W') ∨ (∃ pre, (∃ rest, all = pre ++ rest ∧ Rd W' R rest) ∧ Jx pre W')) := by
  refine callsIn_of_wp Tryd.func78 rfl trivial ?_ rfl
  simp only [Tryd.ntmps78, List.size_toArray, List.length_cons, List.length_nil, Nat.reduceAdd, Nat.reduceSub, Array.replicate_succ, Array.replicate_zero, List.push_toArray, List.append_toArray, List.nil_append, List.cons_append]
  gi_wp2
  gi_loopw [] (fun wr => ∃ pre rest : List UInt8, all = pre ++ rest ∧ J pre wr ∧ Boxed wr Bl 157 (.pointer (some ⟨R, 0, none⟩)) ∧ Rd wr R rest)
    (fun wr => match wr.cell? ⟨R, 0, none⟩ with | some (.string s) => s.size | _ => 0)
  case atStart => exact ⟨[], all, rfl, h0, hBl, hR⟩
  case round =>
    obtain ⟨pre, rest, hx, hJs, hb, hr⟩ := hrel
    have c1 := hb.cell
    have c2 := hr.cell
    have f2 := hr.frozen
    cases rest with
    | nil =>
      have hq : (bs []).toList.isEmpty = true := by rw [bs_toList]; rfl
      gi_wp2
      go_end0
      exact ⟨⟨_, rfl⟩, .inl ⟨pre, ⟨by rw [hx, List.append_nil], hr⟩, hJs⟩⟩
    | cons b r =>
      have hq : (bs (b :: r)).toList.isEmpty = false := by rw [bs_toList]; rfl
      have hix := str_head b r
      have hsl : ∀ w, (Instr.slice 9 (.string (bs (b :: r))) (some (.int .i64 1)) none none).run Tryd.prog w = .ok (.string (bs r)) w := fun w => str_from (b :: r) 1 (by simp) w
      gi_wp2
      refine wpIn_wide.2 ?_
      go_region
      have hgr : wr.grownBy (wr.setCell ⟨R, 0, none⟩ (.string (bs r))).drew (some R) := by
        have g0 := grownBy_setCell' wr R (.string (bs r))
        exact ⟨g0.os, g0.tape, g0.output, g0.size, g0.block⟩
      have hst : StR R wr (wr.setCell ⟨R, 0, none⟩ (.string (bs r))).drew := ⟨hgr, ⟨_, hr⟩, by simp [World.setCell]⟩
      have hr2 : Rd (wr.setCell ⟨R, 0, none⟩ (.string (bs r))).drew R r := hr.set _
      have hb2 : Boxed (wr.setCell ⟨R, 0, none⟩ (.string (bs r))).drew Bl 157 (.pointer (some ⟨R, 0, none⟩)) := hb.kept hgr (fun e => hne (by injection e))
      obtain ⟨fn, tmps, assign, body, hy, hRn⟩ := hY pre b _ (hJ _ _ _ hJs hst)
      gi_wp2
      refine hRn.mono ?_
      rintro e W3 (⟨rfl, hJ3, hk3⟩ | ⟨rfl, hJx3, hk3⟩)
      · gi_wp2
        have hr3 : Rd W3 R r := (hk3 R (.inr rfl)).trans hr2
        go_roundw
        case rel => exact ⟨pre ++ [b], r, by rw [hx]; simp, hJ3, (hk3 Bl (.inl rfl)).trans hb2, hr3⟩
        case measure =>
          rw [hr3.cell, c2]
          simp [bs_size]
      · gi_wp2
        refine bodyPost_ret (results_none rfl _ _ _) rfl ?_
        exact ⟨⟨_, rfl⟩, .inr ⟨pre ++ [b], ⟨r, by rw [hx]; simp, (hk3 R (.inr rfl)).trans hr2⟩, hJx3⟩⟩

theorem bytes_steps (n : Nat) (hn : 1 ≤ n) (Bl R : Nat) (hne : Bl ≠ R) (all : List UInt8) (w : World) (hBl : Boxed w Bl 157 (.pointer (some ⟨R, 0, none⟩))) (hR : Rd w R all) :
    SeqSteps n Tryd.prog 78 #[.pointer (some ⟨Bl, 0, none⟩)] (fun b : UInt8 => #[Value.int .u8 (b.toNat : Int)]) (fun k => k = Bl ∨ k = R) (StR R) (fun ys W => ys = all ∧ Rd W R []) (fun pre W => ∃ rest, all = pre ++ rest ∧ Rd W R rest) w := fun l J Jx W hW hJ hY h0 =>
  bytes1_in n hn l Bl R hne all J Jx hJ hY W ((hW.block Bl hBl.lt).trans hBl) ((hW.block R (Boxed.lt hR)).trans hR) h0

end Go.Proofs.YtfpjbefhfkembaaDoor

/- numbers. -/
namespace Go.Proofs.YtfpjbefhfkembaaDoor
open Go.RowKit Go.Shelf Go.Proofs.Fld

attribute [local go_sem] Oper.semAt_some

/-- A scope that no goto leaves, at the wide fence. -/
theorem wpIn_scope_wide {n : Nat} {P : Program} {c : Code} {Q : Exit → Act → World → Prop} {a : Act} {w : World} (h : c.wpIn Fence.wide n P (Exit.noGoto Q) a w) : (Code.scope c).wpIn Fence.wide n P Q a w :=
  wpIn_wide.2 (wp_scope_straight (wpIn_wide.1 h))
theorem infoU : (Tryd.prog.info? 22).map (fun i => (i.zero, i.size, i.bytes)) = some (some (.int .u64 0), 1, 8) := by kernel_rfl

theorem only_trans {a b c : World} {R : Nat} (h : a.grownBy b (some R)) (k : b.grownBy c (some R)) : a.grownBy c (some R) :=
  ⟨k.os.trans h.os, k.tape.trans h.tape, k.output.trans h.output, Nat.le_trans h.size k.size, fun i hi hn => (k.block i (Nat.lt_of_lt_of_le hi h.size) hn).trans (h.block i hi hn)⟩
theorem only_below {a b c : World} {R n : Nat} (h : a.grownBy b (some R)) (k : Below n b c) (hn : a.heap.size ≤ n) : a.grownBy c (some R) :=
  ⟨k.os.trans h.os, k.tape.trans h.tape, k.output.trans h.output, Nat.le_trans h.size k.size, fun i hi hne => (k.block i (by omega)).trans (h.block i hi hne)⟩
theorem only_of {a b : World} (R : Nat) (h : Below a.heap.size a b) : a.grownBy b (some R) := only_below (World.grownBy.refl a _) h (Nat.le_refl _)
theorem only_cell {a b : World} {R : Nat} (h : a.grownBy b (some R)) {p : Addr} (hp : p.block < a.heap.size) (hne : p.block ≠ R) : b.cell? p = a.cell? p :=
  World.cell?_of_block (h.block _ hp (fun e => hne (by injection e)))
theorem own_only {β : Type} {w : World} {R B : Nat} (hB : w.heap.size ≤ B) : OwnFrom B (fun (_ : β) W => w.grownBy W (some R)) := fun _ W W' row hs hg hr =>
  ⟨hg.os.trans hs.os, hg.tape.trans hs.tape, hg.output.trans hs.output, Nat.le_trans hs.size hg.size, fun i hi hn => (hg.block i (Nat.lt_of_lt_of_le hi hs.size) (fun e => by have := (hr i e.symm).1; omega)).trans (hs.block i hi hn)⟩
theorem own_row {β : Type} {base e size n : Nat} {v : Value} {xs : List Value} : Own (fun (_ : β) W => W.ownsRow base e size v n xs) := fun _ W W' row hs hg hr => by
  rcases hs.2 with ⟨rfl, _⟩ | ⟨g, cap, cur, rfl, _, hgb, _⟩
  · exact hs.kept hg (Or.inl rfl)
  · refine hs.kept hg (Or.inr (fun e => ?_))
    obtain ⟨o, ho, hc⟩ := hr g (by simpa [Value.ownBlock] using e.symm)
    rw [hgb] at ho
    cases ho
    cases hc

/-- What numbers leaves: the code, the numbers, the bytes behind. -/
def getC (k : Int) (l : List UInt8) : Int := if isW k then (if l.length < k.toNat then 30 else 0) else 2
def numsC : List Int → List UInt8 → Int
  | [], _ => 0
  | k :: ks, l => if getC k l = 0 then numsC ks (l.drop k.toNat) else getC k l
def numsL : List Int → List UInt8 → List Nat
  | [], _ => []
  | k :: ks, l => dec 0 (l.take k.toNat) :: numsL ks (l.drop k.toNat)
def numsR : List Int → List UInt8 → List UInt8
  | [], l => l
  | k :: ks, l => numsR ks (l.drop k.toNat)

def u64s (l : List Nat) : List Value := l.map fun (x : Nat) => Value.int .u64 (x : Int)
theorem u64s_length (l : List Nat) : (u64s l).length = l.length := by simp [u64s]
def NumsPost (s : Sn) (R : Nat) (ws : List Int) (l : List UInt8) (w : World) (e : Ending) (w' : World) : Prop :=
  ∃ v ev, ErrIs s ev (numsC ws l) ∧ e = .returned (.tuple #[v, ev]) ∧ w.grownBy w' (some R) ∧
    (numsC ws l = 0 → w'.ownsRow w.heap.size 22 1 v (numsL ws l).length (u64s (numsL ws l)) ∧ Rd w' R (numsR ws l))

/-- Between two widths. -/
structure NumsInv (w : World) (R B6 : Nat) (ws : List Int) (l : List UInt8) (k : Nat) (Ds : List Nat) (nums : List Nat) (rest : List UInt8) (v : Value) (wr : World) : Prop where
  box : Boxed wr B6 52 v
  row : wr.ownsRow w.heap.size 22 1 v nums.length (u64s nums)
  rd : Rd wr R rest
  only : w.grownBy wr (some R)
  marks : Marks Ds wr
  above : ∀ D ∈ Ds, w.heap.size ≤ D
  code : numsC ws l = numsC (ws.drop k) rest
  list : numsL ws l = nums ++ numsL (ws.drop k) rest
  left : numsR ws l = numsR (ws.drop k) rest
  few : nums.length = k

theorem rd_cell {w : World} {R : Nat} {l : List UInt8} (h : Rd w R l) {b o : Nat} {v : Value} (hc : w.cell? ⟨b, o, none⟩ = some v) (hv : ∀ x, v ≠ .string x) : b ≠ R := by
  rintro rfl
  have hh : w.heap[b]? = some (.cells #[.string (bs l)] 124 (0, 0)) := h
  rw [cell_of_row w b o _ _ _ hh] at hc
  cases o with
  | zero => exact hv _ (Option.some.inj hc).symm
  | succ o => simp at hc
theorem Sent.only {s : Sn} {R : Nat} {l : List UInt8} {A B : World} (h : Sent s A) (hR : Rd A R l) (hsn : s.w.block ≠ R ∧ s.f.block ≠ R ∧ s.g.block ≠ R) (hg : A.grownBy B (some R)) : Sent s B := by
  have l1 := World.block_lt_of_cell? A _ h.cw
  have l2 := World.block_lt_of_cell? A _ h.cf
  have l3 := World.block_lt_of_cell? A _ h.cg
  have l4 := World.block_lt_of_cell? A _ h.ct
  refine ⟨(only_cell hg l1 (rd_cell hR h.cw (by simp))).trans h.cw, (only_cell hg l2 (rd_cell hR h.cf (by simp))).trans h.cf, (only_cell hg l3 (rd_cell hR h.cg (by simp))).trans h.cg, (only_cell hg l4 (rd_cell hR h.ct (by simp))).trans h.ct, ?_, ?_, ?_, h.wf, h.wg, h.fg⟩
  · obtain ⟨c, t, e⟩ := h.bw
    exact ⟨c, t, (hg.block _ h.bw.lt (fun x => hsn.1 (by injection x))).trans e⟩
  · obtain ⟨c, t, e⟩ := h.bf
    exact ⟨c, t, (hg.block _ h.bf.lt (fun x => hsn.2.1 (by injection x))).trans e⟩
  · obtain ⟨c, t, e⟩ := h.bg
    exact ⟨c, t, (hg.block _ h.bg.lt (fun x => hsn.2.2 (by injection x))).trans e⟩
theorem SlI.only {q : IntKind} {R : Nat} {l : List UInt8} {B : Nat} {w w' : World} {a : Option Addr} {zs : List Int} (h : SlI q B w a zs) (hR : Rd w R l) (hg : w.grownBy w' (some R)) (hB : B ≤ w.heap.size) : SlI q B w' a zs := fun j hj => by
  obtain ⟨g, off, e, hgB, hc⟩ := h j hj
  exact ⟨g, off, e, hgB, (only_cell hg (p := ⟨g, off + j, none⟩) (by simp; omega) (rd_cell hR hc (by simp))).trans hc⟩

theorem getC_few {m : Nat} {l : List UInt8} (h : isW (m : Int)) (hl : l.length < m) : getC (m : Int) l = 30 := by
  unfold getC
  rw [if_pos h, if_pos (by simpa using hl)]
theorem getC_ok {m : Nat} {l : List UInt8} (h : isW (m : Int)) (hl : m ≤ l.length) : getC (m : Int) l = 0 := by
  unfold getC
  rw [if_pos h, if_neg (by simp; omega)]

theorem putC0 {k : Int} (h : putC k 0 ≠ 0) : ¬ isW k ∧ putC k 0 = 2 := by
  have hn : ¬ isW k := fun hw => h (by unfold putC; rw [if_pos hw, if_pos (Nat.pow_pos (by decide))])
  exact ⟨hn, by unfold putC; rw [if_neg hn]⟩
theorem numsC_stop {k : Int} {ks : List Int} {l : List UInt8} (h : ¬ isW k) : numsC (k :: ks) l = 2 := by
  have e : getC k l = 2 := by unfold getC; rw [if_neg h]
  simp [numsC, e]
theorem row_slice {w : World} {base e : Nat} {n : Nat} {v : Value} {xs : List Value} (h : w.ownsRow base e 1 v n xs) : ∃ a cap, v = .slice a n cap := by
  rcases h.2 with ⟨rfl, rfl⟩ | ⟨g, cap, cur, rfl, _⟩
  · exact ⟨none, 0, rfl⟩
  · exact ⟨_, cap, rfl⟩
theorem row_cells {W W' : World} {base e : Nat} {n : Nat} {v : Value} {xs : List Value} (h : W.ownsRow base e 1 v n xs) (hk : ∀ (k : Nat) c t fz, W.heap[k]? = some (.cells c t fz) → W'.heap[k]? = some (.cells c t fz)) : W'.ownsRow base e 1 v n xs := by
  refine ⟨h.1, ?_⟩
  rcases h.2 with h | ⟨g, cap, cur, hv, hb, hg, rest⟩
  · exact Or.inl h
  · exact Or.inr ⟨g, cap, cur, hv, hb, hk _ _ _ _ hg, rest⟩
theorem own_s {R B : Nat} (all : List UInt8) : OwnFrom B (fun (ys : List UInt8) W => ys = all ∧ Rd W R []) := fun _ W W' row hs hg hr => ⟨hs.1, (Own.from (boxed_own (β := Unit) R _ (fun _ => Value.string (bs []))) B) () W W' row hs.2 hg hr⟩
theorem own_sp {R B : Nat} (all : List UInt8) : OwnFrom B (fun (pre : List UInt8) W => ∃ rest, all = pre ++ rest ∧ Rd W R rest) := fun _ W W' row hs hg hr => by
  obtain ⟨r, e, h⟩ := hs
  exact ⟨r, e, (Own.from (boxed_own (β := Unit) R _ (fun _ => Value.string (bs r))) B) () W W' row h hg hr⟩
theorem numsC_few {m : Nat} {ks : List Int} {l : List UInt8} (h : isW (m : Int)) (hl : l.length < m) : numsC ((m : Int) :: ks) l = 30 := by
  simp [numsC, getC_few h hl]
theorem or_step (pre : List UInt8) (b : UInt8) (h : pre.length < 8) : bits .or .u64 (IntKind.u64.wrap (((dec 0 pre : Nat) : Int) * 256)) ((b.toNat : Nat) : Int) = ((dec 0 (pre ++ [b]) : Nat) : Int) := by
  have hl := dec_lt pre
  have hb : b.toNat < 256 := b.toNat_lt
  have hp : 256 ^ pre.length ≤ 256 ^ 7 := Nat.pow_le_pow_right (by decide) (by omega)
  have e : dec 0 (pre ++ [b]) = dec 0 pre * 256 + b.toNat := by
    have : ∀ acc, dec acc (pre ++ [b]) = dec acc pre * 256 + b.toNat := by
      clear hl hp h
      induction pre with
      | nil => intro acc; rfl
      | cons c r ih => intro acc; exact ih _
    exact this 0
  rw [e]
  generalize dec 0 pre = x at *
  generalize b.toNat = y at *
  have e1 : IntKind.u64.wrap ((x : Int) * 256) = ((x * 256 : Nat) : Int) := by rw [IntKind.wrap_u64]; omega
  rw [e1, u64_or_nat _ _ (by omega) (by omega)]
  congr 1
  have : x * 256 = x <<< 8 := by rw [Nat.shiftLeft_eq]
  rw [this, ← Nat.shiftLeft_add_eq_or_of_lt (show y < 2 ^ 8 by omega)]

theorem stR_others {R : Nat} (A B : World) (k : Nat) (o : Obj) (h : StR R A B) (ho : A.heap[k]? = some o) (hc : o.isCells = false) : B.heap[k]? = some o := by
  obtain ⟨hg, ⟨l, hl⟩, _⟩ := h
  refine (hg.block k (Array.getElem?_eq_some_iff.1 ho).1 (fun e => ?_)).trans ho
  injection e with e
  subst e
  rw [show A.heap[k]? = _ from hl] at ho
  cases ho
  cases hc

set_option maxRecDepth 100000 in
set_option maxHeartbeats 2000000 in
theorem nums_in (n : Nat) (hn : 3 ≤ n) (s : Sn) (N : Nat) (ws : List Int) (hwl : ws.length = N) (hN : N ≤ 1048576) (hww : ∀ k ∈ ws, (Lit.int .i64 k).wf = true)
    (R : Nat) (hsn : s.w.block ≠ R ∧ s.f.block ≠ R ∧ s.g.block ≠ R) (l : List UInt8) (aw : Option Addr) (cw : Nat) (w : World) (hs : Sent s w) (hR : Rd w R l) (hW : SlI .i64 w.heap.size w aw ws) :
    CallsIn Fence.wide n Tryd.prog 65 #[.pointer (some ⟨R, 0, none⟩), .slice aw N cw] w (NumsPost s R ws l w) := by
  have h1 : 1 ≤ n := by omega
  obtain ⟨i0, hi, hz0, hz1, hz2⟩ := info_parts infoU
  have hRl : R < w.heap.size := Boxed.lt hR
  have HH := Lib.hid (And.intro hs (And.intro hR hW))
  have HL := Lib.hid (And.intro hwl (And.intro hww hsn))
  clear hs hR hW hwl hww hsn
  refine callsIn_of_wp_marks Tryd.func65 rfl trivial ?_ rfl
  simp only [Tryd.ntmps65, List.size_toArray, List.length_cons, List.length_nil, Nat.reduceAdd, Nat.reduceSub, Array.replicate_succ, Array.replicate_zero, List.push_toArray, List.append_toArray, List.nil_append, List.cons_append]
  gi_wp2
  refine wpIn_scope_wide ?_
  gi_wp2_with (first | (gi_at_make; refine wpListIn_make_own _ rfl _ _ 52 rfl w.heap.size 22 i0 (.int .u64 0) 1 Tryd.underlying52 hi hz0 hz1 _ _ _ N rfl rfl rfl (by rw [hz2]; omega) (by unfold maxLen; omega) (Nat.le_refl _) ?_; intro w1 hrow0 hgrow0))
  refine wpIn_label ?_
  gi_wp2
  have hB1 : Below w.heap.size w w1 := (Below.refl _ w).grown hgrow0 (Nat.le_refl _) (fun k e => by cases e)
  have z1 := hB1.size
  have hR6 : R ≠ w1.heap.size := by omega
  refine wpIn_loop (fun a wr => ∃ (k : Nat) (Ds : List Nat) (nums : List Nat) (rest : List UInt8) (v : Value) (u8 u9 u10 u11 u19 u20 u21 u22 u23 u24 u25 u26 u27 u28 u29 u30 u31 u50 : Value), a = { tmps := #[.pointer (some ⟨R, 0, none⟩), .slice aw N cw, undef, undef, .slice none 0 0, .nilIface, .pointer (some ⟨w1.heap.size, 0, none⟩), undef, u8, u9, u10, u11, undef, .slice aw N cw, .int .i64 (N : Int), .slice (some ⟨w.heap.size, 0, none⟩) 0 N, .slice aw N cw, .int .i64 (N : Int), .int .i64 (k : Int), u19, u20, u21, u22, u23, u24, u25, u26, u27, u28, u29, u30, u31, undef, undef, undef, undef, undef, undef, undef, undef, undef, undef, undef, undef, undef, undef, undef, undef, undef, undef, u50, undef], defers := Ds.map mk } ∧ k ≤ N ∧ NumsInv w R w1.heap.size ws l k Ds nums rest v wr)
    (fun a _ => N - (intOf (a.tmps.getD 18 undef)).toNat) ?h0 ?round
  case h0 =>
    refine ⟨0, [], [], l, _, _, _, _, _, _, _, _, _, _, _, _, _, _, _, _, _, _, _, rfl, by omega, Boxed.new w1 _ _, hrow0.alloc _, ?_, only_of R (hB1.alloc z1 _), Marks.nil _, fun _ h => (by cases h), rfl, rfl, rfl, rfl⟩
    exact ((hB1.alloc z1 _).block R hRl).trans HH.out.2.1
  case round =>
    rintro a wr ⟨k, Ds, nums, rest, v, u8, u9, u10, u11, u19, u20, u21, u22, u23, u24, u25, u26, u27, u28, u29, u30, u31, u50, rfl, hk, hI⟩
    have HI := Lib.hid hI
    clear hI hrow0 hgrow0
    have hsz := HI.out.only.size
    have hlB : w1.heap.size < wr.heap.size := HI.out.box.lt
    have hsr : Hid (Sent s wr) := Lib.hid (HH.out.1.only HH.out.2.1 HL.out.2.2 HI.out.only)
    by_cases hlt : k < N
    · obtain ⟨kk, hkk⟩ : ∃ kk, ws[k]'(by rw [HL.out.1]; exact hlt) = kk := ⟨_, rfl⟩
      obtain ⟨gw, ow, rfl, hgw, qw⟩ := (HH.out.2.2.only HH.out.2.1 HI.out.only (Nat.le_refl _)) k (by rw [HL.out.1]; exact hlt)
      rw [hkk] at qw
      have hkw : Hid ((Lit.int .i64 kk).wf = true) := Lib.hid (HL.out.2.1 _ (hkk ▸ List.getElem_mem _))
      have hdw : Hid (ws.drop k = kk :: ws.drop (k + 1)) := Lib.hid (by rw [List.drop_eq_getElem_cons (by rw [HL.out.1]; exact hlt), hkk])
      clear hkk
      by_cases hz : putC kk 0 = 0
      · obtain ⟨hw, _⟩ := putC_zero hz
        obtain ⟨m, rfl, hm1, hm8⟩ := isW_le hw
        have HW := Lib.hid hw
        have HZ := Lib.hid hz
        clear hz hw
        gi_wp2_with (refine ⟨trivial, ?_⟩; gi_at_call 74; refine (callsIn_wide.2 (judge_any s _ hkw.out 0 wr hsr.out)).mono ?_)
        rintro e w2 ⟨he, b1⟩
        rw [judge_zero HZ.out] at he
        subst he
        have hs1 := b1.size
        clear qw
        gi_wp2_with (refine ⟨trivial, ?_⟩; gi_at_call 75; refine (callsIn_wide.2 (bytes_any _ _)).mono ?_)
        rintro e w3 ⟨rfl, rfl⟩
        have bN := Boxed.new w2 22 (.int .u64 0)
        have bM := Boxed.new (w2.alloc (.cells #[.int .u64 0] 22)) 3 (.int .i64 (m : Int))
        have bL := Boxed.new ((w2.alloc (.cells #[.int .u64 0] 22)).alloc (.cells #[.int .i64 (m : Int)] 3)) 157 (.pointer (some ⟨R, 0, none⟩))
        rw [World.size_alloc] at bM bL
        rw [World.size_alloc] at bL
        have bN3 := (bN.alloc (.cells #[.int .i64 (m : Int)] 3)).alloc (.cells #[.pointer (some ⟨R, 0, none⟩)] 157)
        have bM3 := bM.alloc (.cells #[.pointer (some ⟨R, 0, none⟩)] 157)
        have hB2 : Below w2.heap.size w2 (((w2.alloc (.cells #[.int .u64 0] 22)).alloc (.cells #[.int .i64 (m : Int)] 3)).alloc (.cells #[.pointer (some ⟨R, 0, none⟩)] 157)) := ((Below.new w2 _).alloc (by simp) _).alloc (by simp; omega) _
        have hB3 := below_more b1 hB2
        have hml := HI.out.marks.lt
        have hvr : ∀ g, v.ownBlock = some g → w.heap.size ≤ g ∧ g < wr.heap.size := HI.out.row.lt
        have HV := Lib.hid hvr
        have rd3 : Rd _ R rest := (hB3.block R (by omega)).trans HI.out.rd
        clear bN bM hB2 hvr
        gi_wp2
        refine wpIn_rangeSteps h1 (gf := 78) (lb := #[.pointer (some ⟨w2.heap.size + 1 + 1, 0, none⟩)]) rfl (enters_of Tryd.func78 (by kernel_rfl) rfl)
          (bytes_steps (n - 1) (by omega) (w2.heap.size + 1 + 1) R (by omega) rest _ bL rd3) (by rintro k (rfl | rfl) <;> simp <;> omega) (own_s rest) (own_sp rest) (Below.refl _ _) (fun _ => rfl) stR_others
          (fun (pre : List UInt8) W => (((Boxed W w2.heap.size 22 (.int .u64 ((dec 0 pre : Nat) : Int)) ∧ Boxed W (w2.heap.size + 1) 3 (.int .i64 ((m : Int) - (pre.length : Int)))) ∧ (Boxed W (w2.heap.size + 1 + 1) 157 (.pointer (some ⟨R, 0, none⟩)) ∧ Boxed W w1.heap.size 52 v)) ∧ (W.ownsRow w.heap.size 22 1 v nums.length (u64s nums) ∧ Marks Ds W)) ∧ (w.grownBy W (some R) ∧ pre.length < m))
          (fun c (pre : List UInt8) W => (c = .exit 1 ∧ pre.length = m) ∧ ((∃ v', Boxed W w1.heap.size 52 v' ∧ W.ownsRow w.heap.size 22 1 v' (nums.length + 1) (u64s (nums ++ [dec 0 pre])) ∧ True) ∧ (Marks Ds W ∧ w.grownBy W (some R))))
          (OwnFrom.and (OwnFrom.and (OwnFrom.and (OwnFrom.and (Own.from (boxed_own _ _ _) _) (Own.from (boxed_own _ _ _) _)) (OwnFrom.and (Own.from (boxed_own _ _ _) _) (Own.from (boxed_own _ _ _) _))) (OwnFrom.and (Own.from own_row _) (marks_own (fun D hD => by have := hml D hD; simp; omega)))) (OwnFrom.and (own_only (by simp; omega)) (ownFrom_pure _ _)))
          (fun c => OwnFrom.and (ownFrom_pure _ _) (OwnFrom.and (Own.from (holdsRow_own w.heap.size w1.heap.size 52 22 1 (fun _ : List UInt8 => nums.length + 1) (fun pre : List UInt8 => u64s (nums ++ [dec 0 pre])) (fun _ _ => True)) _) (OwnFrom.and (marks_own (fun D hD => by have := hml D hD; simp; omega)) (own_only (by simp; omega)))))
          ?abide ⟨⟨⟨⟨bN3, by simpa using bM3⟩, ⟨bL, (hB3.block _ hlB).trans HI.out.box⟩⟩, ⟨HI.out.row.kept (only_of R hB3) (Or.inr (fun e => by have := (HV.out R e).1; omega)), HI.out.marks.below hB3⟩⟩, ⟨only_below HI.out.only hB3 hsz, by simp; omega⟩⟩
          (fun b => { tmps := #[.pointer (some ⟨R, 0, none⟩), .slice (some ⟨gw, ow, none⟩) N cw, undef, undef, .slice none 0 0, .nilIface, .pointer (some ⟨w1.heap.size, 0, none⟩), undef, .int .i64 (m : Int), .nilIface, .pointer (some ⟨w2.heap.size, 0, none⟩), .pointer (some ⟨w2.heap.size + 1, 0, none⟩), .int .u8 (b.toNat : Int), .slice (some ⟨gw, ow, none⟩) N cw, .int .i64 (N : Int), .slice (some ⟨w.heap.size, 0, none⟩) 0 N, .slice (some ⟨gw, ow, none⟩) N cw, .int .i64 (N : Int), .int .i64 (k : Int), .bool true, .pointer (some ⟨gw, ow + k, none⟩), .int .i64 (m : Int), .int .i64 (m : Int), .nilIface, .nilIface, .bool false, u26, .int .i64 (m : Int), .pointer (some ⟨R, 0, none⟩), .pointer (some ⟨R, 0, none⟩), .pointer (some ⟨R, 0, none⟩), .func (.func 78) #[] #[.pointer (some ⟨w2.heap.size + 1 + 1, 0, none⟩)], .int .u8 (b.toNat : Int), undef, undef, undef, undef, undef, undef, undef, undef, undef, undef, undef, undef, undef, undef, undef, undef, undef, u50, undef], defers := [] }) ?assign ?body ?done ?stop
        case abide =>
          rintro pre A B ⟨⟨⟨⟨x1, x2⟩, ⟨x3, x4⟩⟩, ⟨x5, x6⟩⟩, ⟨x7, x8⟩⟩ ⟨hg, _, _⟩
          exact ⟨⟨⟨⟨x1.kept hg (fun e => by injection e; omega), x2.kept hg (fun e => by injection e; omega)⟩, ⟨x3.kept hg (fun e => by injection e; omega), x4.kept hg (fun e => by injection e; omega)⟩⟩, ⟨x5.kept hg (Or.inr (fun e => by have := (x5.lt R e).1; omega)), ⟨x6.1, fun D hD => (hg.block D (x6.lt D hD) (fun e => by have := HI.out.above D hD; injection e; omega)).trans (x6.2 D hD)⟩⟩⟩, ⟨only_trans x7 hg, x8⟩⟩
        case assign =>
          intro l b W K hK
          gi_wp2
          exact hK
        case body =>
          rintro l pre b W ⟨⟨⟨⟨x1, x2⟩, ⟨x3, x4⟩⟩, ⟨x5, x6⟩⟩, ⟨x7, x8⟩⟩
          obtain ⟨x, hx⟩ : ∃ x, dec 0 pre = x := ⟨_, rfl⟩
          obtain ⟨y, hy⟩ : ∃ y, dec 0 (pre ++ [b]) = y := ⟨_, rfl⟩
          have hor := or_step pre b (by omega : pre.length < 8)
          rw [hx] at x1 hor
          rw [hy] at hor
          have hbl : b.toNat < 256 := b.toNat_lt
          have HY := Lib.hid (And.intro hx hy)
          clear hx hy
          have c1 := x1.cell
          have c2 := x2.cell
          have c4 := x4.cell
          have f1 := x1.frozen
          have f2 := x2.frozen
          have gA := grownBy_setCell' W w2.heap.size (.int .u64 (y : Int))
          have gB := grownBy_setCell' (W.setCell ⟨w2.heap.size, 0, none⟩ (.int .u64 (y : Int))) (w2.heap.size + 1) (.int .i64 ((m : Int) - (pre.length : Int) - 1))
          have y1 := (x1.set (.int .u64 (y : Int))).kept gB (fun e => by injection e; omega)
          have y2 := (x2.kept gA (fun e => by injection e; omega)).set (.int .i64 ((m : Int) - (pre.length : Int) - 1))
          have y3 := (x3.kept gA (fun e => by injection e; omega)).kept gB (fun e => by injection e; omega)
          have y4 := (x4.kept gA (fun e => by injection e; omega)).kept gB (fun e => by injection e; omega)
          have y5 := (x5.kept gA (Or.inr (fun e => by have := (HV.out _ e).2; omega))).kept gB (Or.inr (fun e => by have := (HV.out _ e).2; omega))
          have yk : KeepsOthers W ((W.setCell ⟨w2.heap.size, 0, none⟩ (.int .u64 (y : Int))).setCell ⟨w2.heap.size + 1, 0, none⟩ (.int .i64 ((m : Int) - (pre.length : Int) - 1))) := (KeepsOthers.setCell _ _ _).trans (KeepsOthers.setCell _ _ _)
          have yB : Below w.heap.size W ((W.setCell ⟨w2.heap.size, 0, none⟩ (.int .u64 (y : Int))).setCell ⟨w2.heap.size + 1, 0, none⟩ (.int .i64 ((m : Int) - (pre.length : Int) - 1))) := ((Below.refl _ W).setCell (p := ⟨w2.heap.size, 0, none⟩) (by simp; omega) _).setCell (p := ⟨w2.heap.size + 1, 0, none⟩) (by simp; omega) _
          have hWl := x7.size
          have hRW : R < W.heap.size := by omega
          have hx1l := x1.lt
          have HX := Lib.hid (And.intro (And.intro x3 x6) (And.intro x7 x8))
          by_cases hlast : pre.length + 1 = m
          · have heq : ((m : Int) - (pre.length : Int) - 1 == 0) = true := by rw [beq_iff_eq]; omega
            have HC := Lib.hid (And.intro y3 (And.intro yk yB))
            have hc6 := y4.cell
            have hnew := cell_one_new ((W.setCell ⟨w2.heap.size, 0, none⟩ (.int .u64 (y : Int))).setCell ⟨w2.heap.size + 1, 0, none⟩ (.int .i64 ((m : Int) - (pre.length : Int) - 1))) (.int .u64 (y : Int)) 22
            rw [show ((W.setCell ⟨w2.heap.size, 0, none⟩ (.int .u64 (y : Int))).setCell ⟨w2.heap.size + 1, 0, none⟩ (.int .i64 ((m : Int) - (pre.length : Int) - 1))).heap.size = W.heap.size by simp [World.setCell]] at hnew
            have HN := Lib.hid hnew
            clear hnew
            have hnl : nums.length ≤ 1048576 := by rw [HI.out.few]; omega
            obtain ⟨va, vc, rfl⟩ := row_slice y5
            clear gA gB y1 y2 y3 yk yB x3 x6 x7 x5
            gi_wp2_with (gi_at_builtin; go_loud (refine wpListIn_append_own _ rfl _ _ 52 rfl w.heap.size 22 i0 (.int .u64 0) 1 8 Tryd.underlying52 hi hz0 hz1 hz2 rfl (by decide) _ nums.length (u64s nums) rfl (y5.alloc (.cells #[.int .u64 (y : Int)] 22)) ⟨W.heap.size, 0, none⟩ 1 1 [.int .u64 (y : Int)] rfl rfl HN.out (by simp [Value.oneCell']) (by unfold maxLen; omega) (by omega) (by simp; omega) ?_; intro v' w5 hown' hgrow _; obtain ⟨g', cap', rfl⟩ := ownsRow_succ hown'; obtain ⟨hv1, hv2, hr2, hk2, hb2⟩ := y4.appended (by decide) y5 (by simp [World.setCell]; omega) (by omega) hown' hgrow; have hc1 := hv1.cell; have hf1 := hv1.frozen))
            have k3 := ((HC.out.1.alloc _).kept hgrow (fun e => by have := (HV.out _ e.symm).2; omega)).kept (grownBy_setCell' w5 w1.heap.size (.slice (some ⟨g', 0, none⟩) (nums.length + 1) cap')) (fun e => by injection e; omega)
            have kf := HC.out.2.1.trans hk2
            have bf := HC.out.2.2.trans hb2
            refine ⟨kf.from _, ?_, ⟨rfl, by rw [List.length_append]; exact hlast⟩, ⟨_, hv2, by rw [HY.out.2]; simpa [u64s] using hr2, trivial⟩, ⟨HX.out.1.2.1, fun D hD => kf.same D _ (HX.out.1.2.2 D hD) rfl⟩, only_below HX.out.2.1 bf (Nat.le_refl _)⟩
            rintro q (rfl | rfl)
            · exact k3.trans HX.out.1.1.symm
            · exact bf.block _ (by omega)
          · have heq : ((m : Int) - (pre.length : Int) - 1 == 0) = false := by rw [beq_eq_false_iff_ne]; omega
            have HC := Lib.hid (And.intro (And.intro y1 y2) (And.intro y3 (And.intro y4 (And.intro y5 (And.intro yk yB)))))
            clear gA gB y1 y2 y3 y4 y5 yk yB x3 x6 x7 x5
            gi_wp2
            refine ⟨HC.out.2.2.2.2.1.from _, ?_, ⟨⟨⟨⟨by rw [HY.out.2]; exact HC.out.1.1, ?_⟩, ⟨HC.out.2.1, HC.out.2.2.1⟩⟩, ⟨HC.out.2.2.2.1, ⟨HX.out.1.2.1, fun D hD => HC.out.2.2.2.2.1.same D _ (HX.out.1.2.2 D hD) rfl⟩⟩⟩, ⟨only_below HX.out.2.1 HC.out.2.2.2.2.2 (Nat.le_refl _), by rw [List.length_append]; simp; omega⟩⟩⟩
            · rintro q (rfl | rfl)
              · exact HC.out.2.1.trans HX.out.1.1.symm
              · exact HC.out.2.2.2.2.2.block _ (by omega)
            · have e : (m : Int) - ((pre ++ [b]).length : Int) = (m : Int) - (pre.length : Int) - 1 := by rw [List.length_append]; simp; omega
              rw [e]
              exact HC.out.1.2
        case done =>
          rintro D ys W hD ⟨hys, hr0⟩ ⟨⟨_, ⟨x5, x6⟩⟩, ⟨x7, x8⟩⟩ hK
          have gf := (HH.out.1.only HH.out.2.1 HL.out.2.2 x7).cf
          have hdl : D ∉ Ds := fun h => by have := hml D h; simp at hD; omega
          have hm2 : Marks (D :: Ds) W := ⟨List.nodup_cons.2 ⟨hdl, x6.1⟩, fun E hE => by
            rcases List.mem_cons.1 hE with rfl | hE
            · exact hK
            · exact x6.2 E hE⟩
          have ha2 : ∀ E ∈ D :: Ds, w.heap.size ≤ E := fun E hE => by
            rcases List.mem_cons.1 hE with rfl | hE
            · simp at hD; omega
            · exact HI.out.above E hE
          have x7d : w.grownBy W.drew (some R) := ⟨x7.os, x7.tape, x7.output, x7.size, x7.block⟩
          have HM := Lib.hid (And.intro (And.intro hm2 ha2) (And.intro x7d (And.intro hys x8)))
          clear hm2 ha2 x5 x6 x7 x7d hys x8 hK bL bN3 bM3 hB3 rd3
          gi_wp2
          refine wpIn_wide.2 ?_
          go_region
          all_goals
            gi_wp2
            rw [Exit.noGoto_ret]
            refine leaves_marks (B := w.heap.size) (D :: Ds) W.drew HM.out.1.1 HM.out.1.2 (fun w' hb' _ => ⟨_, results_tmp2 rfl _ _ _, _, faultV m s.f, ?_, rfl, only_below HM.out.2.1 hb' (Nat.le_refl _), fun h => ?_⟩)
            · have hc := HI.out.code
              rw [hdw.out, numsC_few HW.out (by rw [← HM.out.2.2.1]; exact HM.out.2.2.2)] at hc
              rw [hc]
              exact .few _
            · have hc := HI.out.code
              rw [hdw.out, numsC_few HW.out (by rw [← HM.out.2.2.1]; exact HM.out.2.2.2), h] at hc
              exact absurd hc (by decide)
        case stop =>
          rintro D c pre W hD ⟨r', hr', hrd⟩ ⟨⟨rfl, hpl⟩, ⟨⟨v', x4, x5, _⟩, x6, x7⟩⟩ hK
          clear bL bN3 bM3 hB3 rd3
          gi_wp2
          have hdl : D ∉ Ds := fun h => by have := hml D h; simp at hD; omega
          have ht : rest.take m = pre := by rw [hr', ← hpl]; simp
          have hd : rest.drop m = r' := by rw [hr', ← hpl]; simp
          have hle : m ≤ rest.length := by rw [hr', List.length_append]; omega
          refine ⟨⟨k + 1, D :: Ds, nums ++ [dec 0 pre], r', v', _, _, _, _, _, _, _, _, _, _, _, _, _, _, _, _, _, _, rfl, by omega, ⟨x4, by rw [List.length_append]; exact x5, hrd, x7, ⟨List.nodup_cons.2 ⟨hdl, x6.1⟩, ?_⟩, ?_, ?_, ?_, ?_, ?_⟩⟩, ?_⟩
          · intro E hE
            rcases List.mem_cons.1 hE with rfl | hE
            · exact hK
            · exact x6.2 E hE
          · intro E hE
            rcases List.mem_cons.1 hE with rfl | hE
            · simp at hD; omega
            · exact HI.out.above E hE
          · rw [HI.out.code, hdw.out, numsC, getC_ok HW.out hle]
            simp [hd]
          · rw [HI.out.list, hdw.out, numsL]
            simp [ht, hd]
          · rw [HI.out.left, hdw.out, numsR]
            simp [hd]
          · rw [List.length_append, HI.out.few]
            rfl
          · simp [intOf]
            omega
      · have HZ := Lib.hid hz
        clear hz
        gi_wp2_with (refine ⟨trivial, ?_⟩; gi_at_call 74; refine (callsIn_wide.2 (judge_any s _ hkw.out 0 wr hsr.out)).mono ?_)
        rintro e w2 ⟨he, b1⟩
        obtain ⟨fv, hfv⟩ := judge_some (s := s) HZ.out
        have HF := Lib.hid hfv
        rw [hfv] at he
        subst he
        clear hfv
        gi_wp2
        rw [Exit.noGoto_ret]
        refine leaves_marks (B := w.heap.size) Ds w2 (HI.out.marks.below b1) HI.out.above (fun w' hb' _ => ⟨_, results_tmp2 rfl _ _ _, _, .iface 151 fv, ?_, rfl, only_below (only_below HI.out.only b1 hsz) hb' (Nat.le_refl _), fun h => ?_⟩)
        · rw [← HF.out]
          have hc := HI.out.code
          rw [hdw.out, numsC_stop (putC0 HZ.out).1] at hc
          rw [hc, ← (putC0 HZ.out).2]
          exact judge_is s kk 0
        · have hc := HI.out.code
          rw [hdw.out, numsC_stop (putC0 HZ.out).1, h] at hc
          exact absurd hc (by decide)
    · obtain rfl : k = N := by omega
      have hc := HI.out.box.cell
      have hd : ws.drop k = [] := List.drop_of_length_le (by rw [HL.out.1]; exact Nat.le_refl _)
      have HD := Lib.hid hd
      clear hd
      obtain ⟨va, vc, rfl⟩ := row_slice HI.out.row
      gi_wp2
      rw [Exit.noGoto_ret]
      refine leaves_marks (B := w.heap.size) Ds wr HI.out.marks HI.out.above (fun w' hb' hc' => ⟨_, results_tmp2 rfl _ _ _, _, .nilIface, ?_, rfl, only_below HI.out.only hb' (Nat.le_refl _), fun _ => ⟨?_, ?_⟩⟩)
      · rw [HI.out.code, HD.out]
        exact .ok
      · rw [HI.out.list, HD.out]
        simp only [numsL, List.append_nil]
        exact row_cells HI.out.row hc'
      · rw [HI.out.left, HD.out]
        exact hc' _ _ _ _ HI.out.rd
end Go.Proofs.YtfpjbefhfkembaaDoor

/- The reader's other functions; Get, GetText, PutText, Unpack. -/
namespace Go.Proofs.YtfpjbefhfkembaaDoor
open Go.RowKit Go.Shelf Go.Proofs.Fld

set_option maxHeartbeats 1000000 in
theorem read_any (l : List UInt8) (w : World) : Calls Tryd.prog 64 #[.string (bs l)] w fun e w' => e = .returned (.pointer (some ⟨w.heap.size, 0, none⟩)) ∧ w' = w.alloc (.cells #[.string (bs l)] 124) := by
  go_enter Tryd.func64, Tryd.ntmps64
  go_wp2
  go_ret
  exact ⟨rfl, rfl⟩

/-- A number that a reader tells. -/
def NumPost (s : Sn) (R : Nat) (k : Int) (l : List UInt8) (w : World) (e : Ending) (w' : World) : Prop :=
  ∃ (x : Nat) (ev : Value), ErrIs s ev (getC k l) ∧ e = .returned (.tuple #[.int .u64 (x : Int), ev]) ∧ w.grownBy w' (some R) ∧ (getC k l = 0 → x = dec 0 (l.take k.toNat) ∧ Rd w' R (l.drop k.toNat))

theorem errIs_zero {s : Sn} {v : Value} (h : ErrIs s v 0) : v = .nilIface := by
  generalize hc : (0 : Int) = c at h
  cases h with
  | ok => rfl
  | width k => exact absurd hc (by decide)
  | few k => exact absurd hc (by decide)
  | great k => exact absurd hc (by decide)
theorem errIs_some {s : Sn} {v : Value} {c : Int} (h : ErrIs s v c) (hc : c ≠ 0) : ∃ x, v = .iface 151 x := by
  cases h with
  | ok => exact absurd rfl hc
  | width k => exact ⟨_, rfl⟩
  | few k => exact ⟨_, rfl⟩
  | great k => exact ⟨_, rfl⟩
theorem numsC_one (k : Int) (l : List UInt8) : numsC [k] l = getC k l := by
  by_cases h : getC k l = 0 <;> simp [numsC, h]

end Go.Proofs.YtfpjbefhfkembaaDoor

/- text, Get, GetText, PutText. -/
namespace Go.Proofs.YtfpjbefhfkembaaDoor
open Go.RowKit Go.Shelf Go.Proofs.Fld

def getRes (k : Int) (l : List UInt8) : Nat × List UInt8 × Int := if getC k l = 0 then (dec 0 (l.take k.toNat), l.drop k.toNat, 0) else (0, [], getC k l)
def textRes : List UInt8 → List UInt8 × List UInt8 × Int
  | [] => ([], [], 30)
  | b :: r => if 200 < b.toNat then ([], [], 31) else if r.length < b.toNat then ([], [], 30) else (r.take b.toNat, r.drop b.toNat, 0)
theorem textRes_cons (b : UInt8) (r : List UInt8) : textRes (b :: r) = if 200 < b.toNat then ([], [], 31) else if r.length < b.toNat then ([], [], 30) else (r.take b.toNat, r.drop b.toNat, 0) := rfl
def putTextRes (l : List UInt8) : List UInt8 × Int := if 200 < l.length then ([], 31) else (UInt8.ofNat l.length :: l, 0)

def GetPost (r : Nat × List UInt8 × Int) (w : World) (e : Ending) (w' : World) : Prop := e = .returned (.tuple #[.int .u64 (r.1 : Int), .string (bs r.2.1), .int .i64 r.2.2]) ∧ Below w.heap.size w w'
def TextPost (s : Sn) (R : Nat) (l : List UInt8) (w : World) (e : Ending) (w' : World) : Prop :=
  ∃ (ev : Value) (t : List UInt8), ErrIs s ev (textRes l).2.2 ∧ e = .returned (.tuple #[.string (bs t), ev]) ∧ w.grownBy w' (some R) ∧ ((textRes l).2.2 = 0 → t = (textRes l).1 ∧ Rd w' R (textRes l).2.1)
def SSC (r : List UInt8 × List UInt8 × Int) (w : World) (e : Ending) (w' : World) : Prop := e = .returned (.tuple #[.string (bs r.1), .string (bs r.2.1), .int .i64 r.2.2]) ∧ Below w.heap.size w w'

theorem only_drew {a w : World} {R : Nat} (h : a.grownBy w (some R)) : a.grownBy w.drew (some R) := ⟨h.os, h.tape, h.output, h.size, h.block⟩
theorem below_drew {B : Nat} {a w : World} (h : Below B a w) : Below B a w.drew := ⟨h.os, h.tape, h.output, h.size, h.block⟩

/-- What a reader that the call itself has made leaves. -/
theorem below_read {w w2 : World} {o : Obj} (hg : (w.alloc o).grownBy w2 (some w.heap.size)) : Below w.heap.size w w2 :=
  (Below.new w o).grown hg (by simp) (fun k e => by cases e; exact Nat.le_refl _)
theorem Sent.apart {s : Sn} {w : World} (h : Sent s w) : s.w.block ≠ w.heap.size ∧ s.f.block ≠ w.heap.size ∧ s.g.block ≠ w.heap.size := by
  have := h.bw.lt
  have := h.bf.lt
  have := h.bg.lt
  omega

theorem putRes_one (n : Nat) (h : n < 256) : putRes 1 n = ([UInt8.ofNat n], 0) := by
  have hz : putC 1 n = 0 := by unfold putC; rw [if_pos (by decide), if_pos (by show n < 256 ^ 1; omega)]
  unfold putRes
  rw [if_pos hz]
  show ([UInt8.ofNat (n / 256 ^ 0)], (0 : Int)) = _
  simp

end Go.Proofs.YtfpjbefhfkembaaDoor

/- What the laws share: the examples, the first three hundred bytes. -/
namespace Go.Proofs.YtfpjbefhfkembaaDoor
open Go.RowKit Go.Shelf Go.Proofs.Fld

end Go.Proofs.YtfpjbefhfkembaaDoor
