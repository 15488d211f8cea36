/- A range over a function whose iterator writes cells of its own, and whoever ranges speaks of nothing that is made within; a region that draws its order within a round. -/
import Derived.Test.YtciohfeifihobaaDoorCeJudge
import Derived.OrdersHeld
import Derived.Deep.RegionHeld3
import Derived.RangeFuncCalls
import Derived.RangeFuncNested
import Derived.RangeFuncBound
namespace Go.Proofs.YtciohfeifihobaaDoor
open Go.RowKit Go.Shelf Go.Proofs.Cats

section
variable {P : Program} {l n : Nat} {ops : Array Oper} {Q : Exit → Act → World → Prop}
theorem wp_in_round {o : Oper} (hd : ∀ c, o.op ≠ .defer c) {next : Act → World → Prop} {a : Act} {w : World} (h : o.wp P a w next Q) : o.wpIn (Fence.wide.inRound l) n P a w next Q := by
  refine ⟨fun _ _ => trivial, ?_⟩
  unfold Oper.wp at h
  rw [Oper.semAt_eq _ _ _ hd]
  generalize (execOp a.eval o).run P w = r at *
  cases r with
  | ok x w' =>
    cases x <;> first | exact h | exact h.elim | skip
    case enter f args => exact ⟨(fun hx => by cases hx), CallsIn.inRound l (callsIn_wide.2 h)⟩
    case row row args =>
      refine ⟨(fun hx => by cases hx), fun c cs _ => ?_⟩
      obtain ⟨v, w2, hr, hs⟩ := h c cs
      exact ⟨v, w2, hr, stepsIn_wide.2 hs⟩
  | halt x w' =>
    cases x <;> first | exact h | exact h.elim
theorem wpOps_in_round (hd : ∀ (i : Nat) (o : Oper), ops[i]? = some o → ∀ c, o.op ≠ .defer c) (hL : ¬ LetsOut Q) : ∀ (is : List Nat) (a : Act) (w : World), wpOps P ops Q is a w → wpOpsIn (Fence.wide.inRound l) n P ops Q is a w
  | [], _, _, h => h
  | i :: rest, a, w, h => by
    unfold wpOps at h
    unfold wpOpsIn
    cases ho : ops[i]? with
    | none =>
      simp only [ho] at h ⊢
      exact wpOps_in_round hd hL rest a w h
    | some o =>
      simp only [ho] at h ⊢
      split
      · rename_i hw
        simp only [hw, if_true] at h
        rcases h with h | h
        · exact Oper.wpIn_mono (fun a' w' h' => wpOps_in_round hd hL rest a' w' h') (wp_in_round (hd i o ho) h)
        · exact absurd h.2 hL
      · rename_i hw
        simp only [hw] at h
        exact ⟨fun _ _ => trivial, wpOps_in_round hd hL rest _ w h⟩
def noDefer (ops : Array Oper) : Bool := ops.toList.all fun o => match o.op with | .defer _ => false | _ => true
theorem noDefer_spec (h : noDefer ops = true) : ∀ (i : Nat) (o : Oper), ops[i]? = some o → ∀ c, o.op ≠ .defer c := by
  intro i o ho c e
  have hm : o ∈ ops.toList := by
    obtain ⟨hi, rfl⟩ := Array.getElem?_eq_some_iff.1 ho
    exact Array.getElem_mem_toList hi
  have := List.all_eq_true.1 h o hm
  rw [e] at this
  cases this
theorem wpIn_round_held {S : World → Prop} {id : Nat} {a : Act} {w : World} (hm : P.follows .mixedOrders = true) (hd : noDefer ops = true) (hL : ¬ LetsOut Q) (hS : S w.drew)
    (h : S w.drew → wpAnyH P .any ops Q S ops.size (Array.replicate ops.size false) a w.drew) : (Code.region id ops true).wpIn (Fence.wide.inRound l) n P Q a w :=
  wpIn_region_draw fun t => by
    simp only [Region.schedule, hm, Bool.true_or, if_true]
    exact wpOps_in_round (noDefer_spec hd) hL _ _ _ (wpAny_sound ops.size t _ a _ (wpAny_of_held _ _ _ _ (h hS)))
end

theorem KeepsFrom.up {B B' : Nat} {W W' : World} (h : KeepsFrom B W W') (hB : B ≤ B') : KeepsFrom B' W W' := ⟨h.size, fun k o hk hw ho => h.same k o (Nat.le_trans hB hk) hw ho⟩
theorem keepsFrom_put (W : World) (l : Nat) (o' : Obj) (B : Nat) (h : l < B) : KeepsFrom B W (W.putObj l o') := KeepsFrom.of_grownBy (grownBy_putObj' W l o') (fun j e => by cases e; exact h)
abbrev mkY (D : Nat) : Deferred := { target := .collected D, args := #[] }

section
variable {α : Type} {P : Program} {n : Nat} {g : Operand} {ps : Array Tmp} {assign body : Code} {Q : Exit → Act → World → Prop} {a : Act} {w : World}

/-- The loop's record, in its states. -/
def recY (fn : FuncId) (tm : Array Value) (ps : Array Tmp) (assign body : Code) (d : Nat) (st : LoopState) (pe : Option Code) : Obj := .loop { state := st, pending := pe, fn, tmps := tm, params := ps, assign, body, defers := d }
/-- A round's end: the record says how it went on; the block for deferred calls lies as it lay. -/
theorem endY {fn : FuncId} {tm : Array Value} {d l : Nat} {B : Nat} {W W3 : World} (hB : B ≤ d) (hl : d < l) (hR : W.heap[l]? = some (recY fn tm ps assign body d .busy none)) (hD : W.heap[d]? = some (.deferred (some []))) (hk : KeepsFrom B W W3) (jump : Option Code) :
    (Instr.endRound l jump).run P W3 = .ok (.bool jump.isNone) (W3.putObj l (recY fn tm ps assign body d (if jump.isNone then .ready else .done) jump)) ∧ W3.heap[l]? = some (recY fn tm ps assign body d .busy none) ∧
      (W3.putObj l (recY fn tm ps assign body d (if jump.isNone then .ready else .done) jump)).heap[l]? = some (recY fn tm ps assign body d (if jump.isNone then .ready else .done) jump) ∧
      (W3.putObj l (recY fn tm ps assign body d (if jump.isNone then .ready else .done) jump)).heap[d]? = some (.deferred (some [])) := by
  have h3 := hk.same l _ (by omega) hR rfl
  exact ⟨run_endRound jump h3, h3, World.putObj_heap_same (Array.getElem?_eq_some_iff.1 h3).1, (World.putObj_heap_other (by omega)).trans (hk.same d _ hB hD rfl)⟩
end

/-- I speaks of what lies below n alone. -/
def AbB {β : Type} (n : Nat) (I : β → World → Prop) : Prop := ∀ s A B, I s A → Below n A B → I s B
/-- The iterator's contract, where whoever ranges speaks of nothing that is made within: H tells what is sure of a value behind those that have come; Kp what a round keeps that goes on. -/
def SeqB {α : Type} (H : List α → α → Prop) (n : Nat) (P : Program) (g : Nat) (lb : Array Value) (encs : α → Array Value) (Kp : World → World → Prop) (S Sp : List α → Prop) (w : World) : Prop :=
  ∀ (l : Nat) (J Jx : List α → World → Prop) (W : World), Below w.heap.size w W → w.heap.size + 2 ≤ W.heap.size → AbB W.heap.size J → AbB W.heap.size Jx →
    (∀ pre x W1, J pre W1 → H pre x → YieldAt Fence.wide (n - 1) P l (encs x) W1 fun e W' => (e = .returned (.bool true) ∧ J (pre ++ [x]) W' ∧ Kp W1 W' ∧ KeepsFrom (w.heap.size + 2) W1 W') ∨ (e = .returned (.bool false) ∧ Jx (pre ++ [x]) W' ∧ KeepsFrom (w.heap.size + 2) W1 W')) →
    J [] W → CallsIn Fence.wide n P g (#[.func (.yield l) #[] #[]] ++ lb) W fun e W' => (∃ v, e = .returned v) ∧ ((∃ xs, S xs ∧ J xs W') ∨ (∃ pre, Sp pre ∧ Jx pre W'))

section
variable {α : Type} {P : Program} {n : Nat} {g : Operand} {ps : Array Tmp} {assign body : Code} {Q : Exit → Act → World → Prop} {a : Act} {w : World}

set_option maxHeartbeats 2000000 in
theorem wpIn_rangeB (h1 : 1 ≤ n) {gf : Nat} {lb : Array Value} (hg : a.eval g = .func (.func gf) #[] lb) (eg : ∀ args w, (callFunc gf args).run P w = .ok (.enter gf args) w)
    {encs : α → Array Value} {H : List α → α → Prop} {Kp : World → World → Prop} {S Sp : List α → Prop} (hseq : SeqB H (n - 1) P gf lb encs Kp S Sp w) (hKt : ∀ {A B C : World}, Kp A B → Kp B C → Kp A C) (hKb : ∀ (W : World) (o o' : Obj), W.heap[w.heap.size + 1]? = some o → o.isCells = false → o.isWalk = false → Kp W (W.putObj (w.heap.size + 1) o')) (hps : ∀ x, (encs x).size = ps.size)
    (I : List α → World → Prop) (Ix : Code → List α → World → Prop) (hI : AbB w.heap.size I) (hIx : ∀ c, AbB w.heap.size (Ix c)) (h0 : I [] w) (Ax : α → Act → World → Prop) (hAx : ∀ x a', OwnFrom w.heap.size (fun (_ : Unit) W => Ax x a' W))
    (hassign : ∀ (l : Nat) (pre : List α) (x : α) (W : World) (K : Act → World → Prop), I pre W → H pre x → (∀ a' W', KeepsFrom w.heap.size W W' → Kp W W' → I pre W' → Ax x a' W' → K a' W') →
      assign.wpIn (Fence.wide.inRound l) (n - 1 - 1) P (Exit.then K (fun _ _ _ => False)) { tmps := (ps.zip (encs x)).foldl (fun t (p, v) => t.setIfInBounds p v) a.tmps, defers := [] } W)
    (hbody : ∀ (l : Nat) (pre : List α) (x : α) (a' : Act) (W : World), I pre W → H pre x → Ax x a' W → body.wpIn (Fence.wide.inRound l) (n - 1 - 1) P (ownPostG w.heap.size Kp I Ix (pre ++ [x]) W) a' W)
    (hdone : ∀ (D : Nat) (xs : List α) (W : World), w.heap.size ≤ D → S xs → I xs W → W.heap[D]? = some (.deferred (some [])) → Q .normal { a with defers := mkY D :: a.defers } W)
    (hstop : ∀ (D : Nat) (c : Code) (pre : List α) (W : World), w.heap.size ≤ D → Sp pre → Ix c pre W → W.heap[D]? = some (.deferred (some [])) → c.wpIn Fence.wide n P Q { a with defers := mkY D :: a.defers } W) :
    (Code.rangeFunc g ps assign body).wpIn Fence.wide n P Q a w := by
  refine wpIn_rangeFunc ?_
  intro fn hfn
  have hro : Fence.wide.round = none := rfl
  rw [hro]
  let L (st : LoopState) (pe : Option Code) : Obj := recY fn a.tmps ps assign body w.heap.size st pe
  obtain ⟨V, hV⟩ : ∃ V, (w.alloc (.deferred (some []))).alloc (L .ready none) = V := ⟨_, rfl⟩
  have vL : V.heap[w.heap.size + 1]? = some (L .ready none) := by
    have := World.alloc_heap_new (w.alloc (.deferred (some []))) (L .ready none)
    rw [World.size_alloc] at this
    rw [← hV]
    exact this
  have vD : V.heap[w.heap.size]? = some (.deferred (some [])) := by
    rw [← hV]
    exact (Below.heap_alloc _ _ _ (by simp)).trans (World.alloc_heap_new w _)
  have vB : Below w.heap.size w V := by
    rw [← hV]
    exact (Below.new w _).alloc (by simp) _
  have vZ : V.heap.size = w.heap.size + 2 := by
    rw [← hV, World.size_alloc, World.size_alloc]
  refine ⟨w.heap.size + 1, [mkY w.heap.size], V, { target := .fn (.func gf) lb, args := #[.func (.yield (w.heap.size + 1)) #[] #[]] }, V, gf, #[.func (.yield (w.heap.size + 1)) #[] #[]] ++ lb, V, ?_, ?_, ?_, ?_, fun _ => h1, ?_⟩
  · rw [← hV]
    exact run_enterLoop_outer _ _ _ _ _
  · simp only [resolve, hg]
    simp [go_sem]
  · intro _ _
    trivial
  · simp [invoke, go_sem, eg]
  have put : ∀ (A : World) (o' : Obj), Below w.heap.size A (A.putObj (w.heap.size + 1) o') := fun A o' => ⟨rfl, rfl, rfl, by simp, fun k hk => World.putObj_heap_other (by omega)⟩
  refine (hseq (w.heap.size + 1) (fun pre W => I pre W ∧ W.heap[w.heap.size + 1]? = some (L .ready none) ∧ W.heap[w.heap.size]? = some (.deferred (some [])))
    (fun pre W => ∃ c, Ix c pre W ∧ W.heap[w.heap.size + 1]? = some (L .done (some c)) ∧ W.heap[w.heap.size]? = some (.deferred (some []))) V vB (by omega)
    (fun s A B hs hb => ⟨hI s A B hs.1 (hb.mono (by omega)), (hb.block _ (by omega)).trans hs.2.1, (hb.block _ (by omega)).trans hs.2.2⟩)
    (fun s A B hs hb => by
      obtain ⟨c, hc, hl, hk⟩ := hs
      exact ⟨c, hIx c s A B hc (hb.mono (by omega)), (hb.block _ (by omega)).trans hl, (hb.block _ (by omega)).trans hk⟩)
    ?_ ⟨hI _ _ _ h0 vB, vL, vD⟩).mono ?_
  · rintro pre x W ⟨hi, hl, hd⟩ hH
    refine ⟨fn, _, assign, body, run_yield hl (hps x), roundIn_of_wpIn hfn (hassign _ pre x W _ hi hH ?_)⟩
    intro a' Wa hkfa hkpa hia hax
    have hla := hkfa.same _ _ (by omega) hl rfl
    have hda := hkfa.same _ _ (Nat.le_refl _) hd rfl
    have hlt := (Array.getElem?_eq_some_iff.1 hla).1
    refine ⟨_, run_beginRound hla rfl, ?_⟩
    have hl2 : (Wa.putObj (w.heap.size + 1) (L .busy none)).heap[w.heap.size + 1]? = some (L .busy none) := World.putObj_heap_same hlt
    have hd2 : (Wa.putObj (w.heap.size + 1) (L .busy none)).heap[w.heap.size]? = some (.deferred (some [])) := (World.putObj_heap_other (by omega)).trans hda
    have hk2 : Kp Wa (Wa.putObj (w.heap.size + 1) (L .busy none)) := hKb _ _ _ hla rfl rfl
    have hf2 : KeepsFrom (w.heap.size + 2) W (Wa.putObj (w.heap.size + 1) (L .busy none)) := (KeepsFrom.up hkfa (by omega)).trans (keepsFrom_put _ _ _ _ (by omega))
    refine wpIn_mono (hbody _ pre x a' _ (hI _ _ _ hia (put _ _)) hH ((hAx x a').putObj (s := ()) _ hax (by omega) hla rfl)) ?_
    rintro e a3 W3 hp
    cases e with
    | normal =>
      obtain ⟨hr, hl3, hl4, hk4⟩ := endY (P := P) (Nat.le_refl _) (Nat.lt_succ_self _) hl2 hd2 hp.1 none
      exact ⟨_, _, hr, .inl ⟨rfl, ⟨hI _ _ _ hp.2.2 (put _ _), hl4, hk4⟩, hKt hkpa (hKt (hKt hk2 hp.2.1) (hKb _ _ _ hl3 rfl rfl)), (hf2.trans (KeepsFrom.up hp.1 (by omega))).trans (keepsFrom_put _ _ _ _ (by omega))⟩⟩
    | ret =>
      obtain ⟨hr, hl3, hl4, hk4⟩ := endY (P := P) (Nat.le_refl _) (Nat.lt_succ_self _) hl2 hd2 hp.1 (some .ret)
      exact ⟨_, _, hr, .inr ⟨rfl, ⟨.ret, hIx _ _ _ _ hp.2 (put _ _), hl4, hk4⟩, (hf2.trans (KeepsFrom.up hp.1 (by omega))).trans (keepsFrom_put _ _ _ _ (by omega))⟩⟩
    | exit id =>
      obtain ⟨hr, hl3, hl4, hk4⟩ := endY (P := P) (Nat.le_refl _) (Nat.lt_succ_self _) hl2 hd2 hp.1 (some (.exit id))
      exact ⟨_, _, hr, .inr ⟨rfl, ⟨.exit id, hIx _ _ _ _ hp.2 (put _ _), hl4, hk4⟩, (hf2.trans (KeepsFrom.up hp.1 (by omega))).trans (keepsFrom_put _ _ _ _ (by omega))⟩⟩
    | goto t =>
      obtain ⟨hr, hl3, hl4, hk4⟩ := endY (P := P) (Nat.le_refl _) (Nat.lt_succ_self _) hl2 hd2 hp.1 (some (.goto t))
      exact ⟨_, _, hr, .inr ⟨rfl, ⟨.goto t, hIx _ _ _ _ hp.2 (put _ _), hl4, hk4⟩, (hf2.trans (KeepsFrom.up hp.1 (by omega))).trans (keepsFrom_put _ _ _ _ (by omega))⟩⟩
    | panic ch => exact hp.elim
    | outgrown => exact hp.elim
  · rintro e W2 ⟨⟨v, rfl⟩, (⟨xs, hS, hi, hl, hd⟩ | ⟨pre, hSp, c, hi, hl, hd⟩)⟩
    · exact ⟨none, _, run_endLoop hl (by simp), hdone _ xs _ (Nat.le_refl _) hS (hI _ _ _ hi (put _ _)) ((World.putObj_heap_other (by omega)).trans hd)⟩
    · exact ⟨some c, _, run_endLoop hl (by simp), hstop _ c pre _ (Nat.le_refl _) hSp (hIx c _ _ _ hi (put _ _)) ((World.putObj_heap_other (by omega)).trans hd)⟩
end

theorem below_put (W : World) (D : Nat) (o : Obj) (m : Nat) (h : m ≤ D) : Below m W (W.putObj D o) := ⟨rfl, rfl, rfl, by simp, fun k hk => World.putObj_heap_other (by omega)⟩

/-- All blocks but some lie as they lay. -/
structure KN (p : Nat → Prop) (A B : World) : Prop where
  os : B.os = A.os
  tape : B.tape = A.tape
  output : B.output = A.output
  size : A.heap.size ≤ B.heap.size
  block : ∀ k, k < A.heap.size → ¬ p k → B.heap[k]? = A.heap[k]?
theorem KN.refl (p : Nat → Prop) (A : World) : KN p A A := ⟨rfl, rfl, rfl, Nat.le_refl _, fun _ _ _ => rfl⟩
theorem KN.trans {p : Nat → Prop} {A B C : World} (h : KN p A B) (k : KN p B C) : KN p A C := ⟨k.os.trans h.os, k.tape.trans h.tape, k.output.trans h.output, Nat.le_trans h.size k.size, fun i hi hp => (k.block i (Nat.lt_of_lt_of_le hi h.size) hp).trans (h.block i hi hp)⟩
theorem KN.of_below {p : Nat → Prop} {A B : World} (h : Below A.heap.size A B) : KN p A B := ⟨h.os, h.tape, h.output, h.size, fun k hk _ => h.block k hk⟩
theorem KN.set {p : Nat → Prop} (A : World) {X o : Nat} {v : Value} (hX : p X) : KN p A (A.setCell ⟨X, o, none⟩ v) := ⟨rfl, rfl, rfl, by simp [World.setCell], fun k _ hp => Below.heap_setCell _ _ _ _ (fun e => hp (by have : k = X := e; rw [this]; exact hX))⟩
theorem KN.put {p : Nat → Prop} (A : World) {l : Nat} (o : Obj) (hl : p l) : KN p A (A.putObj l o) := ⟨rfl, rfl, rfl, by simp, fun k _ hp => World.putObj_heap_other (fun e => hp (by rw [e]; exact hl))⟩
theorem KN.low {p : Nat → Prop} {m : Nat} {A B : World} (h : KN p A B) (hp : ∀ k, p k → m ≤ k) (hm : m ≤ A.heap.size) : Below m A B := ⟨h.os, h.tape, h.output, h.size, fun k hk => h.block k (by omega) (fun e => by have := hp k e; omega)⟩
theorem BoxC.kn {p : Nat → Prop} {A B : World} {b : Nat} {x c : Lab} (h : BoxC A b x c) (k : KN p A B) (hp : ¬ p b) : BoxC B b x c := h.eq (k.block b h.lt hp)
theorem BoxL.kn {p : Nat → Prop} {A B : World} {b : Nat} {x : Lab} (h : BoxL A b x) (k : KN p A B) (hp : ¬ p b) : BoxL B b x := h.eq (k.block b h.lt hp)
theorem BoxF.kn {p : Nat → Prop} {A B : World} {b : Nat} {x : Lab} (h : BoxF A b x) (k : KN p A B) (hp : ¬ p b) : BoxF B b x := h.eq (k.block b h.lt hp)
end Go.Proofs.YtciohfeifihobaaDoor
