/- Slices of numbers; a builder that is kept; marks of ranges that are over. -/
import Derived.Test.YtpmelbjbkdflgaaDoorFldBuild
import Derived.Test.YtpmelbjbkdflgaaDoorFldFall
import Derived.Test.YtpmelbjbkdflgaaDoorFldTold
namespace Go.Proofs.YtpmelbjbkdflgaaDoor
open Go.RowKit Go.Shelf Go.Proofs.Fld

/-- The slice at a has the numbers zs, below block B. -/
def SlI (q : IntKind) (B : Nat) (w : World) (a : Option Addr) (zs : List Int) : Prop := ∀ j, (h : j < zs.length) → ∃ g off, a = some ⟨g, off, none⟩ ∧ g < B ∧ w.cell? ⟨g, off + j, none⟩ = some (.int q zs[j])
theorem SlI.below {q : IntKind} {B n : Nat} {w w' : World} {a : Option Addr} {zs : List Int} (h : SlI q B w a zs) (hb : Below n w w') (hn : B ≤ n) : SlI q B w' a zs := fun j hj => by
  obtain ⟨g, off, e, hg, hc⟩ := h j hj
  exact ⟨g, off, e, hg, (hb.cell (p := ⟨g, off + j, none⟩) (by simp; omega)).trans hc⟩
theorem SlI.more {q : IntKind} {B B' : Nat} {w : World} {a : Option Addr} {zs : List Int} (h : SlI q B w a zs) (hB : B ≤ B') : SlI q B' w a zs := fun j hj => by
  obtain ⟨g, off, e, hg, hc⟩ := h j hj
  exact ⟨g, off, e, by omega, hc⟩

theorem isB_kept {T e : TypeId} {B b : Nat} {bs : List Value} {W W' : World} (h : Lib.IsBuilderF T e B b bs W) (hk : ∀ (k : Nat) c t fz, W.heap[k]? = some (.cells c t fz) → W'.heap[k]? = some (.cells c t fz)) : Lib.IsBuilderF T e B b bs W' := by
  have key : ∀ p, Lib.BuilderAtF T e B b p bs W → Lib.BuilderAtF T e B b p bs W' := by
    rintro p ⟨hB, v, hb, hown, hne⟩
    refine ⟨hB, v, hk _ _ _ _ hb, ⟨hown.1, ?_⟩, hne⟩
    rcases hown.2 with h | ⟨g, cap, cur, fz, hv, hbg, hg, rest⟩
    · exact Or.inl h
    · exact Or.inr ⟨g, cap, cur, fz, hv, hbg, hk _ _ _ _ hg, rest⟩
  exact h.imp (key _) (key _)
theorem isB_below {T e : TypeId} {B b : Nat} {bs : List Value} {W W' : World} (h : Lib.IsBuilderF T e B b bs W) (hb : Below W.heap.size W W') : Lib.IsBuilderF T e B b bs W' :=
  isB_kept h fun _ _ _ _ hk => (hb.block _ (Array.getElem?_eq_some_iff.1 hk).1).trans hk
theorem isB_own {T e : TypeId} {B b : Nat} (f : List UInt8 → List Value) : Own (fun pre W => Lib.IsBuilderF T e B b (f pre) W) := fun pre W W' row hs hg hr =>
  isB_kept hs fun k c t fz hk => (hg.block k (Array.getElem?_eq_some_iff.1 hk).1 (fun e => by
    obtain ⟨o, ho, hc⟩ := hr k e.symm
    rw [hk] at ho
    cases ho
    cases hc)).trans hk

def mk (D : Nat) : Deferred := { target := .collected D, args := #[] }
/-- The blocks for deferred calls of ranges that are over: none was deferred. -/
def Marks (Ds : List Nat) (w : World) : Prop := Ds.Nodup ∧ ∀ D ∈ Ds, w.heap[D]? = some (.deferred (some []))
theorem Marks.nil (w : World) : Marks [] w := ⟨List.nodup_nil, fun _ h => by cases h⟩
theorem Marks.lt {Ds : List Nat} {w : World} (h : Marks Ds w) : ∀ D ∈ Ds, D < w.heap.size := fun D hD => (Array.getElem?_eq_some_iff.1 (h.2 D hD)).1
theorem Marks.below {Ds : List Nat} {w w' : World} (h : Marks Ds w) (hb : Below w.heap.size w w') : Marks Ds w' := ⟨h.1, fun D hD => (hb.block D (h.lt D hD)).trans (h.2 D hD)⟩
theorem marks_own {β : Type} {Ds : List Nat} {B : Nat} (hB : ∀ D ∈ Ds, D < B) : OwnFrom B (fun (_ : β) W => Marks Ds W) := fun _ _ _ _ hs hg hr =>
  ⟨hs.1, fun D hD => (hg.block D (hs.lt D hD) (fun e => by have := (hr D e.symm).1; have := hB D hD; omega)).trans (hs.2 D hD)⟩
theorem Marks.others {Ds : List Nat} {w w' : World} {t : TypeId} {b : Nat} {c : Array Value} {u : TypeId} {fz : Nat × Nat} (h : Marks Ds w) (hk : Lib.OthersKept t (some b) w w') (hb : w.heap[b]? = some (.cells c u fz)) : Marks Ds w' :=
  ⟨h.1, fun D hD => hk D _ (h.2 D hD) (fun e => by injection e with e; subst e; rw [h.2 D hD] at hb; cases hb) (fun _ _ e => by cases e)⟩

theorem leaves_marks {F : Fence} {n : Nat} {P : Program} {fn : Func} {tmps : Array Value} {R : Ending → World → Prop} {B : Nat} : ∀ (Ds : List Nat) (w : World), Marks Ds w → (∀ D ∈ Ds, B ≤ D) →
    (∀ w' : World, Below B w w' → (∀ (k : Nat) c t fz, w.heap[k]? = some (.cells c t fz) → w'.heap[k]? = some (.cells c t fz)) → ∃ v, (results fn tmps).run P w' = .ok v w' ∧ R (.returned v) w') →
    LeavesInM F n P fn tmps R (Ds.map mk) .returning w
  | [], w, _, _, h => h w (Below.refl _ _) (fun _ _ _ _ e => e)
  | D :: Ds, w, hm, hB, h => by
    have hD := hm.2 D (List.mem_cons_self ..)
    have hnd := List.nodup_cons.1 hm.1
    have hlt := (Array.getElem?_eq_some_iff.1 hD).1
    have hb1 : Below B w (w.putObj D (.deferred none)) := (Below.refl B w).grown (grownBy_putObj' w D _) (by have := hB D (List.mem_cons_self ..); omega) (fun k e => by cases e; exact hB D (List.mem_cons_self ..))
    refine ⟨by simp, .inl ⟨D, _, rfl, run_takeDeferred hD, ?_⟩⟩
    refine leaves_marks Ds _ ⟨hnd.2, fun E hE => ?_⟩ (fun E hE => hB E (List.mem_cons_of_mem _ hE)) (fun w' hb hc => h w' (hb1.trans hb) (fun k c t fz hk => hc k c t fz ?_))
    · have hne : E ≠ D := fun e => hnd.1 (e ▸ hE)
      exact (World.putObj_heap_other (by first | exact hne | exact hne.symm)).trans (hm.2 E (List.mem_cons_of_mem _ hE))
    · exact (World.putObj_heap_other (fun e => by subst e; rw [hD] at hk; cases hk)).trans hk

theorem boxed_others {w w' : World} {t u : TypeId} {b Bx : Nat} {v : Value} (h : Boxed w Bx u v) (hk : Lib.OthersKept t (some b) w w') (hb : Bx ≠ b) (hu : u ≠ t) : Boxed w' Bx u v :=
  hk Bx _ h (fun e => hb (by injection e)) (fun _ _ e => by injection e with _ e; exact hu e)
theorem keeps_others {w w' : World} {t : TypeId} {b : Nat} {c : Array Value} {u : TypeId} {fz : Nat × Nat} (hk : Lib.OthersKept t (some b) w w') (hs : w.heap.size ≤ w'.heap.size) (hb : w.heap[b]? = some (.cells c u fz)) (B : Nat) : KeepsFrom B w w' :=
  ⟨hs, fun k o _ ho hc => hk k o ho (fun e => by injection e with e; subst e; rw [ho] at hb; cases hb; cases hc) (fun _ _ e => by subst e; cases hc)⟩
theorem isB_block {T e : TypeId} {B b : Nat} {bs : List Value} {W : World} (h : Lib.IsBuilderF T e B b bs W) : ∃ c fz, W.heap[b]? = some (.cells c T fz) := by
  rcases h with ⟨_, v, hb, _⟩ | ⟨_, v, hb, _⟩ <;> exact ⟨_, _, hb⟩
theorem isB_le {T e : TypeId} {B b : Nat} {bs : List Value} {W : World} (h : Lib.IsBuilderF T e B b bs W) : B ≤ b := by
  rcases h with ⟨h, _⟩ | ⟨h, _⟩ <;> exact h

end Go.Proofs.YtpmelbjbkdflgaaDoor
