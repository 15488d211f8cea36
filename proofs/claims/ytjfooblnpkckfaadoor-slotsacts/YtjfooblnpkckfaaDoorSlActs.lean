/- SlotsActs: the program's slots beside the document's. -/
import Derived.Test.YtjfooblnpkckfaaDoorSlRef4
import Derived.Test.YtjfooblnpkckfaaDoorSlOnce
import Derived.Deep.RegionHeld3
namespace Go.Proofs.YtjfooblnpkckfaaDoor
open Go.RowKit Go.Proofs.Slt Go.Shelf

theorem Run.m_le {t : Sn} {m : Nat} {w0 : World} {z : Nat} {p : Pl} {st : St} {w : World} (h : Run t m w0 z p st w) : m ≤ z := by
  obtain ⟨fr, hs⟩ := h.sl
  have := hs.base
  have := h.lt
  omega
theorem Run.belowZ {t : Sn} {m : Nat} {w0 : World} {z : Nat} {p : Pl} {st : St} {w w' : World} (h : Run t m w0 z p st w) (hb : Below z w w') : Run t m w0 z p st w' := by
  have hl := h.lt
  obtain ⟨fr, hs⟩ := h.sl
  exact ⟨h.ctx.below (hb.mono h.m_le), ⟨fr, hs.kept (hb.block _ hl.1) (hb.block _ hl.2.1) (hb.block _ hl.2.2)⟩, h.below.trans (hb.mono h.m_le), h.lt, Nat.le_trans h.z hb.size⟩
theorem Run.gens {t : Sn} {m : Nat} {w0 : World} {z : Nat} {p : Pl} {st : St} {w : World} (h : Run t m w0 z p st w) : ∀ (j g : Nat) (b : Bool), st[j]? = some (g, b) → g ≤ 1000 := by
  obtain ⟨fr, hs⟩ := h.sl
  exact hs.gen
theorem Run.few {t : Sn} {m : Nat} {w0 : World} {z : Nat} {p : Pl} {st : St} {w : World} (h : Run t m w0 z p st w) : (allR st).length ≤ 64 := by
  obtain ⟨fr, hs⟩ := h.sl
  exact Nat.le_trans (allR_le st) hs.few

/-- The program's slots st1 and the document's st2. -/
structure AW (t : Sn) (m : Nat) (w0 : World) (z : Nat) (p : Pl) (q : Pr) (st1 st2 : St) (w : World) : Prop where
  run : Run t m w0 z p st1 w
  rf : Rf z w q st2
section
variable {t : Sn} {m : Nat} {w0 : World} {z : Nat} {p : Pl} {q : Pr} {st1 st2 st' : St} {w w' : World}
theorem AW.more (h : AW t m w0 z p q st1 st2 w) (hb : Below w.heap.size w w') : AW t m w0 z p q st1 st2 w' := ⟨h.run.more hb, h.rf.more hb⟩
theorem AW.s (h : AW t m w0 z p q st1 st2 w) (r : Run t m w0 z p st' w') (hf : p.Fr w w') : AW t m w0 z p q st' st2 w' :=
  have hl := h.rf.lt
  have hb := h.rf.bases
  ⟨r, h.rf.kept (h.run.block hf hl.1 hb.1) (h.run.block hf hl.2.1 hb.2.1) (h.run.block hf hl.2.2 hb.2.2)⟩
theorem AW.r (h : AW t m w0 z p q st1 st2 w) (r : Rf z w' q st') (hf : q.Fr w w') : AW t m w0 z p q st1 st' w' :=
  have hb := h.rf.bases
  ⟨h.run.belowZ (Fr.below hf h.run.z hb.1 hb.2.1 hb.2.2), r⟩
/-- A cell of neither. -/
theorem AW.cellS (h : AW t m w0 z p q st1 st2 w) (hf : p.Fr w w') {a : Addr} {v : Value} (hc : w.cell? a = some v) (ha : z ≤ a.block) : w'.cell? a = some v := h.run.cell hf hc ha
theorem AW.cellR (_h : AW t m w0 z p q st1 st2 w) (hf : q.Fr w w') {a : Addr} {v : Value} (hc : w.cell? a = some v) (ha : q.R < a.block ∧ q.G < a.block ∧ q.F < a.block) : w'.cell? a = some v :=
  Fr.cell hf hc (by omega) (by omega) (by omega)
end
/-- What the document's All tells, beside the program's slots. -/
def RAllP (t : Sn) (m : Nat) (w0 : World) (z : Nat) (p : Pl) (q : Pr) (st : St) (w : World) (e : Ending) (w' : World) : Prop := ∃ a c, e = .returned (.slice a (allR st).length c) ∧ Hs w.heap.size w' (.slice a (allR st).length c) (allR st) ∧ AW t m w0 z p q st st w'
theorem RAll_p {t : Sn} {m : Nat} {w0 : World} {z : Nat} {p : Pl} {q : Pr} {st : St} {w : World} (h : AW t m w0 z p q st st w) : Calls Tryd.prog 18 #[.pointer (some ⟨q.R, 0, none⟩)] w (RAllP t m w0 z p q st w) :=
  (RAll_any z q st w h.rf).mono fun _ _ ⟨v, he, hv, hb⟩ => by
    obtain ⟨a, c, rfl⟩ := hv.slice
    exact ⟨a, c, he, hv, h.more hb⟩

/-- An act: is one taken? else the handle that is given back. -/
abbrev Ac := Bool × IH
/-- Acts that came in. -/
def SlA (w : World) (a : Option Addr) (zs : List Ac) : Prop := ∀ j x, zs[j]? = some x → ∃ g off, a = some ⟨g, off, none⟩ ∧ g < w.heap.size ∧ w.cell? ⟨g, off + j * 3, none⟩ = some (.bool x.1) ∧ w.cell? ⟨g, off + j * 3 + 1, none⟩ = some (.int .i64 x.2.1) ∧ w.cell? ⟨g, off + j * 3 + 2, none⟩ = some (.int .i64 x.2.2)
def ActsIn (W : World) (a : Option Addr) (len cap : Nat) (zs : List Ac) : Prop := zs.length = len ∧ len ≤ cap ∧ cap ≤ maxLen ∧ SlA W a zs
theorem new_cells3 (w : World) (v0 v1 v2 : Value) (t : TypeId) : (w.alloc (.cells #[v0, v1, v2] t)).cell? ⟨w.heap.size, 0, none⟩ = some v0 ∧ (w.alloc (.cells #[v0, v1, v2] t)).cell? ⟨w.heap.size, 1, none⟩ = some v1 ∧ (w.alloc (.cells #[v0, v1, v2] t)).cell? ⟨w.heap.size, 2, none⟩ = some v2 := by
  refine ⟨?_, ?_, ?_⟩ <;> (rw [World.cell?_alloc_at _ _ _ _ rfl]; rfl)

end Go.Proofs.YtjfooblnpkckfaaDoor
