/- What the listed variables give the walks: the two sentinels; arguments opened and shut. -/
import Derived.Test.YtjfooblnpkckfaaDoorRows
import Derived.Test.YtjfooblnpkckfaaDoorSlLaws
import Derived.ProofKit
import Derived.LaidMore
import Derived.OpenShut
import Derived.ChangeOld
import Derived.ChangeMaps5
import Derived.ChangeSlices
import Derived.Stop.Joined
import Derived.Stop.LaidErr
import Derived.Stop.LaidTwo
import Derived.LaidLaws
import Derived.Lib.SmallJoins
import Derived.ChangeSame
import Derived.Deep.Slices
import Derived.Deep.Fields
namespace Go.Proofs.YtjfooblnpkckfaaDoor
open Go.ChangeShapes Go.WideShapes Go.ChangeAt Go.RowKit Go.Proofs.Slt Go.Joins

theorem own : ownKnob Tryd.prog.godebug = none := by kernel_rfl
theorem laidOut : laidOutB Tryd.prog = true := by kernel_rfl

/-- What the rows list. -/
def laid6 : List (String × DataW Unit) := [("plimsoll/slots.errNone", Rows.laid_plimsoll_slots_errNone), ("plimsoll/slots.errStale", Rows.laid_plimsoll_slots_errStale)]

theorem nG : Tryd.prog.globalNamed "plimsoll/slots.errNone" = some 0 := by kernel_rfl
theorem sG : Tryd.prog.globalNamed "plimsoll/slots.errStale" = some 1 := by kernel_rfl
theorem nT : (Tryd.prog.globals[0]?).map (·.type) = some 65 := by kernel_rfl
theorem sT : (Tryd.prog.globals[1]?).map (·.type) = some 65 := by kernel_rfl
theorem star : "*errors.errorString" = "*" ++ "errors.errorString" := by decide
theorem rowErr (u : TypeId) (h : Tryd.prog.typeName? 3 u = some "*errors.errorString") : u = 113 :=
  typeName_ptr_named (nm := "errors.errorString") (by rw [← star]; kernel_rfl) (by kernel_rfl) (by decide) u (by rw [← star]; exact h)
theorem cellsErr : Tryd.prog.cellsOf 139 = 1 := by kernel_rfl
theorem cells9 : Tryd.prog.cellsOf 9 = 1 := by kernel_rfl

theorem ctx_of_laid {W : World} (h : laidMetH Tryd.prog laid6 W) : ∃ t, Ctx t W.heap.size W := by
  rw [MakeChecks.laidMetH_plain _ _ _ (by kernel_rfl)] at h
  obtain ⟨an, al, sn, ss, c0, c1, t0, t1, vn, vs, cn, xn, _, cs, xs, _, nns, bn, bs⟩ := laid_sentinels2 h nG nT sG sT Tryd.underlying65 rowErr Tryd.underlying113 Tryd.underlying139 rfl rfl Tryd.underlying9 cellsErr cells9
  have k0 : W.cell? ⟨0, 0, none⟩ = some (.iface 113 (.pointer (some an))) := by simpa using World.var?_cell nG vn 0
  have k1 : W.cell? ⟨1, 0, none⟩ = some (.iface 113 (.pointer (some al))) := by simpa using World.var?_cell sG vs 0
  exact ⟨⟨an, al⟩, k0, k1, ⟨_, _, bn⟩, ⟨_, _, bs⟩, nns, World.block_lt_of_cell? W _ k0, World.block_lt_of_cell? W _ k1, (Array.getElem?_eq_some_iff.1 bn).1, (Array.getElem?_eq_some_iff.1 bs).1, Nat.le_refl _⟩

theorem door_met6 (os : Os) (args : Array Value) : laidMetH Tryd.prog laid6 ((World.doorLaid Tryd.prog 400 os).forCall (fun _ _ => 0) ⟨#[], args, []⟩).memory :=
  laidMetH_of_parts3 (fuel := 8) (laidMet_of_run' 8 (by kernel_rfl) (by kernel_rfl)) (by kernel_rfl) (by kernel_rfl)

/-- A handle's numbers are numbers of the machine. -/
def HWf (x : IH) : Prop := (Lit.int .i64 x.1).wf = true ∧ (Lit.int .i64 x.2).wf = true
def hD {H : Type} (x : IH) : DataW H := .agg [.lit (.int .i64 x.1), .lit (.int .i64 x.2)]
theorem cellsH : Tryd.prog.cellsOf 32 = 2 := by kernel_rfl

section
variable {H : Type} {enc : TypeId × Value → H} {W : World} {base : Nat}
set_option maxRecDepth 100000 in
theorem open_h {b0 : Nat} {v : Value} {d : DataW H} {p : List MemPlace} {spare : Nat → Bool} {held : Bool} (hv : Value.okWide Tryd.prog W .any b0 32 v) (h : DataW.Trod enc Tryd.prog W base spare held 32 v d p) :
    ∃ x : IH, HWf x ∧ v = .agg #[.int .i64 x.1, .int .i64 x.2] ∧ d = hD x ∧ p = [] := by
  obtain ⟨v0, v1, y0, y1, n, rfl, rfl, rfl, h0, h1⟩ := open_agg2 Tryd.underlying32 (by kernel_rfl) cellsH hv h
  obtain ⟨n0, e0, rfl, w0⟩ := DataW.trod_int Tryd.underlying3 h0
  obtain ⟨n1, e1, rfl, w1⟩ := DataW.trod_int Tryd.underlying3 h1
  obtain rfl := List.head_eq_of_cons_eq e0
  obtain rfl := List.head_eq_of_cons_eq e1
  exact ⟨(n0, n1), ⟨w0, w1⟩, rfl, rfl, rfl⟩
set_option maxRecDepth 100000 in
theorem shut_h {spare : Nat → Bool} {held : Bool} {x : IH} (h : HWf x) : DataW.Trod enc Tryd.prog W base spare held 32 (.agg #[.int .i64 x.1, .int .i64 x.2]) (hD x) [] :=
  shut_agg2 (y0 := (.lit (.int .i64 x.1), [])) (y1 := (.lit (.int .i64 x.2), [])) Tryd.underlying32 (by kernel_rfl) cellsH
    ⟨1, trod_int_mk 0 Tryd.underlying3 h.1⟩ ⟨1, trod_int_mk 0 Tryd.underlying3 h.2⟩

theorem slI_row {x : Addr} {len cap : Nat} {zs : List Int} (hl : len ≤ cap) (hz : zs.length = cap) (hc : ∀ i, i < zs.length → W.cell? (x.add i) = some (.int .i64 (zs.getD i 0))) : SlI W (some x) (zs.take len) ∧ (zs.take len).length = len := by
  have hlen : (zs.take len).length = len := by rw [List.length_take]; omega
  refine ⟨fun j hj => ?_, hlen⟩
  rw [hlen] at hj
  obtain ⟨b, off, sp⟩ := x
  have h0 := hc j (by omega)
  have hh := hc 0 (by omega)
  have hsp : sp = none := World.cell?_spot hh
  subst hsp
  have e : (⟨b, off, none⟩ : Addr).add j = ⟨b, off + j, none⟩ := by
    unfold Addr.add
    by_cases hj0 : j = 0
    · subst hj0; simp
    · simp [hj0]
  rw [e] at h0
  refine ⟨b, off, rfl, World.block_lt_of_cell? W _ h0, ?_⟩
  rw [h0, List.getElem_take]
  simp [List.getD_eq_getElem?_getD, List.getElem?_eq_getElem (show j < zs.length by omega)]
/-- A slice of numbers that came in, opened. -/
def IntsIn (W : World) (a : Option Addr) (len cap : Nat) (zs : List Int) : Prop := zs.length = len ∧ len ≤ cap ∧ cap ≤ maxLen ∧ SlI W a zs
theorem open_intsIn {a : Option Addr} {len cap : Nat} {d : DataW H} {p : List MemPlace} (h : DataW.Trod enc Tryd.prog W base (fun _ => true) true 44 (.slice a len cap) d p) : ∃ zs, IntsIn W a len cap zs := by
  obtain ⟨fuel, hf⟩ := h
  rcases open_ints Tryd.underlying44 Tryd.underlying3 (by kernel_rfl) hf with ⟨hcs, _⟩ | ⟨x, l, c, zs, hcs, _, hl, hm, hz, _, hcell, hwz⟩
  · simp [Value.cells] at hcs
    obtain ⟨rfl, rfl, rfl⟩ := hcs
    exact ⟨[], rfl, Nat.le_refl _, Nat.zero_le _, fun j hj => by simp at hj⟩
  · simp [Value.cells] at hcs
    obtain ⟨rfl, rfl, rfl⟩ := hcs
    obtain ⟨h1, h2⟩ := slI_row hl (by simpa using hz) hcell
    exact ⟨_, h2, hl, hm, h1⟩
end

end Go.Proofs.YtjfooblnpkckfaaDoor
