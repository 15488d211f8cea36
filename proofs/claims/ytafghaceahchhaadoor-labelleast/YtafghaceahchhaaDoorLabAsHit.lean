/- errors.As at what is no label. -/
import Derived.Test.YtafghaceahchhaaDoorLabAs
namespace Go.Proofs.YtafghaceahchhaaDoor
open Go.RowKit Go.Extern.Stop Go.Stop Go.Extern

/-- (Value).Set: the variable at block t gets what the Value's own variable at block b holds. -/
theorem asSet (t b : Nat) (l c i : Int) (o0 o1 o2 : Value) (W : World) (h0 : W.cell? ⟨b, 0, none⟩ = some (.int .i64 l)) (h1 : W.cell? ⟨b, 1, none⟩ = some (.int .u64 c)) (h2 : W.cell? ⟨b, 2, none⟩ = some (.int .i64 i))
    (t0 : W.cell? ⟨t, 0, none⟩ = some o0) (t1 : W.cell? ⟨t, 1, none⟩ = some o1) (t2 : W.cell? ⟨t, 2, none⟩ = some o2)
    (f0 : W.frozen? ⟨t, 0, none⟩ = false) (f1 : W.frozen? ⟨t, 1, none⟩ = false) (f2 : W.frozen? ⟨t, 2, none⟩ = false) :
    (ReflectliteValue.set #[.agg #[.pointer (some ⟨1, 52, none⟩), .pointer (some ⟨t, 0, none⟩), .int .u64 409], .agg #[.pointer (some ⟨1, 52, none⟩), .pointer (some ⟨b, 0, none⟩), .int .u64 153]]).run Tryd.prog W
      = .ok (.tuple #[]) (((W.setCell ⟨t, 0, none⟩ (.int .i64 l)).setCell ⟨t, 1, none⟩ (.int .u64 c)).setCell ⟨t, 2, none⟩ (.int .i64 i)) := by
  have u1 : (W.setCell ⟨t, 0, none⟩ (.int .i64 l)).cell? ⟨t, 1, none⟩ = some o1 := (World.cell?_setCell_other _ _ _ _ (by simp)).trans t1
  have u2 : ((W.setCell ⟨t, 0, none⟩ (.int .i64 l)).setCell ⟨t, 1, none⟩ (.int .u64 c)).cell? ⟨t, 2, none⟩ = some o2 := (World.cell?_setCell_other _ _ _ _ (by simp)).trans ((World.cell?_setCell_other _ _ _ _ (by simp)).trans t2)
  have hl := run_loadCells_list (P := Tryd.prog) W ⟨b, 0, none⟩ [.int .i64 l, .int .u64 c, .int .i64 i] (fun j v hj => by
    match j with
    | 0 => obtain rfl := Option.some.inj hj; exact h0
    | 1 => obtain rfl := Option.some.inj hj; exact h1
    | 2 => obtain rfl := Option.some.inj hj; exact h2
    | n + 3 => simp at hj)
  simp only [List.length_cons, List.length_nil, Nat.reduceAdd] at hl
  show (ReflectliteValue.parts (.agg #[.pointer (some ⟨1, 52, none⟩), .pointer (some ⟨t, 0, none⟩), .int .u64 409]) >>= fun _ => ReflectliteValue.parts (.agg #[.pointer (some ⟨1, 52, none⟩), .pointer (some ⟨b, 0, none⟩), .int .u64 153]) >>= fun _ => _ : Sem Value).run Tryd.prog W = _
  simp only [Sem.run_bind, asPartsA, asPartsS, Result.andThen]
  simp [ReflectliteValue.flagAddr, loadVar, isAgg, underlying, Tryd.underlying52, hl, Result.andThen, asDirect, storeVar, Value.cells, storeCells, Addr.add]
  rw [run_store_int]
  simp [stored, t0, f0]
  rw [run_store_int]
  simp [stored, u1, f1, World.frozen?_setCell]
  rw [run_store_int]
  simp [stored, u2, f2, World.frozen?_setCell]

set_option maxRecDepth 100000 in
set_option maxHeartbeats 4000000 in
theorem as_hit (l c i : Int) (t : Nat) (o0 o1 o2 : Value) (w : World) (hg : w.cell? ⟨0, 0, none⟩ = some (.iface 75 (.agg #[.pointer (some ⟨1, 44, none⟩)])))
    (t0 : w.cell? ⟨t, 0, none⟩ = some o0) (t1 : w.cell? ⟨t, 1, none⟩ = some o1) (t2 : w.cell? ⟨t, 2, none⟩ = some o2)
    (f0 : w.frozen? ⟨t, 0, none⟩ = false) (f1 : w.frozen? ⟨t, 1, none⟩ = false) (f2 : w.frozen? ⟨t, 2, none⟩ = false) :
    Calls Tryd.prog 38 #[.iface 52 (.agg #[.int .i64 l, .int .u64 c, .int .i64 i]), .iface 54 (.pointer (some ⟨t, 0, none⟩))] w fun ev w' => ev = .returned (.bool true) ∧ Below t w w' := by
  have h6 := @run_callFunc_extern Tryd.prog 44 _ (fun args => ReflectliteValue.unpack (args.getD 0 (.tuple #[]))) Tryd.func44 (by kernel_rfl) (by kernel_rfl) (by kernel_rfl) (by kernel_rfl)
  have h7 := @run_callFunc_extern Tryd.prog 45 _ (ReflectliteValue.methodAny (ReflectliteValue.valueError "reflectlite.Value.Type" 0) (fun t _ _ _ => ReflectliteType.toType t)) Tryd.func45 (by kernel_rfl) (by kernel_rfl) (by kernel_rfl) (by kernel_rfl)
  have h8 := @run_callFunc_extern Tryd.prog 46 _ (ReflectliteValue.method (ReflectliteValue.valueError "reflectlite.Value.IsNil" 0) ReflectliteValue.isNil) Tryd.func46 (by kernel_rfl) (by kernel_rfl) (by kernel_rfl) (by kernel_rfl)
  have h27 := @run_callFunc_extern Tryd.prog 67 _ (ReflectliteType.abiMethod fun t => do pure (.int .u8 (← Rtype.kind t))) Tryd.func67 (by kernel_rfl) (by kernel_rfl) (by kernel_rfl) (by kernel_rfl)
  have h37 := @run_callFunc_extern Tryd.prog 77 _ (ReflectliteType.method ReflectliteType.elem) Tryd.func77 (by kernel_rfl) (by kernel_rfl) (by kernel_rfl) (by kernel_rfl)
  have h38 := @run_callFunc_extern Tryd.prog 78 _ (ReflectliteType.relation "Implements" ReflectliteType.implements_) Tryd.func78 (by kernel_rfl) (by kernel_rfl) (by kernel_rfl) (by kernel_rfl)
  have h10 := @run_callFunc_extern Tryd.prog 50 _ ReflectliteType.typeOf Tryd.func50 (by kernel_rfl) (by kernel_rfl) (by kernel_rfl) (by kernel_rfl)
  have h35 := @run_callFunc_extern Tryd.prog 75 _ (ReflectliteType.relation "AssignableTo" ReflectliteType.assignableTo) Tryd.func75 (by kernel_rfl) (by kernel_rfl) (by kernel_rfl) (by kernel_rfl)
  have h11 := @run_callFunc_extern Tryd.prog 51 _ (ReflectliteValue.method (ReflectliteValue.valueError "reflectlite.Value.Elem" 0) ReflectliteValue.elem) Tryd.func51 (by kernel_rfl) (by kernel_rfl) (by kernel_rfl) (by kernel_rfl)
  have h12 := @run_callFunc_extern Tryd.prog 52 _ ReflectliteValue.set Tryd.func52 (by kernel_rfl) (by kernel_rfl) (by kernel_rfl) (by kernel_rfl)
  have tO := asTypeOf
  have mA := asMA
  have a25 := asAssign
  have v25 := asVs (.int .i64 l) (.int .u64 c) (.int .i64 i)
  have f6 := asV
  have f7 := asT
  have mK := asMK
  have mE := asME
  have mI := asMI
  have k27 := asKp
  have k25 := asKs
  have e27 := asElemT
  have i25 := asImpl
  have hlt : 0 < w.heap.size := World.block_lt_of_cell? w _ hg
  have htl : t < w.heap.size := World.block_lt_of_cell? w _ t0
  have hB2 : Below w.heap.size w ((w.alloc (.cells #[.pointer (some ⟨t, 0, none⟩)] 54)).alloc (.cells #[.pointer (some ⟨1, 54, none⟩), .pointer (some ⟨w.heap.size, 0, none⟩), .int .u64 150] 64)) := ((Below.refl _ w).alloc (Nat.le_refl _) _).alloc (by simp) _
  have hB4 := ((hB2.alloc (by simp; omega) (.cells #[.pointer (some ⟨1, 54, none⟩), .pointer (some ⟨w.heap.size, 0, none⟩), .int .u64 150] 64)).alloc (by simp; omega) (.cells #[.int .i64 l, .int .u64 c, .int .i64 i] 52))
  have n8 := asIsNil ⟨w.heap.size, 0, none⟩ ⟨t, 0, none⟩ ((w.alloc (.cells #[.pointer (some ⟨t, 0, none⟩)] 54)).alloc (.cells #[.pointer (some ⟨1, 54, none⟩), .pointer (some ⟨w.heap.size, 0, none⟩), .int .u64 150] 64)) (by simp)
  have hg2 := (hB2.cell (p := ⟨0, 0, none⟩) hlt).trans hg
  have el := asElemV ⟨w.heap.size, 0, none⟩ ⟨t, 0, none⟩ (((w.alloc (.cells #[.pointer (some ⟨t, 0, none⟩)] 54)).alloc (.cells #[.pointer (some ⟨1, 54, none⟩), .pointer (some ⟨w.heap.size, 0, none⟩), .int .u64 150] 64)).alloc (.cells #[.pointer (some ⟨1, 54, none⟩), .pointer (some ⟨w.heap.size, 0, none⟩), .int .u64 150] 64)) (by rw [World.cell?_alloc_lt _ _ ⟨w.heap.size, 0, none⟩ (by simp; omega)]; simp)
  have st := asSet t (w.heap.size + 1 + 1 + 1) l c i o0 o1 o2 _ (by rw [World.cell?_alloc_at _ _ _ _ (by simp)]; rfl) (by rw [World.cell?_alloc_at _ _ _ _ (by simp)]; rfl) (by rw [World.cell?_alloc_at _ _ _ _ (by simp)]; rfl)
    ((hB4.cell (p := ⟨t, 0, none⟩) htl).trans t0) ((hB4.cell (p := ⟨t, 1, none⟩) htl).trans t1) ((hB4.cell (p := ⟨t, 2, none⟩) htl).trans t2)
    ((hB4.frozen (p := ⟨t, 0, none⟩) htl).trans f0) ((hB4.frozen (p := ⟨t, 1, none⟩) htl).trans f1) ((hB4.frozen (p := ⟨t, 2, none⟩) htl).trans f2)
  go_enter Tryd.func38, Tryd.ntmps38
  go_wp2
  refine wp_loop_rounds 1 ?_
  rw [rounds_succ]
  go_wp2
  go_ret
  exact ⟨rfl, (((hB4.mono (Nat.le_of_lt htl)).setCell (p := ⟨t, 0, none⟩) (Nat.le_refl _) _).setCell (p := ⟨t, 1, none⟩) (Nat.le_refl _) _).setCell (p := ⟨t, 2, none⟩) (Nat.le_refl _) _⟩
end Go.Proofs.YtafghaceahchhaaDoor
