/- Merged texts: WdAs, WdTold, WdRows, WdHead, WdFew, WdSpoil, WdForm, WdJudge -/
import Derived.Test.YtlafcplcjpcikaaGreatDoorRgA
import Derived.LaidEql
import Derived.Stop.Asserts
import Derived.RowKitTokens
import Derived.Test.YtlafcplcjpcikaaGreatDoorWdA
import Derived.Test.YtlafcplcjpcikaaGreatDoorSpE
import Derived.Test.YtlafcplcjpcikaaGreatDoorLbA
/- errors.As at the one target, a variable of type world.fault: nil, and a fault. -/
namespace Go.Proofs.YtlafcplcjpcikaaGreatDoor.Wt
open Go.RowKit Go.Extern.Stop Go.Stop Go.Extern Go.Shelf

/-- errors.As(nil, target). -/
theorem as_nil (t : Value) (w : World) :
    Calls Tryz.prog 67 #[.nilIface, t] w fun e w' => e = .returned (.bool false) ∧ w = w' := by
  go_enter Tryz.func67, Tryz.ntmps67
  go_wp2
  go_ret
  exact ⟨rfl, rfl⟩

theorem asV (t : Addr) (w : World) : (ReflectliteValue.unpack (.iface 100 (.pointer (some t)))).run Tryz.prog w
    = .ok (.agg #[.pointer (some ⟨3, 100, none⟩), .pointer (some ⟨w.heap.size, 0, none⟩), .int .u64 150]) (w.alloc (.cells #[.pointer (some t)] 100)) := by kernel_rfl
theorem asT (a : Addr) (w : World) : (ReflectliteValue.methodAny (ReflectliteValue.valueError "reflectlite.Value.Type" 0) (fun t _ _ _ => ReflectliteType.toType t) #[.agg #[.pointer (some ⟨3, 100, none⟩), .pointer (some a), .int .u64 150]]).run Tryz.prog w
    = .ok (.iface 142 (.agg #[.pointer (some ⟨3, 100, none⟩)])) w := by kernel_rfl
theorem asMK (h : Value) (w : World) : (Go.method 319 142 (.agg #[h]) "Kind").run Tryz.prog w = .ok (132, h) w := by kernel_rfl
theorem asKp (w : World) : ((ReflectliteType.abiMethod fun t => (fun a : Nat => Value.int IntKind.u8 (a : Int)) <$> Rtype.kind t) #[.pointer (some ⟨3, 100, none⟩)]).run Tryz.prog w = .ok (.int .u8 22) w := by kernel_rfl
theorem asKs (w : World) : ((ReflectliteType.abiMethod fun t => (fun a : Nat => Value.int IntKind.u8 (a : Int)) <$> Rtype.kind t) #[.pointer (some ⟨3, 97, none⟩)]).run Tryz.prog w = .ok (.int .u8 25) w := by kernel_rfl

theorem asPartsP (a : Addr) (w : World) : (ReflectliteValue.parts (.agg #[.pointer (some ⟨3, 100, none⟩), .pointer (some a), .int .u64 150])).run Tryz.prog w = .ok (some (100, a, 150)) w := by kernel_rfl
theorem asIsNil (a p : Addr) (W : World) (ha : W.cell? a = some (.pointer (some p))) :
    (ReflectliteValue.method (ReflectliteValue.valueError "reflectlite.Value.IsNil" 0) ReflectliteValue.isNil #[.agg #[.pointer (some ⟨3, 100, none⟩), .pointer (some a), .int .u64 150]]).run Tryz.prog W = .ok (.bool false) W := by
  show (ReflectliteValue.parts (.agg #[.pointer (some ⟨3, 100, none⟩), .pointer (some a), .int .u64 150]) >>= _ : Sem Value).run Tryz.prog W = _
  simp only [Sem.run_bind, asPartsP, Result.andThen]
  simp [ReflectliteValue.isNil, loadVar, isAgg, underlying, Tryz.underlying100, ha, Result.andThen]
theorem asME (h : Value) (w : World) : (Go.method 319 142 (.agg #[h]) "Elem").run Tryz.prog w = .ok (146, .agg #[h]) w := by kernel_rfl
theorem asMI (h : Value) (w : World) : (Go.method 319 142 (.agg #[h]) "Implements").run Tryz.prog w = .ok (147, .agg #[h]) w := by kernel_rfl
theorem asMA (h : Value) (w : World) : (Go.method 319 142 (.agg #[h]) "AssignableTo").run Tryz.prog w = .ok (144, .agg #[h]) w := by kernel_rfl
theorem asElemT (w : World) : (ReflectliteType.method ReflectliteType.elem #[.agg #[.pointer (some ⟨3, 100, none⟩)]]).run Tryz.prog w = .ok (.iface 142 (.agg #[.pointer (some ⟨3, 97, none⟩)])) w := by kernel_rfl
theorem asImpl (w : World) : (ReflectliteType.relation "Implements" ReflectliteType.implements_ #[.agg #[.pointer (some ⟨3, 97, none⟩)], .iface 142 (.agg #[.pointer (some ⟨3, 57, none⟩)])]).run Tryz.prog w = .ok (.bool true) w := by kernel_rfl
theorem asTypeOf (v : Value) (w : World) : (ReflectliteType.typeOf #[.iface 97 v]).run Tryz.prog w = .ok (.iface 142 (.agg #[.pointer (some ⟨3, 97, none⟩)])) w := by kernel_rfl
theorem asAssign (w : World) : (ReflectliteType.relation "AssignableTo" ReflectliteType.assignableTo #[.agg #[.pointer (some ⟨3, 97, none⟩)], .iface 142 (.agg #[.pointer (some ⟨3, 97, none⟩)])]).run Tryz.prog w = .ok (.bool true) w := by kernel_rfl
theorem asVs (l c : Value) (w : World) : (ReflectliteValue.unpack (.iface 97 (.agg #[l, c]))).run Tryz.prog w
    = .ok (.agg #[.pointer (some ⟨3, 97, none⟩), .pointer (some ⟨w.heap.size, 0, none⟩), .int .u64 153]) (w.alloc (.cells #[l, c] 97)) := by kernel_rfl
theorem asElemOf (w : World) : (Rtype.elem? 100).run Tryz.prog w = .ok (some 97) w := by kernel_rfl
theorem asMk (p : Addr) (w : World) : (ReflectliteValue.mk 97 p ReflectliteValue.flagAddr).run Tryz.prog w = .ok (.agg #[.pointer (some ⟨3, 97, none⟩), .pointer (some p), .int .u64 409]) w := by kernel_rfl
theorem asElemV (a p : Addr) (W : World) (ha : W.cell? a = some (.pointer (some p))) :
    (ReflectliteValue.method (ReflectliteValue.valueError "reflectlite.Value.Elem" 0) ReflectliteValue.elem #[.agg #[.pointer (some ⟨3, 100, none⟩), .pointer (some a), .int .u64 150]]).run Tryz.prog W
      = .ok (.agg #[.pointer (some ⟨3, 97, none⟩), .pointer (some p), .int .u64 409]) W := by
  show (ReflectliteValue.parts (.agg #[.pointer (some ⟨3, 100, none⟩), .pointer (some a), .int .u64 150]) >>= _ : Sem Value).run Tryz.prog W = _
  simp only [Sem.run_bind, asPartsP, Result.andThen]
  simp [ReflectliteValue.elem, loadVar, isAgg, underlying, Tryz.underlying100, ha, Result.andThen, asElemOf, asMk]
theorem asPartsA (a : Addr) (w : World) : (ReflectliteValue.parts (.agg #[.pointer (some ⟨3, 97, none⟩), .pointer (some a), .int .u64 409])).run Tryz.prog w = .ok (some (97, a, 409)) w := by kernel_rfl
theorem asPartsS (a : Addr) (w : World) : (ReflectliteValue.parts (.agg #[.pointer (some ⟨3, 97, none⟩), .pointer (some a), .int .u64 153])).run Tryz.prog w = .ok (some (97, a, 153)) w := by kernel_rfl
theorem asDirect (w : World) : (Rtype.directlyAssignable 97 97).run Tryz.prog w = .ok true w := by kernel_rfl



/-- (Value).Set: the variable at block t gets what the Value's own variable at block b holds. -/
theorem asSet (t b : Nat) (l : Int) (c : ByteArray) (o0 o1 : Value) (W : World) (h0 : W.cell? ⟨b, 0, none⟩ = some (.int .i64 l)) (h1 : W.cell? ⟨b, 1, none⟩ = some (.string c))
    (t0 : W.cell? ⟨t, 0, none⟩ = some o0) (t1 : W.cell? ⟨t, 1, none⟩ = some o1)
    (f0 : W.frozen? ⟨t, 0, none⟩ = false) (f1 : W.frozen? ⟨t, 1, none⟩ = false) :
    (ReflectliteValue.set #[.agg #[.pointer (some ⟨3, 97, none⟩), .pointer (some ⟨t, 0, none⟩), .int .u64 409], .agg #[.pointer (some ⟨3, 97, none⟩), .pointer (some ⟨b, 0, none⟩), .int .u64 153]]).run Tryz.prog W
      = .ok (.tuple #[]) ((W.setCell ⟨t, 0, none⟩ (.int .i64 l)).setCell ⟨t, 1, none⟩ (.string c)) := by
  have u1 : (W.setCell ⟨t, 0, none⟩ (.int .i64 l)).cell? ⟨t, 1, none⟩ = some o1 := (World.cell?_setCell_other _ _ _ _ (by simp)).trans t1
  have hl := run_loadCells_list (P := Tryz.prog) W ⟨b, 0, none⟩ [.int .i64 l, .string c] (fun j v hj => by
    match j with
    | 0 => obtain rfl := Option.some.inj hj; exact h0
    | 1 => obtain rfl := Option.some.inj hj; exact h1
    | n + 2 => simp at hj)
  simp only [List.length_cons, List.length_nil, Nat.reduceAdd] at hl
  show (ReflectliteValue.parts (.agg #[.pointer (some ⟨3, 97, none⟩), .pointer (some ⟨t, 0, none⟩), .int .u64 409]) >>= fun _ => ReflectliteValue.parts (.agg #[.pointer (some ⟨3, 97, none⟩), .pointer (some ⟨b, 0, none⟩), .int .u64 153]) >>= fun _ => _ : Sem Value).run Tryz.prog W = _
  simp only [Sem.run_bind, asPartsA, asPartsS, Result.andThen]
  simp [ReflectliteValue.flagAddr, loadVar, isAgg, underlying, Tryz.underlying97, hl, Result.andThen, asDirect, storeVar, Value.cells, storeCells, Addr.add]
  rw [run_store_int]
  simp [stored, t0, f0]
  rw [run_store _ _ _ (.string c) _ rfl]
  simp [u1, f1, World.frozen?_setCell]


set_option maxRecDepth 100000 in
set_option maxHeartbeats 4000000 in
theorem as_hit (l : Int) (c : ByteArray) (t : Nat) (o0 o1 : Value) (w : World) (hg : w.cell? ⟨0, 0, none⟩ = some (.iface 142 (.agg #[.pointer (some ⟨3, 57, none⟩)])))
    (t0 : w.cell? ⟨t, 0, none⟩ = some o0) (t1 : w.cell? ⟨t, 1, none⟩ = some o1)
    (f0 : w.frozen? ⟨t, 0, none⟩ = false) (f1 : w.frozen? ⟨t, 1, none⟩ = false) :
    Calls Tryz.prog 67 #[.iface 97 (.agg #[.int .i64 l, .string c]), .iface 100 (.pointer (some ⟨t, 0, none⟩))] w fun ev w' => ev = .returned (.bool true) ∧ w'.cell? ⟨t, 0, none⟩ = some (.int .i64 l) ∧ w'.cell? ⟨t, 1, none⟩ = some (.string c) ∧ Below t w w' := by
  have h6 := @run_callFunc_extern Tryz.prog 83 _ (fun args => ReflectliteValue.unpack (args.getD 0 (.tuple #[]))) Tryz.func83 (by kernel_rfl) (by kernel_rfl) (by kernel_rfl) (by kernel_rfl)
  have h7 := @run_callFunc_extern Tryz.prog 84 _ (ReflectliteValue.methodAny (ReflectliteValue.valueError "reflectlite.Value.Type" 0) (fun t _ _ _ => ReflectliteType.toType t)) Tryz.func84 (by kernel_rfl) (by kernel_rfl) (by kernel_rfl) (by kernel_rfl)
  have h8 := @run_callFunc_extern Tryz.prog 85 _ (ReflectliteValue.method (ReflectliteValue.valueError "reflectlite.Value.IsNil" 0) ReflectliteValue.isNil) Tryz.func85 (by kernel_rfl) (by kernel_rfl) (by kernel_rfl) (by kernel_rfl)
  have h27 := @run_callFunc_extern Tryz.prog 132 _ (ReflectliteType.abiMethod fun t => do pure (.int .u8 (← Rtype.kind t))) Tryz.func132 (by kernel_rfl) (by kernel_rfl) (by kernel_rfl) (by kernel_rfl)
  have h37 := @run_callFunc_extern Tryz.prog 146 _ (ReflectliteType.method ReflectliteType.elem) Tryz.func146 (by kernel_rfl) (by kernel_rfl) (by kernel_rfl) (by kernel_rfl)
  have h38 := @run_callFunc_extern Tryz.prog 147 _ (ReflectliteType.relation "Implements" ReflectliteType.implements_) Tryz.func147 (by kernel_rfl) (by kernel_rfl) (by kernel_rfl) (by kernel_rfl)
  have h10 := @run_callFunc_extern Tryz.prog 94 _ ReflectliteType.typeOf Tryz.func94 (by kernel_rfl) (by kernel_rfl) (by kernel_rfl) (by kernel_rfl)
  have h35 := @run_callFunc_extern Tryz.prog 144 _ (ReflectliteType.relation "AssignableTo" ReflectliteType.assignableTo) Tryz.func144 (by kernel_rfl) (by kernel_rfl) (by kernel_rfl) (by kernel_rfl)
  have h11 := @run_callFunc_extern Tryz.prog 95 _ (ReflectliteValue.method (ReflectliteValue.valueError "reflectlite.Value.Elem" 0) ReflectliteValue.elem) Tryz.func95 (by kernel_rfl) (by kernel_rfl) (by kernel_rfl) (by kernel_rfl)
  have h12 := @run_callFunc_extern Tryz.prog 96 _ ReflectliteValue.set Tryz.func96 (by kernel_rfl) (by kernel_rfl) (by kernel_rfl) (by kernel_rfl)
  have tO := asTypeOf
  have mA := asMA
  have a25 := asAssign
  have v25 := asVs (.int .i64 l) (.string c)
  have f6 := asV
  have f7 := asT
  have mK := asMK
  have mE := asME
  have mI := asMI
  have k27 := asKp
  have k25 := asKs
  have e27 := asElemT
  have i25 := asImpl
  have hlt : 0 < w.heap.size := World.block_lt_of_cell? w _ hg
  have htl : t < w.heap.size := World.block_lt_of_cell? w _ t0
  have hB2 : Below w.heap.size w ((w.alloc (.cells #[.pointer (some ⟨t, 0, none⟩)] 100)).alloc (.cells #[.pointer (some ⟨3, 100, none⟩), .pointer (some ⟨w.heap.size, 0, none⟩), .int .u64 150] 117)) := ((Below.refl _ w).alloc (Nat.le_refl _) _).alloc (by simp) _
  have hB4 := ((hB2.alloc (by simp; omega) (.cells #[.pointer (some ⟨3, 100, none⟩), .pointer (some ⟨w.heap.size, 0, none⟩), .int .u64 150] 117)).alloc (by simp; omega) (.cells #[.int .i64 l, .string c] 97))
  have n8 := asIsNil ⟨w.heap.size, 0, none⟩ ⟨t, 0, none⟩ ((w.alloc (.cells #[.pointer (some ⟨t, 0, none⟩)] 100)).alloc (.cells #[.pointer (some ⟨3, 100, none⟩), .pointer (some ⟨w.heap.size, 0, none⟩), .int .u64 150] 117)) (by simp)
  have hg2 := (hB2.cell (p := ⟨0, 0, none⟩) hlt).trans hg
  have el := asElemV ⟨w.heap.size, 0, none⟩ ⟨t, 0, none⟩ (((w.alloc (.cells #[.pointer (some ⟨t, 0, none⟩)] 100)).alloc (.cells #[.pointer (some ⟨3, 100, none⟩), .pointer (some ⟨w.heap.size, 0, none⟩), .int .u64 150] 117)).alloc (.cells #[.pointer (some ⟨3, 100, none⟩), .pointer (some ⟨w.heap.size, 0, none⟩), .int .u64 150] 117)) (by rw [World.cell?_alloc_lt _ _ ⟨w.heap.size, 0, none⟩ (by simp; omega)]; simp)
  have st := asSet t (w.heap.size + 1 + 1 + 1) l c o0 o1 _ (by rw [World.cell?_alloc_at _ _ _ _ (by simp)]; rfl) (by rw [World.cell?_alloc_at _ _ _ _ (by simp)]; rfl)
    ((hB4.cell (p := ⟨t, 0, none⟩) htl).trans t0) ((hB4.cell (p := ⟨t, 1, none⟩) htl).trans t1)
    ((hB4.frozen (p := ⟨t, 0, none⟩) htl).trans f0) ((hB4.frozen (p := ⟨t, 1, none⟩) htl).trans f1)
  go_enter Tryz.func67, Tryz.ntmps67
  go_wp2
  refine wp_loop_rounds 1 ?_
  rw [rounds_succ]
  go_wp2
  go_ret
  have k0 := (hB4.cell (p := ⟨t, 0, none⟩) htl).trans t0
  have k1 := (hB4.cell (p := ⟨t, 1, none⟩) htl).trans t1
  generalize hW4 : World.alloc (World.alloc (World.alloc (World.alloc w _) _) _) _ = W4 at hB4 k0 k1 ⊢
  refine ⟨rfl, ?_, ?_, ((hB4.mono (Nat.le_of_lt htl)).setCell (p := ⟨t, 0, none⟩) (Nat.le_refl _) _).setCell (p := ⟨t, 1, none⟩) (Nat.le_refl _) _⟩
  · rw [World.cell?_setCell_other _ _ _ _ (by simp)]
    exact World.cell?_setCell_same' _ _ _ (by rw [k0]; rfl)
  · exact World.cell?_setCell_same' _ _ _ (by rw [World.cell?_setCell_other _ _ _ _ (by simp), k1]; rfl)
end Go.Proofs.YtlafcplcjpcikaaGreatDoor.Wt

/- What callers are told. -/
namespace Go.Proofs.YtlafcplcjpcikaaGreatDoor.Wt
open Go.RowKit Go.Shelf

/-- errors.errorType's cell. -/
def ErrT (w : World) : Prop := w.cell? ⟨0, 0, none⟩ = some (.iface 142 (.agg #[.pointer (some ⟨3, 57, none⟩)]))
theorem ErrT.more {A B : World} (h : ErrT A) (k : Below A.heap.size A B) : ErrT B := (k.cell (p := ⟨0, 0, none⟩) (World.block_lt_of_cell? A _ h)).trans h
/-- A fault. -/
def flt (k : Int) (s : ByteArray) : Value := .iface 97 (.agg #[.int .i64 k, .string s])
/-- The error v: none (k = 0), or a fault of that number. -/
inductive ErrIs : Value → Int → Prop
  | ok : ErrIs .nilIface 0
  | flt (k : Int) (s : ByteArray) : ErrIs (flt k s) k
theorem as_nil_any (t : Value) (w : World) : Calls Tryz.prog 67 #[.nilIface, t] w fun e w' => e = .returned (.bool false) ∧ Below w.heap.size w w' :=
  (as_nil t w).mono fun _ _ ⟨h, hw⟩ => ⟨h, hw ▸ Below.refl _ _⟩
set_option maxHeartbeats 1000000 in
theorem told_nil (w : World) : Calls Tryz.prog 48 #[.nilIface] w (IntP 0 w) := by
  go_enter Tryz.func48, Tryz.ntmps48
  go_wp2_with (go_at_call 67; refine (as_nil_any _ _).mono ?_)
  rintro e w1 ⟨rfl, b1⟩
  go_wp2
  go_ret
  exact ⟨rfl, below_more (Below.new _ _) b1⟩
theorem new2 (w : World) (v0 v1 : Value) (t : TypeId) : (w.alloc (.cells #[v0, v1] t)).cell? ⟨w.heap.size, 0, none⟩ = some v0 ∧ (w.alloc (.cells #[v0, v1] t)).cell? ⟨w.heap.size, 1, none⟩ = some v1 ∧
    (w.alloc (.cells #[v0, v1] t)).frozen? ⟨w.heap.size, 0, none⟩ = false ∧ (w.alloc (.cells #[v0, v1] t)).frozen? ⟨w.heap.size, 1, none⟩ = false := by
  refine ⟨?_, ?_, ?_, ?_⟩
  · rw [World.cell?_alloc_at _ _ _ _ rfl]; rfl
  · rw [World.cell?_alloc_at _ _ _ _ rfl]; rfl
  · simp
  · simp
set_option maxHeartbeats 1000000 in
theorem told_flt (k : Int) (s : ByteArray) (w : World) (hg : ErrT w) : Calls Tryz.prog 48 #[.iface 97 (.agg #[.int .i64 k, .string s])] w (IntP k w) := by
  obtain ⟨n0, n1, n2, n3⟩ := new2 w (.int .i64 0) (.string { data := #[] }) 97
  have s1 := Lib.hid (hg.more (Below.new w (.cells #[.int .i64 0, .string { data := #[] }] 97)))
  go_enter Tryz.func48, Tryz.ntmps48
  go_wp2_with (go_at_call 67; refine (as_hit k s w.heap.size _ _ _ s1.out n0 n1 n2 n3).mono ?_)
  rintro e w1 ⟨rfl, c0, c1, b1⟩
  have b2 : Below w.heap.size w w1 := (Below.new w _).trans b1
  clear n0 n1 n2 n3 s1
  go_wp2
  go_ret
  exact ⟨rfl, b2⟩
theorem told_any {v : Value} {k : Int} (h : ErrIs v k) (w : World) (hg : ErrT w) : Calls Tryz.prog 48 #[v] w (IntP k w) := by
  cases h
  · exact told_nil w
  · exact told_flt _ _ w hg
end Go.Proofs.YtlafcplcjpcikaaGreatDoor.Wt

/- Parts in memory. -/
namespace Go.Proofs.YtlafcplcjpcikaaGreatDoor
open Go.RowKit Go.Proofs.Fld Go.Proofs.Rng Go.Proofs.Spc Go.Proofs.Cats Go.Proofs.Wld Go.Shelf

theorem infoP : (Tryz.prog.info? 44).map (fun i => (i.zero, i.size, i.bytes)) = some (some (.agg #[.int .i64 0, .int .u64 0, .int .i64 0, .slice none 0 0]), 4, 48) := by kernel_rfl
/-- A part, and where its objects lie. -/
structure Pv where
  a : Lab
  os : List Ov
  va : Option Addr
  vc : Nat
def pt (x : Pv) : Pt := ⟨x.a, obs x.os⟩
/-- .. as a value. -/
def pv (x : Pv) : Value := .agg #[.int .i64 x.a.l, .int .u64 x.a.c, .int .i64 x.a.i, .slice x.va x.os.length x.vc]
def pts (l : List Pv) : List Pt := l.map pt
theorem pts_length (l : List Pv) : (pts l).length = l.length := List.length_map _
theorem pts_append (l m : List Pv) : pts (l ++ m) = pts l ++ pts m := List.map_append
theorem pts_get {l : List Pv} {j : Nat} {x : Pv} (h : l[j]? = some x) : (pts l)[j]? = some (pt x) := by unfold pts; rw [List.getElem?_map, h]; rfl
theorem pts_take (l : List Pv) (k : Nat) : pts (l.take k) = (pts l).take k := List.map_take
theorem pts_mem {l : List Pv} {y : Pt} (h : y ∈ pts l) : ∃ x ∈ l, pt x = y := List.mem_map.1 h
theorem mem_pts {l : List Pv} {x : Pv} (h : x ∈ l) : pt x ∈ pts l := List.mem_map.2 ⟨x, h, rfl⟩
theorem pts_at {l : List Pv} {j : Nat} {y : Pt} (h : (pts l)[j]? = some y) : ∃ x, l[j]? = some x ∧ pt x = y := by
  unfold pts at h
  rw [List.getElem?_map] at h
  exact Option.map_eq_some_iff.1 h
/-- Its objects lie there. -/
structure Pl (W : World) (x : Pv) : Prop where
  o : Objs W x.va x.os.length x.vc x.os
  f : x.a.fits
theorem Pl.more {A B : World} {x : Pv} (h : Pl A x) (k : Below A.heap.size A B) : Pl B x := ⟨h.o.more k, h.f⟩
/-- A part's four cells, at block b from o on. -/
def PtAt (W : World) (b o : Nat) (x : Pv) : Prop :=
  W.cell? ⟨b, o, none⟩ = some (.int .i64 x.a.l) ∧ W.cell? ⟨b, o + 1, none⟩ = some (.int .u64 x.a.c) ∧ W.cell? ⟨b, o + 2, none⟩ = some (.int .i64 x.a.i) ∧ W.cell? ⟨b, o + 3, none⟩ = some (.slice x.va x.os.length x.vc)
theorem PtAt.of_block {A B : World} {b o : Nat} {x : Pv} (h : PtAt A b o x) (e : B.heap[b]? = A.heap[b]?) : PtAt B b o x :=
  ⟨(World.cell?_of_block (a := ⟨b, o, none⟩) e).trans h.1, (World.cell?_of_block (a := ⟨b, o + 1, none⟩) e).trans h.2.1, (World.cell?_of_block (a := ⟨b, o + 2, none⟩) e).trans h.2.2.1, (World.cell?_of_block (a := ⟨b, o + 3, none⟩) e).trans h.2.2.2⟩
theorem PtAt.lt {A : World} {b o : Nat} {x : Pv} (h : PtAt A b o x) : b < A.heap.size := World.block_lt_of_cell? A _ h.1
theorem PtAt.more {A B : World} {b o : Nat} {x : Pv} (h : PtAt A b o x) (k : Below A.heap.size A B) : PtAt B b o x := h.of_block (k.block _ h.lt)
theorem PtAt.var {W : World} {b : Nat} {x : Pv} (h : PtAt W b 0 x) : W.cell? ⟨b, 0, none⟩ = some (.int .i64 x.a.l) ∧ W.cell? ⟨b, 1, none⟩ = some (.int .u64 x.a.c) ∧ W.cell? ⟨b, 2, none⟩ = some (.int .i64 x.a.i) ∧ W.cell? ⟨b, 3, none⟩ = some (.slice x.va x.os.length x.vc) := h
/-- A variable that holds the part. -/
theorem PtAt.new (W : World) (x : Pv) (t : TypeId) : PtAt (W.alloc (.cells #[.int .i64 x.a.l, .int .u64 x.a.c, .int .i64 x.a.i, .slice x.va x.os.length x.vc] t)) W.heap.size 0 x := ⟨by simp, by simp, by simp, by simp⟩

/-- The slice holds the parts zs. -/
structure Parts (W : World) (ao : Option Addr) (len cap : Nat) (zs : List Pv) : Prop where
  hlen : zs.length = len
  hle : len ≤ cap
  hmax : cap ≤ maxLen
  hnone : ao = none → cap = 0
  hrows : ∀ x ∈ zs, Pl W x
  hcells : zs ≠ [] → ∃ b off, ao = some ⟨b, off, none⟩ ∧ ∀ j x, zs[j]? = some x → PtAt W b (off + j * 4) x
theorem Parts.of_block {A B : World} {ao : Option Addr} {len cap : Nat} {zs : List Pv} (h : Parts A ao len cap zs) (hr : ∀ x ∈ zs, Pl B x) (k : ∀ a, ao = some a → a.block < A.heap.size → B.heap[a.block]? = A.heap[a.block]?) : Parts B ao len cap zs :=
  ⟨h.hlen, h.hle, h.hmax, h.hnone, hr, fun hz => by
    obtain ⟨b, off, e, hc⟩ := h.hcells hz
    exact ⟨b, off, e, fun j x hj => (hc j x hj).of_block (k _ e (hc j x hj).lt)⟩⟩
theorem Parts.more {A B : World} {ao : Option Addr} {len cap : Nat} {zs : List Pv} (h : Parts A ao len cap zs) (k : Below A.heap.size A B) : Parts B ao len cap zs := h.of_block (fun x hx => (h.hrows x hx).more k) fun _ _ hb => k.block _ hb
theorem Parts.nil (W : World) : Parts W none 0 0 [] := ⟨rfl, Nat.le_refl _, Nat.zero_le _, fun _ => rfl, fun _ h => (by cases h), fun h => absurd rfl h⟩
theorem Parts.at {W : World} {ao : Option Addr} {len cap : Nat} {zs : List Pv} (h : Parts W ao len cap zs) (hp : 0 < len) : ∃ b off, ao = some ⟨b, off, none⟩ ∧ b < W.heap.size ∧ ∀ j x, zs[j]? = some x → PtAt W b (off + j * 4) x := by
  have hz : zs ≠ [] := fun e => by have := h.hlen; rw [e] at this; simp at this; omega
  obtain ⟨b, off, e, hc⟩ := h.hcells hz
  obtain ⟨x, hx⟩ : ∃ x, zs[0]? = some x := ⟨_, List.getElem?_eq_getElem (by rw [h.hlen]; exact hp)⟩
  exact ⟨b, off, e, (hc 0 x hx).lt, hc⟩
theorem Parts.apart {w W : World} {ao : Option Addr} {len cap : Nat} {zs : List Pv} (h : Parts w ao len cap zs) (k : Below w.heap.size w W) {X : Nat} (hX : w.heap.size ≤ X) : 0 < len → ∀ a, ao = some a → a.block < W.heap.size ∧ a.block ≠ X := by
  intro hp a e
  obtain ⟨b, off, e', hb, _⟩ := h.at hp
  rw [e] at e'
  obtain rfl := Option.some.inj e'
  have := k.size
  exact ⟨Nat.lt_of_lt_of_le hb this, fun q => by simp only at q; omega⟩
theorem Parts.row {W : World} {ao : Option Addr} {len cap : Nat} {zs : List Pv} (h : Parts W ao len cap zs) {k : Nat} {x : Pv} (hx : zs[k]? = some x) : Pl W x := h.hrows x (List.mem_of_getElem? hx)
theorem Parts.take {W : World} {ao : Option Addr} {len cap : Nat} {zs : List Pv} (h : Parts W ao len cap zs) (k c : Nat) (hk : k ≤ len) (hc : k ≤ c) (hcc : c ≤ cap) : Parts W ao k c (zs.take k) := by
  refine ⟨by rw [List.length_take, h.hlen]; omega, hc, Nat.le_trans hcc h.hmax, fun e => by have := h.hnone e; omega, fun x hx => h.hrows x (List.mem_of_mem_take hx), fun hz => ?_⟩
  obtain ⟨b, off, e, hcs⟩ := h.hcells (fun e => hz (by rw [e]; simp))
  refine ⟨b, off, e, fun j x hj => ?_⟩
  rw [List.getElem?_take] at hj
  split at hj
  · exact hcs j x hj
  · cases hj
/-- Parts' cells. -/
def cells4 (x : Pv) : List Value := [.int .i64 x.a.l, .int .u64 x.a.c, .int .i64 x.a.i, .slice x.va x.os.length x.vc]
def pcl : List Pv → List Value
  | [] => []
  | x :: r => cells4 x ++ pcl r
theorem pcl_append (l m : List Pv) : pcl (l ++ m) = pcl l ++ pcl m := by
  induction l with
  | nil => rfl
  | cons a r ih => simp [pcl, ih]
theorem pcl_one (x : Pv) : pcl [x] = cells4 x := by simp [pcl]
theorem pcl_length (l : List Pv) : (pcl l).length = l.length * 4 := by
  induction l with
  | nil => rfl
  | cons a r ih => simp only [pcl, cells4, List.length_append, List.length_cons, List.length_nil, ih]; omega
theorem pcl_get (l : List Pv) (j : Nat) (x : Pv) (h : l[j]? = some x) : ∀ i u, (cells4 x)[i]? = some u → (pcl l)[j * 4 + i]? = some u := by
  induction l generalizing j with
  | nil => simp at h
  | cons a r ih =>
    intro i u hu
    have hi : i < 4 := (List.getElem?_eq_some_iff.1 hu).1
    cases j with
    | zero =>
      simp at h
      subst h
      show (cells4 a ++ pcl r)[0 * 4 + i]? = _
      rw [List.getElem?_append_left (by simp [cells4]; omega)]
      simpa using hu
    | succ j =>
      have h2 := ih j (by simpa using h) i u hu
      show (cells4 a ++ pcl r)[(j + 1) * 4 + i]? = _
      rw [List.getElem?_append_right (by simp [cells4]; omega)]
      rw [← h2]
      congr 1
      simp [cells4]
      omega
theorem pcl_cells (l : List Pv) : ∀ u ∈ pcl l, u.oneCell' = true := by
  induction l with
  | nil => intro u hu; cases hu
  | cons a r ih =>
    intro u hu
    rcases List.mem_append.1 hu with h | h
    · simp [cells4] at h
      rcases h with rfl | rfl | rfl | rfl <;> rfl
    · exact ih u h
theorem pts_cells {W : World} {b off : Nat} {zs : List Pv} (h : ∀ j x, zs[j]? = some x → PtAt W b (off + j * 4) x) : ∀ j u, (pcl zs)[j]? = some u → W.cell? ((⟨b, off, none⟩ : Addr).add j) = some u := by
  induction zs generalizing off with
  | nil => intro j u hu; simp [pcl] at hu
  | cons a r ih =>
    intro j u hu
    obtain ⟨k0, k1, k2, k3⟩ := h 0 a rfl
    match j, hu with
    | 0, hu => simp [pcl, cells4] at hu; subst hu; rw [add_at]; simpa using k0
    | 1, hu => simp [pcl, cells4] at hu; subst hu; rw [add_at]; simpa using k1
    | 2, hu => simp [pcl, cells4] at hu; subst hu; rw [add_at]; simpa using k2
    | 3, hu => simp [pcl, cells4] at hu; subst hu; rw [add_at]; simpa using k3
    | j + 4, hu =>
      have hu' : (pcl r)[j]? = some u := by simpa [pcl, cells4] using hu
      have := ih (off := off + 4) (fun i x hx => by
        have := h (i + 1) x (by simpa using hx)
        rw [show off + 4 + i * 4 = off + (i + 1) * 4 by omega]
        exact this) j u hu'
      rw [add_at] at this ⊢
      rw [show off + (j + 4) = off + 4 + j by omega]
      exact this
theorem Parts.news {W : World} {ao : Option Addr} {len cap : Nat} {zs : List Pv} (h : Parts W ao len cap zs) : ∀ ad, ao = some ad → ∀ j u, (pcl zs)[j]? = some u → W.cell? (ad.add j) = some u := by
  intro ad had j u hu
  have hz : zs ≠ [] := fun h0 => by rw [h0] at hu; simp [pcl] at hu
  obtain ⟨b, off, hao, hc⟩ := h.hcells hz
  rw [had] at hao
  obtain rfl := Option.some.inj hao
  exact pts_cells hc j u hu
theorem Parts.nones {W : World} {ao : Option Addr} {len cap : Nat} {zs : List Pv} (h : Parts W ao len cap zs) : ao = none → len = 0 ∧ cap = 0 := fun e => by
  have := h.hnone e
  have := h.hle
  omega
theorem pt_new (W : World) (x : Pv) (t : TypeId) : ∀ j u, (cells4 x)[j]? = some u → (W.alloc (.cells #[.int .i64 x.a.l, .int .u64 x.a.c, .int .i64 x.a.i, .slice x.va x.os.length x.vc] t)).cell? ((⟨W.heap.size, 0, none⟩ : Addr).add j) = some u := by
  intro j u hu
  rw [add_at, World.cell?_alloc_at _ _ _ _ rfl]
  simpa [cells4] using hu

/-- The slice v has the parts l, in a row of its own from n0 on, or is nil. -/
def OwnP (n0 : Nat) (W : World) (v : Value) (l : List Pv) : Prop := W.ownsRow n0 44 4 v l.length (pcl l)
theorem OwnP.slice {n0 : Nat} {W : World} {v : Value} {l : List Pv} (h : OwnP n0 W v l) : ∃ a c, v = .slice a l.length c := by
  rcases h.2 with ⟨rfl, h0⟩ | ⟨g, cap, cur, rfl, _⟩
  · exact ⟨none, 0, by rw [h0]⟩
  · exact ⟨_, cap, rfl⟩
theorem OwnP.nil (n0 : Nat) (W : World) : OwnP n0 W (.slice none 0 0) [] := World.ownsRow_nil _ _ _ _
theorem OwnP.more {n0 : Nat} {A B : World} {v : Value} {l : List Pv} (h : OwnP n0 A v l) (k : Below A.heap.size A B) : OwnP n0 B v l := by
  refine ⟨h.1, ?_⟩
  rcases h.2 with ⟨e, h0⟩ | ⟨g, cap, cur, e, hb, hg, rest⟩
  · exact .inl ⟨e, h0⟩
  · exact .inr ⟨g, cap, cur, e, hb, (k.block g (Array.getElem?_eq_some_iff.1 hg).1).trans hg, rest⟩
theorem OwnP.parts {n0 : Nat} {W : World} {a : Option Addr} {len c : Nat} {l : List Pv} (h : OwnP n0 W (.slice a len c) l) (hl : l.length = len) (hf : ∀ x ∈ l, Pl W x) : Parts W a len c l := by
  have h' : W.ownsRow n0 44 4 (.slice a len c) l.length (pcl l) := h
  rcases h.2 with ⟨e, h0⟩ | ⟨g, cap, cur, e, hb, hg, hn, hm, _⟩
  · injection e with e1 e2 e3
    subst e1 e2 e3
    obtain rfl := List.eq_nil_of_length_eq_zero h0
    exact Parts.nil W
  · injection e with e1 e2 e3
    subst e1 e2 e3
    refine ⟨hl, by omega, hm, (fun h => by cases h), hf, fun _ => ⟨g, 0, rfl, fun j x hj => ?_⟩⟩
    have k := pcl_get l j x hj
    have hjl := (List.getElem?_eq_some_iff.1 hj).1
    rw [Nat.zero_add]
    exact ⟨(World.ownsRow.cellAt h' (j * 4) (by omega)).trans (k 0 _ rfl), (World.ownsRow.cellAt h' _ (by omega)).trans (k 1 _ rfl), (World.ownsRow.cellAt h' _ (by omega)).trans (k 2 _ rfl), (World.ownsRow.cellAt h' _ (by omega)).trans (k 3 _ rfl)⟩

end Go.Proofs.YtlafcplcjpcikaaGreatDoor

/- Slices of parts, of few parts. -/
namespace Go.Proofs.Wld
open Go.Proofs.Cats Go.Proofs.Rng Go.Proofs.Spc
/-- The same, part by part. -/
def samePt (x y : Pt) : Bool := x.a.same y.a && sameL x.l y.l
def sameW : List Pt → List Pt → Bool
  | [], [] => true
  | x :: r, y :: s => samePt x y && sameW r s
  | _, _ => false
theorem samePt_iff {x y : Pt} : samePt x y = true ↔ x = y := by
  unfold samePt
  rw [Bool.and_eq_true, Lab.same_iff, sameL_iff]
  exact ⟨fun h => Pt.ext h.1 h.2, fun h => by subst h; exact ⟨rfl, rfl⟩⟩
theorem sameW_iff {l m : List Pt} : sameW l m = true ↔ l = m := by
  induction l generalizing m with
  | nil => cases m <;> simp [sameW]
  | cons x r ih =>
    cases m with
    | nil => simp [sameW]
    | cons y s => simp only [sameW, Bool.and_eq_true, samePt_iff, ih, List.cons.injEq]
theorem sameW_len {l m : List Pt} (h : l.length ≠ m.length) : sameW l m = false := by
  cases e : sameW l m
  · rfl
  · exact absurd (congrArg List.length (sameW_iff.1 e)) h
theorem sameW_at {l m : List Pt} {k : Nat} {x y : Pt} (hx : l[k]? = some x) (hy : m[k]? = some y) (h : samePt x y = false) : sameW l m = false := by
  cases e : sameW l m
  · rfl
  · rw [sameW_iff.1 e, hy] at hx
    rw [samePt_iff.2 (Option.some.inj hx).symm] at h
    cases h
theorem sameW_all {l m : List Pt} (hl : l.length = m.length) (h : ∀ (j : Nat) (x y : Pt), l[j]? = some x → m[j]? = some y → samePt x y = true) : sameW l m = true := by
  refine sameW_iff.2 (List.ext_getElem? fun j => ?_)
  by_cases hj : j < l.length
  · have e1 : l[j]? = some l[j] := List.getElem?_eq_getElem hj
    have e2 : m[j]? = some (m[j]'(by omega)) := List.getElem?_eq_getElem (by omega)
    rw [e1, e2, samePt_iff.1 (h j _ _ e1 e2)]
  · rw [List.getElem?_eq_none (by omega), List.getElem?_eq_none (by omega)]
theorem sameW_self (l : List Pt) : sameW l l = true := sameW_iff.2 rfl
end Go.Proofs.Wld
namespace Go.Proofs.YtlafcplcjpcikaaGreatDoor
open Go.RowKit Go.Proofs.Fld Go.Proofs.Rng Go.Proofs.Spc Go.Proofs.Cats Go.Proofs.Wld Go.Shelf Go.Sort

/-- Few parts, each of few objects. -/
structure SmallW (l : List Pt) : Prop where
  n : l.length ≤ 10
  b : ∀ x ∈ l, Small x.l
/-- A slice of parts. -/
structure SP (W : World) (va : Option Addr) (k vc : Nat) (vs : List Pv) (l : List Pt) : Prop where
  e : pts vs = l
  o : Parts W va k vc vs
  s : SmallW l
theorem SP.more {A B : World} {va : Option Addr} {k vc : Nat} {vs : List Pv} {l : List Pt} (h : SP A va k vc vs l) (hb : Below A.heap.size A B) : SP B va k vc vs l := ⟨h.e, h.o.more hb, h.s⟩
theorem SP.len {W : World} {va : Option Addr} {k vc : Nat} {vs : List Pv} {l : List Pt} (h : SP W va k vc vs l) : l.length = k := by rw [← h.e, pts_length, h.o.hlen]
theorem SP.le {W : World} {va : Option Addr} {k vc : Nat} {vs : List Pv} {l : List Pt} (h : SP W va k vc vs l) : k ≤ 10 := by rw [← h.len]; exact h.s.n
theorem SP.nil (W : World) : SP W none 0 0 [] [] := ⟨rfl, ⟨rfl, Nat.le_refl _, Nat.zero_le _, fun _ => rfl, fun _ h => (by cases h), fun h => absurd rfl h⟩, ⟨by simp, fun x h => by cases h⟩⟩
/-- The cells of a part of the slice. -/
theorem SP.cell {W : World} {va : Option Addr} {k vc : Nat} {vs : List Pv} {l : List Pt} (h : SP W va k vc vs l) {i : Nat} {y : Pt} (hy : l[i]? = some y) : ∃ b off x, va = some ⟨b, off, none⟩ ∧ pt x = y ∧ Pl W x ∧ PtAt W b (off + i * 4) x ∧ SO W x.va x.os.length x.vc x.os y.l := by
  rw [← h.e] at hy
  obtain ⟨x, hx, hxo⟩ := pts_at hy
  have hlt : i < vs.length := (List.getElem?_eq_some_iff.1 hx).1
  obtain ⟨b, off, e, _, hc⟩ := h.o.at (by have := h.o.hlen; omega)
  have hp := h.o.row hx
  have hs := h.s.b (pt x) (h.e ▸ mem_pts (List.mem_of_getElem? hx))
  exact ⟨b, off, x, e, hxo, hp, hc i x hx, hxo ▸ ⟨rfl, hp.o, hs⟩⟩
/-- Parts, and a number; parts. -/
def ResW (c : Int) (l : List Pt) (kr : Nat) (w : World) (e : Ending) (w' : World) : Prop := ∃ vs va vc, e = .returned (.tuple #[.slice va kr vc, .int .i64 c]) ∧ SP w' va kr vc vs l ∧ Below w.heap.size w w'
def SeqW (l : List Pt) (kr : Nat) (w : World) (e : Ending) (w' : World) : Prop := ∃ vs va vc, e = .returned (.slice va kr vc) ∧ SP w' va kr vc vs l ∧ Below w.heap.size w w'
end Go.Proofs.YtlafcplcjpcikaaGreatDoor

/- Few: the first parts, cut. -/
namespace Go.Proofs.Wld
open Go.Proofs.Cats Go.Proofs.Rng Go.Proofs.Spc
def fewP (x : Pt) : Pt := ⟨x.a, fewL x.l⟩
def fewT (l : List Pt) (k : Nat) : List Pt := (l.take k).map fewP
def fewW (l : List Pt) : List Pt := fewT l 8
theorem fewT_next {l : List Pt} {k : Nat} {x : Pt} (h : l[k]? = some x) : fewT l (k + 1) = fewT l k ++ [fewP x] := by
  unfold fewT
  rw [List.take_add_one, h, List.map_append]
  rfl
theorem fewW_length (l : List Pt) : (fewW l).length ≤ 8 := by
  unfold fewW fewT
  rw [List.length_map, List.length_take]
  omega
end Go.Proofs.Wld
namespace Go.Proofs.YtlafcplcjpcikaaGreatDoor
open Go.RowKit Go.Proofs.Fld Go.Proofs.Rng Go.Proofs.Spc Go.Proofs.Cats Go.Proofs.Wld Go.Shelf Go.Sort

theorem small_fewW (l : List Pt) : SmallW (fewW l) := ⟨Nat.le_trans (fewW_length l) (by omega), fun x hx => by
  unfold fewW fewT at hx
  obtain ⟨y, _, rfl⟩ := List.mem_map.1 hx
  exact small_few _⟩
theorem Objs.kept2 {A B : World} {ao : Option Addr} {len cap : Nat} {zs : List Ov} (h : Objs A ao len cap zs) (k1 : ∀ a, ao = some a → zs ≠ [] → a.block < A.heap.size → B.heap[a.block]? = A.heap[a.block]?) (k2 : ∀ x ∈ zs, ∀ a, x.a = some a → x.o.l ≠ [] → a.block < A.heap.size → B.heap[a.block]? = A.heap[a.block]?) : Objs B ao len cap zs :=
  ⟨h.hlen, h.hle, h.hmax, h.hnone, fun x hx => (h.hrows x hx).keep (k2 x hx), fun hz => by
    obtain ⟨b, off, e, hc⟩ := h.hcells hz
    exact ⟨b, off, e, fun j x hj => (hc j x hj).of_block (k1 _ e hz (hc j x hj).lt)⟩⟩
/-- No block of x is the slice's own. -/
def offP (x : Pv) (v : Value) : Prop := (∀ a, x.va = some a → x.os ≠ [] → ∀ g, v.ownBlock = some g → a.block ≠ g) ∧ ∀ z ∈ x.os, offB z v
/-- All blocks of x lie from n0 on. -/
def newP (n0 : Nat) (x : Pv) : Prop := (∀ a, x.va = some a → x.os ≠ [] → n0 ≤ a.block) ∧ ∀ z ∈ x.os, newB n0 z
theorem newP.mono {n0 n1 : Nat} {x : Pv} (h : newP n0 x) (hn : n1 ≤ n0) : newP n1 x := ⟨fun a e hz => Nat.le_trans hn (h.1 a e hz), fun z hz a e hl => Nat.le_trans hn (h.2 z hz a e hl)⟩
theorem newP.off {n0 : Nat} {x : Pv} {v : Value} (h : newP n0 x) (hv : ∀ g, v.ownBlock = some g → g < n0) : offP x v :=
  ⟨fun a e hz g hg => by have := h.1 a e hz; have := hv g hg; omega, fun z hz a e hl g hg => by have := h.2 z hz a e hl; have := hv g hg; omega⟩
theorem newP_of {n0 : Nat} {W : World} {a : Lab} {os : List Ov} {va : Option Addr} {vc : Nat} (h : OwnO n0 W (.slice va os.length vc) os) (h2 : ∀ z ∈ os, newB n0 z) : newP n0 ⟨a, os, va, vc⟩ := by
  refine ⟨fun ad e hz => ?_, h2⟩
  rcases h.2 with ⟨_, h0⟩ | ⟨g, cap, cur, e2, hb, _⟩
  · exact absurd (List.eq_nil_of_length_eq_zero h0) hz
  · injection e2 with e3
    rw [show va = some ad from e] at e3
    obtain rfl := Option.some.inj e3
    exact hb
theorem Pl.lt {W : World} {x : Pv} (h : Pl W x) : ∀ a, x.va = some a → x.os ≠ [] → a.block < W.heap.size := by
  intro a e hz
  obtain ⟨b, off, e', hc⟩ := h.o.hcells hz
  rw [e] at e'
  obtain rfl := Option.some.inj e'
  obtain ⟨y, hy⟩ : ∃ y, x.os[0]? = some y := ⟨_, List.getElem?_eq_getElem (List.length_pos_iff.2 hz)⟩
  exact (hc 0 y hy).lt
/-- Parts, grown by appends: a row of the call's own. -/
structure OutP (n0 : Nat) (w0 : World) (v : Value) (k : Nat) (vs : List Pv) (w : World) : Prop where
  row : w.ownsRow n0 44 4 v k (pcl vs)
  len : vs.length = k
  below : Below n0 w0 w
  le : n0 ≤ w0.heap.size
  rows : ∀ x ∈ vs, Pl w x ∧ offP x v ∧ newP n0 x
theorem OutP.nil (w : World) : OutP w.heap.size w (.slice none 0 0) 0 [] w := ⟨World.ownsRow_nil _ _ _ _, rfl, Below.refl _ _, Nat.le_refl _, fun x h => by cases h⟩
theorem OutP.size {n0 : Nat} {w0 w : World} {v : Value} {k : Nat} {vs : List Pv} (h : OutP n0 w0 v k vs w) : n0 ≤ w.heap.size := Nat.le_trans h.le h.below.size
theorem OutP.own {n0 : Nat} {w0 w : World} {v : Value} {k : Nat} {vs : List Pv} (h : OutP n0 w0 v k vs w) : OwnP n0 w v vs := by unfold OwnP; rw [h.len]; exact h.row
theorem OutP.more {n0 : Nat} {w0 w w' : World} {v : Value} {k : Nat} {vs : List Pv} (h : OutP n0 w0 v k vs w) (hb : Below w.heap.size w w') : OutP n0 w0 v k vs w' := by
  have hr := h.own.more hb
  unfold OwnP at hr
  rw [h.len] at hr
  exact ⟨hr, h.len, h.below.trans (hb.mono h.size), h.le, fun x hx => ⟨(h.rows x hx).1.more hb, (h.rows x hx).2⟩⟩
theorem OutP.snoc {n0 : Nat} {w0 w w' : World} {v : Value} {k H : Nat} {vs : List Pv} {x : Pv} {g cap : Nat} (h : OutP n0 w0 v k vs w) (hx : Pl w x) (ho : offP x v) (hn : newP n0 x) (hH : w.heap.size = H)
    (hown : w'.ownsRow n0 44 4 (.slice (some ⟨g, 0, none⟩) (k + 1) cap) (k + 1) (pcl vs ++ cells4 x)) (hg : w.grownBy w' v.ownBlock) (hat : v.ownBlock = some g ∨ g = H) : OutP n0 w0 (.slice (some ⟨g, 0, none⟩) (k + 1) cap) (k + 1) (vs ++ [x]) w' := by
  refine ⟨by rw [pcl_append, pcl_one]; exact hown, by rw [List.length_append, h.len]; rfl, h.below.grown hg h.size (fun k e => (World.ownsRow.lt h.row k e).1), h.le, ?_⟩
  have hob : (Value.slice (some ⟨g, 0, none⟩) (k + 1) cap).ownBlock = some g := rfl
  have key : ∀ y, Pl w y → offP y v → newP n0 y → Pl w' y ∧ offP y (.slice (some ⟨g, 0, none⟩) (k + 1) cap) ∧ newP n0 y := by
    intro y hy hoy hny
    refine ⟨⟨hy.o.kept2 (fun a ea hz hlt => hg.block a.block hlt (fun e => hoy.1 a ea hz a.block e.symm rfl)) (fun z hz a ea hl hlt => hg.block a.block hlt (fun e => hoy.2 z hz a ea hl a.block e.symm rfl)), hy.f⟩, ⟨fun a ea hz g' hg' => ?_, fun z hz a ea hl g' hg' => ?_⟩, hny⟩
    · rw [hob] at hg'
      obtain rfl := Option.some.inj hg'
      rcases hat with q | q
      · exact hoy.1 a ea hz _ q
      · have := hy.lt a ea hz; omega
    · rw [hob] at hg'
      obtain rfl := Option.some.inj hg'
      rcases hat with q | q
      · exact hoy.2 z hz a ea hl _ q
      · have := (hy.o.hrows z hz).lt a ea hl; omega
  intro y hy
  rcases List.mem_append.1 hy with hy | hy
  · exact key y (h.rows y hy).1 (h.rows y hy).2.1 (h.rows y hy).2.2
  · obtain rfl : y = x := by simpa using hy
    exact key y hx ho hn
theorem OutP.parts {n0 : Nat} {w0 w : World} {va : Option Addr} {k vc : Nat} {vs : List Pv} (h : OutP n0 w0 (.slice va k vc) k vs w) : Parts w va k vc vs := h.own.parts h.len (fun x hx => (h.rows x hx).1)

/-- Parts are told, all of it new. -/
def SeqN (l : List Pt) (k : Nat) (w : World) (e : Ending) (w' : World) : Prop :=
  ∃ vs va vc, e = .returned (.slice va k vc) ∧ SP w' va k vc vs l ∧ OutP w.heap.size w (.slice va k vc) k vs w'
set_option maxRecDepth 100000 in
set_option maxHeartbeats 4000000 in
theorem FewW_g {ao : Option Addr} {len cap k0 : Nat} {zs : List Pv} {l' : List Pt} (hl' : fewW (pts zs) = l') (hk0 : l'.length = k0) {w : World} (hL : Parts w ao len cap zs) :
    Calls Tryz.prog 11 #[.slice ao len cap] w (SeqN l' k0 w) := by
  obtain ⟨i0, hi, hz0, hz1, hz2⟩ := info_parts infoP
  have hll := hL.hlen
  have hcm : cap ≤ 9223372036854775807 := by have := hL.hmax; unfold maxLen at this; exact this
  have hlc := hL.hle
  have HL := Lib.hid (And.intro hL (And.intro hl' hk0))
  clear hL hl' hk0
  go_enter Tryz.func11, Tryz.ntmps11
  go_wp2
  go_loopw [3, 4] (fun o v wr => ∃ (k : Nat) (va : Option Addr) (vc : Nat) (vs : List Pv), k ≤ len ∧ k ≤ 8 ∧ o = .slice va k vc ∧ v = .int .i64 k ∧ Hid (OutP w.heap.size w (.slice va k vc) k vs wr) ∧ Hid (pts vs = fewT (pts zs) k)) (fun _ v _ => 8 - (intOf v).toNat)
  case atStart => exact ⟨0, none, 0, [], Nat.zero_le _, Nat.zero_le _, rfl, rfl, OutP.nil w, rfl⟩
  case round =>
    obtain ⟨k, va, vc, vs, hk, hk8, rfl, rfl, HO, HQ⟩ := hrel
    by_cases hlt : k < len
    · by_cases hlt2 : k < 8
      · obtain ⟨x, hx⟩ : ∃ x, zs[k]? = some x := ⟨_, List.getElem?_eq_getElem (by rw [hll]; exact hlt)⟩
        obtain ⟨b, off, rfl, hb, hcs⟩ := HL.out.1.at (by omega)
        obtain ⟨q0, q1, q2, q3⟩ := (hcs k x hx).of_block (HO.out.below.block b hb)
        have hd1 : decide ((k : Int) < (len : Int)) = true := decide_eq_true (by omega)
        have hd2 : decide ((k : Int) < 8) = true := decide_eq_true (by omega)
        have hPl := (HL.out.1.row hx).more (HO.out.below.mono HO.out.le)
        obtain ⟨y, hy⟩ : ∃ y, fewL (obs x.os) = y := ⟨_, rfl⟩
        obtain ⟨kk, hkk⟩ : ∃ kk, y.length = kk := ⟨_, rfl⟩
        have HQ2 := Lib.hid (show fewT (pts zs) (k + 1) = fewT (pts zs) k ++ [⟨x.a, y⟩] by rw [fewT_next (pts_get hx)]; unfold fewP; rw [← hy]; rfl)
        have HC := Lib.hid (fun W (hb : Below wr.heap.size wr W) => FewO_g hy hkk (w := W) (hPl.o.more hb))
        have HF := Lib.hid hPl.f
        have HK := Lib.hid hkk
        have HR := Lib.hid (show ∀ g, (Value.slice va k vc).ownBlock = some g → w.heap.size ≤ g ∧ g < wr.heap.size from fun g e => World.ownsRow.lt HO.out.row g e)
        have HBB := Lib.hid hb
        have hD : Below wr.heap.size wr wr.drew := (Below.refl _ _).drew
        have HB := Lib.hid hD
        have d0 := cell_later hD q0
        have d1 := cell_later hD q1
        have d2 := cell_later hD q2
        have d3 := cell_later hD q3
        clear hPl hy hkk hx hcs hD q0 q1 q2 q3 hb
        go_wp2
        go_region_held3 (fun w' => w'.cell? ⟨b, off + k * 4, none⟩ = some (.int .i64 x.a.l) ∧ w'.cell? ⟨b, off + k * 4 + 1, none⟩ = some (.int .u64 x.a.c) ∧ w'.cell? ⟨b, off + k * 4 + 2, none⟩ = some (.int .i64 x.a.i) ∧ w'.cell? ⟨b, off + k * 4 + 3, none⟩ = some (.slice x.va x.os.length x.vc))
          (first | (with_reducible exact ⟨d0, d1, d2, d3⟩) | (with_reducible exact ⟨e0, e1, e2, e3⟩) | (with_reducible exact ⟨f0, f1, f2, f3⟩) | (with_reducible exact ⟨g0, g1, g2, g3⟩))
          (first
            | (go_at_call 23; ((with_reducible refine (HC.out _ HB.out).mono ?_); rintro e w3 ⟨os, va4, vc4, rfl, hos, hOb, hOw, hnew, hb3⟩; have e0 := cell_later hb3 d0; have e1 := cell_later hb3 d1; have e2 := cell_later hb3 d2; have e3 := cell_later hb3 d3; have hN3 := Below.new w3 (.cells #[.int .i64 x.a.l, .int .u64 x.a.c, .int .i64 x.a.i, .slice va4 kk vc4] 44); have f0 := cell_later hN3 e0; have f1 := cell_later hN3 e1; have f2 := cell_later hN3 e2; have f3 := cell_later hN3 e3; have hO3 := HO.out.more ((HB.out.trans (hb3.mono HB.out.size)).trans (hN3.mono (Nat.le_trans HB.out.size hb3.size))); have hlo : os.length = kk := hOb.hlen))
            | (refine step_append_lies _ rfl _ _ 22 rfl w.heap.size 44 i0 (.agg #[.int .i64 0, .int .u64 0, .int .i64 0, .slice none 0 0]) 4 48 Tryz.underlying22 hi hz0 hz1 hz2 rfl (by decide) (.slice va k vc) k (pcl vs) (by simp [Act.eval]) hO3.row ⟨w3.heap.size, 0, none⟩ 1 1 [.int .i64 x.a.l, .int .u64 x.a.c, .int .i64 x.a.i, .slice va4 kk vc4] (by simp [Act.eval]) rfl (by intro j u hu; rw [add_at, World.cell?_alloc_at _ _ _ _ rfl]; simpa using hu) (by simp [Value.oneCell']) (by decide) (by unfold maxLen; omega) (by omega) hO3.size (w3.heap.size + 1) (by simp) ?_; intro g cap6 w6 hown hgrow hat hlt6; have hlt3 := World.block_lt_of_cell? _ _ f0; have hne3 : some b ≠ (Value.slice va k vc).ownBlock := (fun e => absurd (HR.out b e.symm).1 (Nat.not_le.2 HBB.out)); have g0 := (World.cell?_of_block (a := ⟨b, off + k * 4, none⟩) (hgrow.block b hlt3 hne3)).trans f0; have g1 := (World.cell?_of_block (a := ⟨b, off + k * 4 + 1, none⟩) (hgrow.block b hlt3 hne3)).trans f1; have g2 := (World.cell?_of_block (a := ⟨b, off + k * 4 + 2, none⟩) (hgrow.block b hlt3 hne3)).trans f2; have g3 := (World.cell?_of_block (a := ⟨b, off + k * 4 + 3, none⟩) (hgrow.block b hlt3 hne3)).trans f3))
        all_goals
          have HG := Lib.hid (show OutP w.heap.size w (.slice (some ⟨g, 0, none⟩) (k + 1) cap6) (k + 1) (vs ++ [(⟨x.a, os, va4, vc4⟩ : Pv)]) w6 by
            subst hlo
            have hnp : newP wr.heap.size (⟨x.a, os, va4, vc4⟩ : Pv) := (newP_of hOw hnew).mono HB.out.size
            exact hO3.snoc (x := (⟨x.a, os, va4, vc4⟩ : Pv)) ⟨hOb.more hN3, HF.out⟩ (hnp.off (fun g hg => (HR.out g hg).2)) (hnp.mono HO.out.size) (by simp) hown hgrow hat)
          have HOS := Lib.hid hos
          clear hos hOb hOw hnew hb3 hN3 hO3 hown hgrow hat hlt3 hne3 hlo
          go_wp2
          go_roundw
          case rel => exact ⟨k + 1, some ⟨g, 0, none⟩, cap6, vs ++ [(⟨x.a, os, va4, vc4⟩ : Pv)], by omega, by omega, rfl, by simp, HG.out, by rw [pts_append, HQ.out, HQ2.out, ← HOS.out]; rfl⟩
          case measure => simp [intOf]; omega
      · obtain rfl : k = 8 := by omega
        have hd1 : decide (((8 : Nat) : Int) < (len : Int)) = true := decide_eq_true (by omega)
        have hq : pts vs = l' := HQ.out.trans HL.out.2.1
        obtain rfl : 8 = k0 := by rw [← HL.out.2.2, ← hq, pts_length, HO.out.len]
        have HF := Lib.hid (SP.mk hq HO.out.parts (by rw [← HL.out.2.1]; exact small_fewW _))
        clear hq
        go_wp2
        go_ret
        exact ⟨vs, va, vc, rfl, HF.out, HO.out⟩
    · obtain rfl : k = len := by omega
      have hd1 : decide ((k : Int) < (k : Int)) = false := decide_eq_false (by omega)
      have hq : pts vs = l' := by rw [HQ.out, ← HL.out.2.1]; unfold fewW fewT; rw [List.take_of_length_le (by rw [pts_length]; omega), List.take_of_length_le (by rw [pts_length]; omega)]
      have hkk : k = k0 := by rw [← HL.out.2.2, ← hq, pts_length, HO.out.len]
      have HF := Lib.hid (And.intro (SP.mk hq HO.out.parts (by rw [← HL.out.2.1]; exact small_fewW _)) hkk)
      clear hq hkk
      go_wp2
      go_ret
      obtain rfl := HF.out.2
      exact ⟨vs, va, vc, rfl, HF.out.1, HO.out⟩

end Go.Proofs.YtlafcplcjpcikaaGreatDoor

/- Spoil: what is written over are texts, by texts. -/
namespace Go.Proofs.YtlafcplcjpcikaaGreatDoor
open Go.RowKit Go.Proofs.Fld Go.Proofs.Rng Go.Proofs.Spc Go.Proofs.Cats Go.Proofs.Wld Go.Shelf Go.Sort

/-- Texts are overwritten by texts; all else stays. -/
structure Soft (A B : World) : Prop where
  s : ∀ (b o : Nat) (t : ByteArray), A.cell? ⟨b, o, none⟩ = some (.string t) → ∃ u : ByteArray, B.cell? ⟨b, o, none⟩ = some (.string u)
  v : ∀ (b o : Nat) (x : Value), A.cell? ⟨b, o, none⟩ = some x → (∀ t, x ≠ .string t) → B.cell? ⟨b, o, none⟩ = some x
  f : ∀ b o : Nat, A.frozen? ⟨b, o, none⟩ = false → B.frozen? ⟨b, o, none⟩ = false
theorem Soft.refl (A : World) : Soft A A := ⟨fun _ _ t h => ⟨t, h⟩, fun _ _ _ h _ => h, fun _ _ h => h⟩
theorem Soft.trans {A B C : World} (h : Soft A B) (k : Soft B C) : Soft A C := ⟨fun b o t q => by
  obtain ⟨u, hu⟩ := h.s b o t q
  exact k.s b o u hu, fun b o x q hx => k.v b o x (h.v b o x q hx) hx, fun b o q => k.f b o (h.f b o q)⟩
theorem Soft.set {A B : World} (h : Soft A B) {g i : Nat} {t : ByteArray} (hc : B.cell? ⟨g, i, none⟩ = some (.string t)) (u : ByteArray) : Soft A (B.setCell ⟨g, i, none⟩ (.string u)) := by
  refine ⟨fun b o y q => ?_, fun b o x q hx => ?_, fun b o q => setF (h.f b o q)⟩
  · obtain ⟨z, hz⟩ := h.s b o y q
    by_cases e : (⟨g, i, none⟩ : Addr) = ⟨b, o, none⟩
    · rw [← e] at hz ⊢
      exact ⟨u, setS _ hz⟩
    · exact ⟨z, setO hz e⟩
  · have hz := h.v b o x q hx
    refine setO hz fun e => ?_
    rw [← e, hc] at hz
    exact hx t (Option.some.inj hz).symm
theorem ne_sl {a : Option Addr} {n c : Nat} : ∀ t, (Value.slice a n c) ≠ .string t := fun _ e => by cases e
/-- An object's items may be written over. -/
def softB (n0 : Nat) (W : World) (z : Ov) : Prop := ∀ a, z.a = some a → z.o.l ≠ [] → n0 ≤ a.block ∧ ∀ i, W.frozen? ⟨a.block, i, none⟩ = false
/-- .. a list's objects. -/
def softO (n0 : Nat) (W : World) (va : Option Addr) (os : List Ov) : Prop := (∀ a, va = some a → os ≠ [] → n0 ≤ a.block ∧ ∀ i, W.frozen? ⟨a.block, i, none⟩ = false) ∧ ∀ z ∈ os, softB n0 W z
def softP (n0 : Nat) (W : World) (x : Pv) : Prop := softO n0 W x.va x.os
theorem softB.mono {n0 n1 : Nat} {W : World} {z : Ov} (h : softB n0 W z) (hn : n1 ≤ n0) : softB n1 W z := fun a e hz => ⟨Nat.le_trans hn (h a e hz).1, (h a e hz).2⟩
theorem softO.mono {n0 n1 : Nat} {W : World} {va : Option Addr} {os : List Ov} (h : softO n0 W va os) (hn : n1 ≤ n0) : softO n1 W va os := ⟨fun a e hz => ⟨Nat.le_trans hn (h.1 a e hz).1, (h.1 a e hz).2⟩, fun z hz => (h.2 z hz).mono hn⟩
theorem softB_of {n0 : Nat} {W : World} {z : Ov} (h : OwnT n0 W (.slice z.a z.o.l.length z.c) z.o.l) : softB n0 W z := by
  intro ad e hz
  rcases h.2 with ⟨_, h0⟩ | ⟨g, cap, cur, e2, hb, _⟩
  · exact absurd (List.eq_nil_of_length_eq_zero h0) hz
  · have e3 := e2
    injection e3 with e3
    rw [e] at e3
    obtain rfl := Option.some.inj e3
    rw [e] at h
    exact ⟨hb, fun i => World.ownsRow.frozenAt h i⟩
theorem softO_of {n0 : Nat} {W : World} {va : Option Addr} {vc : Nat} {os : List Ov} (h : OwnO n0 W (.slice va os.length vc) os) (hs : ∀ z ∈ os, softB n0 W z) : softO n0 W va os := by
  refine ⟨fun ad e hz => ?_, hs⟩
  rcases h.2 with ⟨_, h0⟩ | ⟨g, cap, cur, e2, hb, _⟩
  · exact absurd (List.eq_nil_of_length_eq_zero h0) hz
  · have e3 := e2
    injection e3 with e3
    rw [e] at e3
    obtain rfl := Option.some.inj e3
    subst e
    exact ⟨hb, fun i => World.ownsRow.frozenAt h i⟩
theorem softB.more {n0 : Nat} {A B : World} {z : Ov} (h : softB n0 A z) (hz : Lv A z) (k : Below A.heap.size A B) : softB n0 B z := fun a e hl => ⟨(h a e hl).1, fun i => (World.frozen?_of_block (w := A) (a := ⟨a.block, i, none⟩) (k.block _ (hz.lt a e hl))).trans ((h a e hl).2 i)⟩
theorem softO.more {n0 : Nat} {A B : World} {va : Option Addr} {len vc : Nat} {os : List Ov} (h : softO n0 A va os) (ho : Objs A va len vc os) (k : Below A.heap.size A B) : softO n0 B va os := by
  refine ⟨fun a e hz => ⟨(h.1 a e hz).1, fun i => ?_⟩, fun z hz => (h.2 z hz).more (ho.hrows z hz) k⟩
  obtain ⟨b, off, e', hb, _⟩ := ho.at (by rw [← ho.hlen]; exact List.length_pos_iff.2 hz)
  rw [e] at e'
  obtain rfl := Option.some.inj e'
  exact (World.frozen?_of_block (w := A) (k.block _ hb)).trans ((h.1 _ e hz).2 i)
theorem softP.more {n0 : Nat} {A B : World} {x : Pv} (h : softP n0 A x) (hx : Pl A x) (k : Below A.heap.size A B) : softP n0 B x := softO.more h hx.o k

set_option maxRecDepth 100000 in
set_option maxHeartbeats 4000000 in
theorem Spoil_p {n0 : Nat} {ao : Option Addr} {len cap : Nat} {zs : List Pv} {w0 w : World} (hL : Parts w0 ao len cap zs) (hs : ∀ x ∈ zs, softP n0 w0 x) (hS : Soft w0 w) :
    Calls Tryz.prog 28 #[.slice ao len cap] w (fun e w' => e = .returned (.tuple #[]) ∧ Soft w0 w' ∧ Below n0 w w') := by
  have hll := hL.hlen
  have hcm : cap ≤ 9223372036854775807 := by have := hL.hmax; unfold maxLen at this; exact this
  have hlc := hL.hle
  have HL := Lib.hid (And.intro hL hs)
  have HS0 := Lib.hid hS
  clear hL hs hS
  go_enter Tryz.func28, Tryz.ntmps28
  go_wp2
  go_loopw [2] (fun v wr => ∃ k : Nat, k ≤ len ∧ v = .int .i64 k ∧ Hid (Soft w0 wr) ∧ Hid (Below n0 w wr)) (fun v _ => len - (intOf v).toNat)
  case atStart => exact ⟨0, Nat.zero_le _, rfl, HS0.out, Below.refl _ _⟩
  case round =>
    obtain ⟨k, hk, rfl, HS, HB⟩ := hrel
    by_cases hlt : k < len
    · obtain ⟨x, hx⟩ : ∃ x, zs[k]? = some x := ⟨_, List.getElem?_eq_getElem (by rw [hll]; exact hlt)⟩
      obtain ⟨b, off, rfl, hb, hcs⟩ := HL.out.1.at (by omega)
      have HQ := Lib.hid (hcs k x hx).2.2.2
      have HP := Lib.hid (And.intro (HL.out.1.row hx) (HL.out.2 x (List.mem_of_getElem? hx)))
      have hlo := HP.out.1.o.hle
      have hlm : x.vc ≤ 9223372036854775807 := by have := HP.out.1.o.hmax; unfold maxLen at this; exact this
      have hd1 : decide ((k : Int) < (len : Int)) = true := decide_eq_true (by omega)
      clear hx hcs hb
      go_wp2
      go_loopw [3] (fun v wi => ∃ j : Nat, j ≤ x.os.length ∧ v = .int .i64 j ∧ Hid (Soft w0 wi) ∧ Hid (Below n0 w wi)) (fun v _ => x.os.length - (intOf v).toNat)
      case atStart => exact ⟨0, Nat.zero_le _, rfl, HS.out, HB.out⟩
      case round =>
        clear HS HB
        obtain ⟨j, hj, rfl, HS, HB⟩ := hrel
        have q0 := HS.out.v _ _ _ HQ.out ne_sl
        by_cases hlt2 : j < x.os.length
        · obtain ⟨z, hz⟩ : ∃ z, x.os[j]? = some z := ⟨_, List.getElem?_eq_getElem hlt2⟩
          obtain ⟨c, o2, e, hc, hcz⟩ := HP.out.1.o.at (by omega)
          obtain ⟨_, _, z2, _, z4⟩ := hcz j z hz
          have hf := (HP.out.2.1 _ e (fun h => by rw [h] at hlt2; exact absurd hlt2 (Nat.not_lt_zero _)))
          obtain ⟨t2, q2⟩ := HS.out.s _ _ _ z2
          have g2 := HS.out.f _ _ (hf.2 (o2 + j * 5 + 2))
          have HS2 := Lib.hid (HS.out.set q2 { data := #[111, 116, 104, 101, 114] })
          have HB2 := Lib.hid (HB.out.setCell (p := ⟨c, o2 + j * 5 + 2, none⟩) hf.1 (.string { data := #[111, 116, 104, 101, 114] }))
          have r0 := HS2.out.v _ _ _ HQ.out ne_sl
          have r4 := HS2.out.v _ _ _ z4 ne_sl
          rw [e] at q0 r0
          have hd2 : decide ((j : Int) < ((x.os.length : Nat) : Int)) = true := decide_eq_true (by omega)
          have hle2 := (HP.out.1.o.row hz).t.hle
          have hm2 : z.c ≤ 9223372036854775807 := by have := (HP.out.1.o.row hz).t.hmax; unfold maxLen at this; exact this
          have HZ := Lib.hid (And.intro (HP.out.1.o.row hz) (HP.out.2.2 z (List.mem_of_getElem? hz)))
          clear hz hcz z2 z4 hf hc e
          by_cases hz0 : z.o.l.length = 0
          · have hd3 : decide (((z.o.l.length : Nat) : Int) > 0) = false := decide_eq_false (by omega)
            go_wp2
            go_roundw
            case rel => exact ⟨j + 1, by omega, by simp, HS2.out, HB2.out⟩
            case measure => simp [intOf]; omega
          · have hd3 : decide (((z.o.l.length : Nat) : Int) > 0) = true := decide_eq_true (by omega)
            obtain ⟨d, o3, e, hd, hcy⟩ := HZ.out.1.t.at (by omega)
            obtain ⟨y, hy⟩ : ∃ y, z.o.l[0]? = some y := ⟨_, List.getElem?_eq_getElem (by omega)⟩
            have hf := (HZ.out.2 _ e (fun h => hz0 (by rw [h]; rfl)))
            have hp : 0 < z.o.l.length := by omega
            obtain ⟨t3, q3⟩ := HS2.out.s _ o3 _ (hcy 0 y hy)
            have g3 := HS2.out.f _ _ (hf.2 o3)
            have HS3 := Lib.hid (HS2.out.set q3 { data := #[111, 116, 104, 101, 114] })
            have HB3 := Lib.hid (HB2.out.setCell (p := ⟨d, o3, none⟩) hf.1 (.string { data := #[111, 116, 104, 101, 114] }))
            rw [e] at r4
            clear hd hcy hy hf e
            go_wp2
            go_roundw
            case rel => exact ⟨j + 1, by omega, by simp, HS3.out, HB3.out⟩
            case measure => simp [intOf]; omega
        · obtain rfl : j = x.os.length := by omega
          have hd2 : decide (((x.os.length : Nat) : Int) < ((x.os.length : Nat) : Int)) = false := decide_eq_false (by omega)
          go_wp2
          go_roundw
          case rel => exact ⟨k + 1, by omega, by simp, HS.out, HB.out⟩
          case measure => simp [intOf]; omega
    · obtain rfl : k = len := by omega
      have hd1 : decide ((k : Int) < (k : Int)) = false := decide_eq_false (by omega)
      go_wp2
      go_end0
      exact ⟨rfl, HS.out, HB.out⟩

end Go.Proofs.YtlafcplcjpcikaaGreatDoor

/- What the program's own functions on worlds answer: all of it new, none of it frozen. -/
namespace Go.Proofs.YtlafcplcjpcikaaGreatDoor
open Go.RowKit Go.Proofs.Fld Go.Proofs.Rng Go.Proofs.Spc Go.Proofs.Cats Go.Proofs.Wld Go.Shelf Go.Sort

/-- A variable that holds a label. -/
structure LabAt (W : World) (b : Nat) (x : Lab) : Prop where
  c0 : W.cell? ⟨b, 0, none⟩ = some (.int .i64 x.l)
  c1 : W.cell? ⟨b, 1, none⟩ = some (.int .u64 x.c)
  c2 : W.cell? ⟨b, 2, none⟩ = some (.int .i64 x.i)
theorem LabAt.lt {W : World} {b : Nat} {x : Lab} (h : LabAt W b x) : b < W.heap.size := World.block_lt_of_cell? W _ h.c0
theorem LabAt.more {A B : World} {b : Nat} {x : Lab} (h : LabAt A b x) (k : Below A.heap.size A B) : LabAt B b x := ⟨cell_later k h.c0, cell_later k h.c1, cell_later k h.c2⟩
theorem LabAt.new (W : World) (x : Lab) (t : TypeId) : LabAt (W.alloc (.cells #[.int .i64 x.l, .int .u64 x.c, .int .i64 x.i] t)) W.heap.size x := ⟨by simp, by simp, by simp⟩


/-- Parts, and a number, of the call's own. -/
def ResV (c : Int) (l : List Pt) (kr : Nat) (w : World) (e : Ending) (w' : World) : Prop :=
  ∃ vs va vc, e = .returned (.tuple #[.slice va kr vc, .int .i64 c]) ∧ SP w' va kr vc vs l ∧ (∀ x ∈ vs, softP w.heap.size w' x) ∧ Below w.heap.size w w'
/-- Parts of the call's own. -/
def SeqV (l : List Pt) (kr : Nat) (w : World) (e : Ending) (w' : World) : Prop :=
  ∃ vs va vc, e = .returned (.slice va kr vc) ∧ SP w' va kr vc vs l ∧ (∀ x ∈ vs, softP w.heap.size w' x) ∧ Below w.heap.size w w'
/-- Objects of the call's own. -/
def SeqU (l : List Ob) (kr : Nat) (w : World) (e : Ending) (w' : World) : Prop :=
  ∃ vs va vc, e = .returned (.slice va kr vc) ∧ SO w' va kr vc vs l ∧ softO w.heap.size w' va vs ∧ Below w.heap.size w w'
end Go.Proofs.YtlafcplcjpcikaaGreatDoor

/- judge: what is wrong with a part. -/
namespace Go.Proofs.Wld
open Go.Proofs.Cats Go.Proofs.Rng Go.Proofs.Spc
/-- The label ahead: of the first one what is below all. -/
def aheadL : Option Lab → Lab
  | none => ⟨-1, 0, 0⟩
  | some b => b
theorem aheadL_ge {p : Option Lab} {a : Lab} (h : a.right = true) : decide ((aheadL p).cmp a ≥ 0) = !aheadO p a := by
  rw [cmp_ge]
  cases p with
  | some b => rfl
  | none =>
    have : (aheadL none).ahead a = true := by
      rw [ahead_iff]
      left
      unfold Lab.right at h
      simp only [Bool.and_eq_true, decide_eq_true_eq] at h
      show (-1 : Int) < a.l
      omega
    rw [this]
    rfl
theorem next_no4 {p : Option Lab} {y : Pt} (h : aheadO p y.a = false) : nextW p y = false := by
  unfold nextW
  rw [h]
  simp
end Go.Proofs.Wld
namespace Go.Proofs.YtlafcplcjpcikaaGreatDoor
open Go.RowKit Go.Proofs.Fld Go.Proofs.Rng Go.Proofs.Spc Go.Proofs.Cats Go.Proofs.Wld Go.Shelf Go.Sort

/-- What judge tells, as a value. -/
def JuwV (b : Bool) (v : Value) : Prop := (b = true ∧ v = .nilIface) ∨ (b = false ∧ ∃ s, v = Wt.flt 110 s)
def JuwP (b : Bool) (w : World) (e : Ending) (w' : World) : Prop := ∃ v, e = .returned v ∧ JuwV b v ∧ Below w.heap.size w w'
theorem juw_no {s : ByteArray} {w w' : World} (h : Below w.heap.size w w') : JuwP false w (.returned (.iface 97 (.agg #[.int .i64 110, .string s]))) w' := ⟨_, rfl, .inr ⟨rfl, s, rfl⟩, h⟩
/-- label.Compare, its word closed. -/
theorem cmpW_any (a b : Lab) (w : World) : Calls Tryz.prog 77 #[.agg #[.int .i64 a.l, .int .u64 a.c, .int .i64 a.i], .agg #[.int .i64 b.l, .int .u64 b.c, .int .i64 b.i]] w (IntP (a.cmp b) w) := Lb.compare_any a b w
theorem rightW_any (a : Lab) (ha : a.fits) {b : Bool} (hb : a.right = b) (w : World) : Calls Tryz.prog 49 #[.agg #[.int .i64 a.l, .int .u64 a.c, .int .i64 a.i]] w (BoolP b w) := hb ▸ Lb.right_any a ha w
set_option maxHeartbeats 4000000 in
theorem wdJudge_v {s : Sn} (x : Pv) (p : Option Lab) (hm : Small (obs x.os)) (w : World) (hs : Ev s w) (hx : Pl w x) :
    Calls Tryz.prog 59 #[.agg #[.int .i64 x.a.l, .int .u64 x.a.c, .int .i64 x.a.i, .slice x.va x.os.length x.vc], .agg #[.int .i64 (aheadL p).l, .int .u64 (aheadL p).c, .int .i64 (aheadL p).i]] w (JuwP (nextW p (pt x)) w) := by
  obtain ⟨b, hb⟩ : ∃ b, aheadL p = b := ⟨_, rfl⟩
  have hge : x.a.right = true → decide (b.cmp x.a ≥ 0) = !aheadO p x.a := fun h => hb ▸ aheadL_ge h
  rw [hb]
  have hN1 := Below.new w (.cells #[.int .i64 x.a.l, .int .u64 x.a.c, .int .i64 x.a.i, .slice x.va x.os.length x.vc] 44)
  have hN2 := Below.new (w.alloc (.cells #[.int .i64 x.a.l, .int .u64 x.a.c, .int .i64 x.a.i, .slice x.va x.os.length x.vc] 44)) (.cells #[.int .i64 b.l, .int .u64 b.c, .int .i64 b.i] 25)
  have hO := (PtAt.new w x 44).more hN2
  have hA := LabAt.new (w.alloc (.cells #[.int .i64 x.a.l, .int .u64 x.a.c, .int .i64 x.a.i, .slice x.va x.os.length x.vc] 44)) b 25
  rw [World.size_alloc] at hA
  have hB := below_more hN1 hN2
  obtain ⟨W2, hW2⟩ : ∃ W2, (w.alloc (.cells #[.int .i64 x.a.l, .int .u64 x.a.c, .int .i64 x.a.i, .slice x.va x.os.length x.vc] 44)).alloc (.cells #[.int .i64 b.l, .int .u64 b.c, .int .i64 b.i] 25) = W2 := ⟨_, rfl⟩
  rw [hW2] at hB hO hA
  have H := Lib.hid (And.intro hB (And.intro hO (And.intro hA (And.intro (hx.more hB) (And.intro (hs.more hB) hm)))))
  have HF := Lib.hid hx.f
  obtain ⟨x0, x1, x2, x3⟩ := hO.var
  obtain ⟨a0, a1, a2⟩ := hA
  clear hN1 hN2 hO hB hs hx hm hb
  cases h1 : x.a.right with
  | false =>
    have HN := Lib.hid (show nextW p (pt x) = false from next_n1 h1)
    have H1 := Lib.hid h1
    clear h1 hge
    go_enter Tryz.func59, Tryz.ntmps59
    go_wp2_with (go_at_call 49; refine (rightW_any x.a HF.out H1.out _).mono ?_)
    rintro e w1 ⟨rfl, hb1⟩
    have HB := Lib.hid (below_more H.out.1 hb1)
    clear hb1
    go_wp2
    go_ret
    rw [HN.out]
    exact juw_no HB.out
  | true =>
    have hge2 := hge h1
    have H1 := Lib.hid h1
    clear hge h1
    cases h2 : aheadO p x.a with
    | false =>
      rw [h2] at hge2
      have HN := Lib.hid (show nextW p (pt x) = false from next_no4 h2)
      clear h2
      go_enter Tryz.func59, Tryz.ntmps59
      go_wp2_with (go_at_call 49; refine (rightW_any x.a HF.out H1.out _).mono ?_)
      rintro e w1 ⟨rfl, hb1⟩
      have HB := Lib.hid (below_more H.out.1 hb1)
      obtain ⟨y0, y1, y2, y3⟩ := (H.out.2.1.more hb1).var
      obtain ⟨b0, b1, b2⟩ := H.out.2.2.1.more hb1
      clear hb1 x0 x1 x2 x3 a0 a1 a2
      go_wp2_with (go_at_call 77; refine (cmpW_any b x.a _).mono ?_)
      rintro e w2 ⟨rfl, hb2⟩
      have HB2 := Lib.hid (below_more HB.out hb2)
      clear hb2
      go_wp2
      go_ret
      rw [HN.out]
      exact juw_no HB2.out
    | true =>
      rw [h2] at hge2
      have H2 := Lib.hid h2
      clear h2
      by_cases h3 : x.os.length = 0
      · have HN := Lib.hid (show nextW p (pt x) = false from next_n2 (by unfold pt obs; rw [List.eq_nil_of_length_eq_zero h3]; rfl))
        have hd : (((x.os.length : Nat) : Int) == 0) = true := by rw [beq_iff_eq]; omega
        clear h3
        go_enter Tryz.func59, Tryz.ntmps59
        go_wp2_with (go_at_call 49; refine (rightW_any x.a HF.out H1.out _).mono ?_)
        rintro e w1 ⟨rfl, hb1⟩
        have HB := Lib.hid (below_more H.out.1 hb1)
        have HO := Lib.hid (H.out.2.1.more hb1)
        obtain ⟨y0, y1, y2, y3⟩ := HO.out.var
        obtain ⟨b0, b1, b2⟩ := H.out.2.2.1.more hb1
        clear hb1 x0 x1 x2 x3 a0 a1 a2
        go_wp2_with (go_at_call 77; refine (cmpW_any b x.a _).mono ?_)
        rintro e w2 ⟨rfl, hb2⟩
        have HB2 := Lib.hid (below_more HB.out hb2)
        obtain ⟨z0, z1, z2, z3⟩ := (HO.out.more hb2).var
        clear hb2 y0 y1 y2 y3 b0 b1 b2
        go_wp2
        go_ret
        rw [HN.out]
        exact juw_no HB2.out
      · have hd : (((x.os.length : Nat) : Int) == 0) = false := by rw [beq_eq_false_iff_ne]; omega
        cases h4 : rightB (obs x.os) with
        | false =>
          have HN := Lib.hid (show nextW p (pt x) = false from next_n3 h4)
          have H4 := Lib.hid h4
          clear h3 h4
          go_enter Tryz.func59, Tryz.ntmps59
          go_wp2_with (go_at_call 49; refine (rightW_any x.a HF.out H1.out _).mono ?_)
          rintro e w1 ⟨rfl, hb1⟩
          have HB := Lib.hid (below_more H.out.1 hb1)
          have HO := Lib.hid (And.intro (H.out.2.1.more hb1) (And.intro (H.out.2.2.2.1.more hb1) (H.out.2.2.2.2.1.more hb1)))
          obtain ⟨y0, y1, y2, y3⟩ := HO.out.1.var
          obtain ⟨b0, b1, b2⟩ := H.out.2.2.1.more hb1
          clear hb1 x0 x1 x2 x3 a0 a1 a2
          go_wp2_with (go_at_call 77; refine (cmpW_any b x.a _).mono ?_)
          rintro e w2 ⟨rfl, hb2⟩
          have HB2 := Lib.hid (below_more HB.out hb2)
          have HO2 := Lib.hid (And.intro (HO.out.2.1.more hb2) (HO.out.2.2.more hb2))
          obtain ⟨z0, z1, z2, z3⟩ := (HO.out.1.more hb2).var
          clear hb2 y0 y1 y2 y3 b0 b1 b2
          go_wp2_with (go_at_call 60; refine (Right_w (l := obs x.os) H4.out ⟨rfl, HO2.out.1.o, H.out.2.2.2.2.2⟩ (WE.of HO2.out.2)).mono ?_)
          rintro e w3 ⟨rfl, hb3⟩
          have HB3 := Lib.hid (below_more HB2.out hb3)
          clear hb3
          go_wp2
          go_ret
          rw [HN.out]
          exact juw_no HB3.out
        | true =>
          have HN := Lib.hid (show nextW p (pt x) = true from nextW_iff.2 ⟨H1.out, fun e => h3 (by rw [← obs_length]; exact (congrArg List.length e).trans rfl), h4, H2.out⟩)
          have H4 := Lib.hid h4
          clear h3 h4
          go_enter Tryz.func59, Tryz.ntmps59
          go_wp2_with (go_at_call 49; refine (rightW_any x.a HF.out H1.out _).mono ?_)
          rintro e w1 ⟨rfl, hb1⟩
          have HB := Lib.hid (below_more H.out.1 hb1)
          have HO := Lib.hid (And.intro (H.out.2.1.more hb1) (And.intro (H.out.2.2.2.1.more hb1) (H.out.2.2.2.2.1.more hb1)))
          obtain ⟨y0, y1, y2, y3⟩ := HO.out.1.var
          obtain ⟨b0, b1, b2⟩ := H.out.2.2.1.more hb1
          clear hb1 x0 x1 x2 x3 a0 a1 a2
          go_wp2_with (go_at_call 77; refine (cmpW_any b x.a _).mono ?_)
          rintro e w2 ⟨rfl, hb2⟩
          have HB2 := Lib.hid (below_more HB.out hb2)
          have HO2 := Lib.hid (And.intro (HO.out.2.1.more hb2) (HO.out.2.2.more hb2))
          obtain ⟨z0, z1, z2, z3⟩ := (HO.out.1.more hb2).var
          clear hb2 y0 y1 y2 y3 b0 b1 b2
          go_wp2_with (go_at_call 60; refine (Right_w (l := obs x.os) H4.out ⟨rfl, HO2.out.1.o, H.out.2.2.2.2.2⟩ (WE.of HO2.out.2)).mono ?_)
          rintro e w3 ⟨rfl, hb3⟩
          have HB3 := Lib.hid (below_more HB2.out hb3)
          clear hb3
          go_wp2
          go_ret
          exact ⟨_, rfl, .inl ⟨HN.out, rfl⟩, HB3.out⟩

end Go.Proofs.YtlafcplcjpcikaaGreatDoor
