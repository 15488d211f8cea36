/- errors.Is: at nil, at a bare sentinel, at a stop. -/
import Derived.Test.YtciohfeifihobaaDoorCeEnv
namespace Go.Proofs.YtciohfeifihobaaDoor.Cs
open Go.RowKit Go.Extern.Stop Go.Stop Go.Extern

theorem isTypeOf (v : Value) (w : World) : (Extern.ReflectliteType.typeOf #[.iface 116 v]).run Tryd.prog w = .ok (.iface 95 (.agg #[.pointer (some ⟨4, 116, none⟩)])) w := by kernel_rfl
noncomputable def cmpE : Array Value → Sem Value := (Extern.find Tryd.f94).getD fun _ => pure .nilIface
theorem isComparable (w : World) : (cmpE #[.agg #[.pointer (some ⟨4, 116, none⟩)]]).run Tryd.prog w = .ok (.bool true) w := by kernel_rfl
theorem isMethodComparable (v : Value) (w : World) : (Go.method 250 95 v "Comparable").run Tryd.prog w = .ok (94, v) w := by kernel_rfl
theorem isComp : (Tryd.prog.info? 116).map (·.comparable) = some true := by kernel_rfl
theorem isSize : (Tryd.prog.info? 138).map (·.size) = some 1 := by kernel_rfl
theorem noIsF (v : Value) (xT : TypeId) (w : World) : (Instr.typeAssert (.iface 57 v) xT 112 true).run Tryd.prog w = .ok (.tuple #[.nilIface, .bool false]) w := run_typeAssert_lacksB Tryd.underlying112 (by kernel_rfl) (by kernel_rfl) v xT w
theorem hasUnF (v : Value) (xT : TypeId) (w : World) : (Instr.typeAssert (.iface 57 v) xT 102 true).run Tryd.prog w = .ok (.tuple #[.iface 57 v, .bool true]) w := run_typeAssert_hasB Tryd.underlying102 (by kernel_rfl) v xT w
theorem noIsE (v : Value) (xT : TypeId) (w : World) : (Instr.typeAssert (.iface 116 v) xT 112 true).run Tryd.prog w = .ok (.tuple #[.nilIface, .bool false]) w := run_typeAssert_lacksB Tryd.underlying112 (by kernel_rfl) (by kernel_rfl) v xT w
theorem noUnE2 (v : Value) (xT : TypeId) (w : World) : (Instr.typeAssert (.iface 116 v) xT 102 true).run Tryd.prog w = .ok (.tuple #[.nilIface, .bool false]) w := run_typeAssert_lacksB Tryd.underlying102 (by kernel_rfl) (by kernel_rfl) v xT w
theorem noUnsE2 (v : Value) (xT : TypeId) (w : World) : (Instr.typeAssert (.iface 116 v) xT 104 true).run Tryd.prog w = .ok (.tuple #[.nilIface, .bool false]) w := run_typeAssert_lacksB Tryd.underlying104 (by kernel_rfl) (by kernel_rfl) v xT w
theorem eqFE (v u : Value) (w : World) : (binOp .eql 44 (.iface 57 v) (.iface 116 u)).run Tryd.prog w = .ok (.bool false) w := by kernel_rfl
theorem isMU (v : Value) (w : World) : (Go.method 250 57 v "Unwrap").run Tryd.prog w = .ok (86, v) w := by kernel_rfl

set_option maxHeartbeats 400000 in
theorem unwrap_any (l c i k : Int) (t : TypeId) (v : Value) (w : World) :
    Calls Tryd.prog 86 #[.agg #[.int .i64 l, .int .u64 c, .int .i64 i, .int .i64 k, .iface t v]] w fun e w' => e = .returned (.iface t v) ∧ Below w.heap.size w w' := by
  go_enter Tryd.func86, Tryd.ntmps86
  go_wp2
  go_ret
  exact ⟨rfl, Below.new _ _⟩

set_option maxRecDepth 100000 in
set_option maxHeartbeats 2000000 in
theorem is_hit (l c i k : Int) (a : Addr) (w : World) :
    Calls Tryd.prog 46 #[.iface 57 (.agg #[.int .i64 l, .int .u64 c, .int .i64 i, .int .i64 k, .iface 116 (.pointer (some a))]), .iface 116 (.pointer (some a))] w fun e w' => e = .returned (.bool true) ∧ Below w.heap.size w w' := by
  obtain ⟨ii, hi, hcmp⟩ := Option.map_eq_some_iff.1 isComp
  obtain ⟨jj, hj, hjs⟩ := Option.map_eq_some_iff.1 isSize
  have h8 := @run_callFunc_extern Tryd.prog 60 _ Extern.ReflectliteType.typeOf Tryd.func60 (by kernel_rfl) (by kernel_rfl) (by kernel_rfl) (by kernel_rfl)
  have h32 := @run_callFunc_extern Tryd.prog 94 _ cmpE Tryd.func94 (by kernel_rfl) (by kernel_rfl) (by kernel_rfl) (by kernel_rfl)
  have tT := isTypeOf
  have cT := isComparable
  have mR := isMethodComparable
  have mU := isMU
  have t1 := noIsF
  have t2 := hasUnF
  have e1 := eqFE
  have heq := fun w => run_eql_iface_ptr_same (P := Tryd.prog) w a Tryd.underlying44 Tryd.underlying116 hi hcmp hj
  go_enter Tryd.func46, Tryd.ntmps46
  go_wp2
  refine wp_loop_rounds 2 ?_
  rw [rounds_succ]
  go_wp2_with (go_at_call 86; refine (unwrap_any _ _ _ _ _ _ _).mono ?_)
  rintro e w1 ⟨rfl, b1⟩
  go_wp2
  rw [rounds_succ]
  go_wp2
  go_ret
  exact ⟨rfl, b1⟩

set_option maxRecDepth 100000 in
set_option maxHeartbeats 2000000 in
theorem is_miss (l c i k : Int) (a b : Addr) (w : World) (hne : a ≠ b) (ha : Blk0 w a) (hb : Blk0 w b) :
    Calls Tryd.prog 46 #[.iface 57 (.agg #[.int .i64 l, .int .u64 c, .int .i64 i, .int .i64 k, .iface 116 (.pointer (some a))]), .iface 116 (.pointer (some b))] w fun e w' => e = .returned (.bool false) ∧ Below w.heap.size w w' := by
  obtain ⟨ii, hi, hcmp⟩ := Option.map_eq_some_iff.1 isComp
  obtain ⟨jj, hj, hjs⟩ := Option.map_eq_some_iff.1 isSize
  have h8 := @run_callFunc_extern Tryd.prog 60 _ Extern.ReflectliteType.typeOf Tryd.func60 (by kernel_rfl) (by kernel_rfl) (by kernel_rfl) (by kernel_rfl)
  have h32 := @run_callFunc_extern Tryd.prog 94 _ cmpE Tryd.func94 (by kernel_rfl) (by kernel_rfl) (by kernel_rfl) (by kernel_rfl)
  have tT := isTypeOf
  have cT := isComparable
  have mR := isMethodComparable
  have mU := isMU
  have t1 := noIsF
  have t2 := hasUnF
  have t3 := noIsE
  have t4 := noUnE2
  have t5 := noUnsE2
  have e1 := eqFE
  have la := ha.lt
  have lb := hb.lt
  obtain ⟨ca, ta, ha⟩ := ha
  obtain ⟨cb, tb, hb⟩ := hb
  go_enter Tryd.func46, Tryd.ntmps46
  go_wp2
  refine wp_loop_rounds 2 ?_
  rw [rounds_succ]
  go_wp2_with (go_at_call 86; refine (unwrap_any _ _ _ _ _ _ _).mono ?_)
  rintro e w1 ⟨rfl, b1⟩
  have heq := run_eql_iface_ptr_other (P := Tryd.prog) w1 Tryd.underlying44 Tryd.underlying116 hi hcmp hj (by rw [hjs]; decide) hne ((b1.block _ la).trans ha) ((b1.block _ lb).trans hb)
  go_wp2
  rw [rounds_succ]
  go_wp2
  go_ret
  exact ⟨rfl, b1⟩

set_option maxHeartbeats 400000 in
theorem is_nil (b : Addr) (w : World) :
    Calls Tryd.prog 46 #[.nilIface, .iface 116 (.pointer (some b))] w fun e w' => e = .returned (.bool false) ∧ w = w' := by
  have hn := run_eql_iface_nil_left (P := Tryd.prog) w 116 (.pointer (some b)) Tryd.underlying44
  go_enter Tryd.func46, Tryd.ntmps46
  go_wp2
  go_ret
  exact ⟨rfl, rfl⟩

set_option maxHeartbeats 400000 in
theorem is_same (a : Addr) (w : World) :
    Calls Tryd.prog 46 #[.iface 116 (.pointer (some a)), .iface 116 (.pointer (some a))] w fun e w' => e = .returned (.bool true) ∧ w = w' := by
  obtain ⟨i, hi, hcmp⟩ := Option.map_eq_some_iff.1 isComp
  obtain ⟨j, hj, hjs⟩ := Option.map_eq_some_iff.1 isSize
  have h8 := @run_callFunc_extern Tryd.prog 60 _ Extern.ReflectliteType.typeOf Tryd.func60 (by kernel_rfl) (by kernel_rfl) (by kernel_rfl) (by kernel_rfl)
  have h32 := @run_callFunc_extern Tryd.prog 94 _ cmpE Tryd.func94 (by kernel_rfl) (by kernel_rfl) (by kernel_rfl) (by kernel_rfl)
  have tT := isTypeOf
  have cT := isComparable
  have mR := isMethodComparable
  have heq := run_eql_iface_ptr_same (P := Tryd.prog) w a Tryd.underlying44 Tryd.underlying116 hi hcmp hj
  go_enter Tryd.func46, Tryd.ntmps46
  go_wp2
  refine wp_loop_rounds 1 ?_
  rw [rounds_succ]
  go_wp2
  go_ret
  exact ⟨rfl, rfl⟩

end Go.Proofs.YtciohfeifihobaaDoor.Cs
