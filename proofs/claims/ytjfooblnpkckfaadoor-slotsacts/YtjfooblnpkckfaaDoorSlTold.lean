/- What callers are told; the number of those in use. -/
import Derived.Test.YtjfooblnpkckfaaDoorSlPop
namespace Go.Proofs.YtjfooblnpkckfaaDoor
open Go.RowKit Go.Extern.Stop Go.Stop Go.Extern

theorem isTypeOf (v : Value) (w : World) : (Extern.ReflectliteType.typeOf #[.iface 113 v]).run Tryd.prog w = .ok (.iface 103 (.agg #[.pointer (some ⟨2, 113, none⟩)])) w := by kernel_rfl
noncomputable def cmpE : Array Value → Sem Value := (Extern.find Tryd.f69).getD fun _ => pure .nilIface
theorem isComparable (w : World) : (cmpE #[.agg #[.pointer (some ⟨2, 113, none⟩)]]).run Tryd.prog w = .ok (.bool true) w := by kernel_rfl
theorem isMethodComparable (v : Value) (w : World) : (Go.method 251 103 v "Comparable").run Tryd.prog w = .ok (69, v) w := by kernel_rfl
theorem isComp : (Tryd.prog.info? 113).map (·.comparable) = some true := by kernel_rfl
theorem isSize : (Tryd.prog.info? 139).map (·.size) = some 1 := by kernel_rfl
theorem noIsE (v : Value) (xT : TypeId) (w : World) : (Instr.typeAssert (.iface 113 v) xT 105 true).run Tryd.prog w = .ok (.tuple #[.nilIface, .bool false]) w := run_typeAssert_lacksB Tryd.underlying105 (by kernel_rfl) (by kernel_rfl) v xT w
theorem noUnE (v : Value) (xT : TypeId) (w : World) : (Instr.typeAssert (.iface 113 v) xT 108 true).run Tryd.prog w = .ok (.tuple #[.nilIface, .bool false]) w := run_typeAssert_lacksB Tryd.underlying108 (by kernel_rfl) (by kernel_rfl) v xT w
theorem noUnsE (v : Value) (xT : TypeId) (w : World) : (Instr.typeAssert (.iface 113 v) xT 110 true).run Tryd.prog w = .ok (.tuple #[.nilIface, .bool false]) w := run_typeAssert_lacksB Tryd.underlying110 (by kernel_rfl) (by kernel_rfl) v xT w

set_option maxHeartbeats 400000 in
theorem is_nil (b : Addr) (w : World) :
    Calls Tryd.prog 33 #[.nilIface, .iface 113 (.pointer (some b))] w fun e w' => e = .returned (.bool false) ∧ w = w' := by
  have hn := run_eql_iface_nil_left (P := Tryd.prog) w 113 (.pointer (some b)) Tryd.underlying65
  go_enter Tryd.func33, Tryd.ntmps33
  go_wp2
  go_ret
  exact ⟨rfl, rfl⟩

set_option maxHeartbeats 400000 in
theorem is_same (a : Addr) (w : World) :
    Calls Tryd.prog 33 #[.iface 113 (.pointer (some a)), .iface 113 (.pointer (some a))] w fun e w' => e = .returned (.bool true) ∧ w = w' := by
  obtain ⟨i, hi, hcmp⟩ := Option.map_eq_some_iff.1 isComp
  obtain ⟨j, hj, hjs⟩ := Option.map_eq_some_iff.1 isSize
  have h8 := @run_callFunc_extern Tryd.prog 41 _ Extern.ReflectliteType.typeOf Tryd.func41 (by kernel_rfl) (by kernel_rfl) (by kernel_rfl) (by kernel_rfl)
  have h32 := @run_callFunc_extern Tryd.prog 69 _ cmpE Tryd.func69 (by kernel_rfl) (by kernel_rfl) (by kernel_rfl) (by kernel_rfl)
  have tT := isTypeOf
  have cT := isComparable
  have mR := isMethodComparable
  have heq := run_eql_iface_ptr_same (P := Tryd.prog) w a Tryd.underlying65 Tryd.underlying113 hi hcmp hj
  go_enter Tryd.func33, Tryd.ntmps33
  go_wp2
  refine wp_loop_rounds 1 ?_
  rw [rounds_succ]
  go_wp2
  go_ret
  exact ⟨rfl, rfl⟩

set_option maxRecDepth 100000 in
set_option maxHeartbeats 1000000 in
theorem is_other (a b : Addr) (w : World) (hne : a ≠ b) (ha : Blk0 w a) (hb : Blk0 w b) :
    Calls Tryd.prog 33 #[.iface 113 (.pointer (some a)), .iface 113 (.pointer (some b))] w fun e w' => e = .returned (.bool false) ∧ w = w' := by
  obtain ⟨i, hi, hcmp⟩ := Option.map_eq_some_iff.1 isComp
  obtain ⟨j, hj, hjs⟩ := Option.map_eq_some_iff.1 isSize
  have h8 := @run_callFunc_extern Tryd.prog 41 _ Extern.ReflectliteType.typeOf Tryd.func41 (by kernel_rfl) (by kernel_rfl) (by kernel_rfl) (by kernel_rfl)
  have h32 := @run_callFunc_extern Tryd.prog 69 _ cmpE Tryd.func69 (by kernel_rfl) (by kernel_rfl) (by kernel_rfl) (by kernel_rfl)
  have tT := isTypeOf
  have cT := isComparable
  have mR := isMethodComparable
  have t3 := noIsE
  have t4 := noUnE
  have t5 := noUnsE
  obtain ⟨ca, ta, ha⟩ := ha
  obtain ⟨cb, tb, hb⟩ := hb
  have heq := run_eql_iface_ptr_other (P := Tryd.prog) w Tryd.underlying65 Tryd.underlying113 hi hcmp hj (by rw [hjs]; decide) hne ha hb
  go_enter Tryd.func33, Tryd.ntmps33
  go_wp2
  refine wp_loop_rounds 1 ?_
  rw [rounds_succ]
  go_wp2
  go_ret
  exact ⟨rfl, rfl⟩

/-- An error, and what callers are told of it. -/
inductive ErrIs (t : Sn) : Value → Int → Prop
  | ok : ErrIs t .nilIface 0
  | none : ErrIs t (.iface 113 (.pointer (some t.n))) 60
  | stale : ErrIs t (.iface 113 (.pointer (some t.s))) 61

set_option maxHeartbeats 1000000 in
theorem told_any (t : Sn) {n0 : Nat} {v : Value} {c : Int} (h : ErrIs t v c) (w : World) (hc : Ctx t n0 w) :
    Calls Tryd.prog 24 #[v] w fun e w' => e = .returned (.int .i64 c) ∧ w = w' := by
  have cn := hc.cn
  have cs := hc.cs
  have HC := Lib.hid hc
  clear hc
  go_enter Tryd.func24, Tryd.ntmps24
  cases h with
  | ok =>
    go_wp2_with (go_at_call 33; refine (is_nil _ _).mono ?_; rintro e w' ⟨rfl, rfl⟩)
    go_ret
    exact ⟨rfl, rfl⟩
  | none =>
    go_wp2_with (go_at_call 33; refine (is_same _ _).mono ?_; rintro e w' ⟨rfl, rfl⟩)
    go_ret
    exact ⟨rfl, rfl⟩
  | stale =>
    go_wp2_with (go_at_call 33; refine (is_other t.s t.n w HC.out.ns.symm HC.out.bs HC.out.bn).mono ?_)
    rintro e w' ⟨rfl, rfl⟩
    go_wp2_with (go_at_call 33; refine (is_same t.s w).mono ?_)
    rintro e w' ⟨rfl, rfl⟩
    go_wp2
    go_ret
    exact ⟨rfl, rfl⟩

set_option maxHeartbeats 1000000 in
theorem load_any (S : Nat) (u : Int) (w : World) (h : w.cell? ⟨S, 2, none⟩ = some (.int .i64 u)) :
    Calls Tryd.prog 29 #[.pointer (some ⟨S, 2, none⟩)] w fun e w' => e = .returned (.int .i64 u) ∧ w = w' := by
  have hld := run_call_load (P := Tryd.prog) Tryd.func36 (by kernel_rfl) (by kernel_rfl) (by kernel_rfl) .i64 (by kernel_rfl) h
  go_enter Tryd.func29, Tryd.ntmps29
  go_wp2
  go_ret
  exact ⟨rfl, rfl⟩

set_option maxHeartbeats 1000000 in
theorem atom_any (S : Nat) (u y : Int) (w : World) (h : w.cell? ⟨S, 2, none⟩ = some (.int .i64 u)) (hf : w.frozen? ⟨S, 2, none⟩ = false) (h1 : -1000 ≤ u) (h2 : u ≤ 1000) (h3 : -1 ≤ y) (h4 : y ≤ 1) :
    Calls Tryd.prog 32 #[.pointer (some ⟨S, 2, none⟩), .int .i64 y] w fun e w' => (∃ v, e = .returned v) ∧ w.setCell ⟨S, 2, none⟩ (.int .i64 (u + y)) = w' := by
  have hs : (Op.intArith .add .i64 u y).run Tryd.prog w = .ok (.int .i64 (u + y)) w := by
    have hsg : IntKind.i64.signed = true := rfl
    simp only [Op.intArith, IntKind.wrap, go_sem, hsg]
    congr 2
    simp
    omega
  have hld := run_call_add (P := Tryd.prog) Tryd.func40 (by kernel_rfl) (by kernel_rfl) (by kernel_rfl) .i64 (by kernel_rfl) h hf hs
  go_enter Tryd.func32, Tryd.ntmps32
  go_wp2
  go_ret
  exact ⟨⟨_, rfl⟩, rfl⟩

end Go.Proofs.YtjfooblnpkckfaaDoor
