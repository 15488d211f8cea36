/- The three sentinels; errors.Is; what callers are told; texts in memory. -/
import Derived.Test.YtbdhagilmdmpdaaDoorChecked
import Derived.Test.YtbdhagilmdmpdaaDoorRgMath
import Derived.WalkKit
import Derived.WalkSpells
import Derived.WalkLawsBesides
import Derived.Lib.Hide
import Derived.Lib.QuietBelow
import Derived.Deep.RegionWith
import Derived.BigCall
import Derived.RegionTactic
import Derived.LaidEql
import Derived.Stop.Asserts
import Derived.RowKitTokens
import Derived.Shelf.Abstract
import Derived.ArgAppend
import Derived.Deep.Onto
import Derived.Lib.AppendZerosOnto
import Derived.Laws.AppendOwnNone
import Derived.ScopeJumps
import Derived.Lib.Strings
import Derived.OwnWalk
import Derived.BigQuiet
import Derived.RangeFuncNested
import Derived.RangeFuncBound
import Derived.RangeFuncCalls
import Derived.RangeFuncLeaves
import Derived.RangeFuncBox
import Derived.Shelf.RegionOpen
import Derived.OwnWalkIn
import Derived.TacticsInMore
import Derived.LoopNIn
import Derived.LoopIn
import Derived.WalkMore
namespace Go.Proofs.YtbdhagilmdmpdaaDoor
open Go.RowKit Go.Proofs.Fld Go.Proofs.Rng Go.Shelf Go.Extern.Stop Go.Stop Go.Extern

theorem below_more {n : Nat} {w w1 w2 : World} (h : Below n w w1) (k : Below w1.heap.size w1 w2) (hn : n ≤ w.heap.size := by exact Nat.le_refl _) : Below n w w2 := h.trans (k.mono (Nat.le_trans hn h.size))
theorem Below.new (w : World) (o : Obj) : Below w.heap.size w (w.alloc o) := (Below.refl _ w).alloc (Nat.le_refl _) _
theorem bs_toList (l : List UInt8) : (bs l).toList = l := by
  rw [Lib.toList_data]
  rfl
theorem bs_extract (l : List UInt8) (a b : Nat) : (bs l).extract a b = bs ((l.drop a).take (b - a)) := by
  have h := Lib.extract_data (bs l) a b
  rw [bs_all ((bs l).extract a b), h]
  rfl
theorem str_eql (l m : List UInt8) (w : World) : (binOp .eql 9 (.string (bs l)) (.string (bs m))).run Tryd.prog w = .ok (.bool (decide (l = m))) w := by
  simp [go_sem, bs_toList]
  by_cases h : l = m <;> simp [h]
theorem str_neq (l m : List UInt8) (w : World) : (binOp .neq 9 (.string (bs l)) (.string (bs m))).run Tryd.prog w = .ok (.bool (!decide (l = m))) w := by
  simp [go_sem, bs_toList]
  by_cases h : l = m <;> simp [h]
theorem str_upto (l : List UInt8) (k : Nat) (h : k ≤ l.length) (w : World) : (Instr.slice 9 (.string (bs l)) none (some (.int .i64 (k : Int))) none).run Tryd.prog w = .ok (.string (bs (l.take k))) w := by
  simp [go_sem, Tryd.underlying9, bs_size, bs_extract, h]

/-- Where the three sentinels lie: no ring or item, full, empty. -/
structure Sn where
  w : Addr
  f : Addr
  e : Addr
def Blk0 (w : World) (a : Addr) : Prop := ∃ c t, w.heap[a.block]? = some (.cells c t (0, 0))
theorem Blk0.lt {w : World} {a : Addr} (h : Blk0 w a) : a.block < w.heap.size := by
  obtain ⟨c, t, h⟩ := h
  exact (Array.getElem?_eq_some_iff.1 h).1
structure Sent (s : Sn) (w : World) : Prop where
  cw : w.cell? ⟨0, 0, none⟩ = some (.iface 82 (.pointer (some s.w)))
  cf : w.cell? ⟨1, 0, none⟩ = some (.iface 82 (.pointer (some s.f)))
  ce : w.cell? ⟨2, 0, none⟩ = some (.iface 82 (.pointer (some s.e)))
  bw : Blk0 w s.w
  bf : Blk0 w s.f
  be : Blk0 w s.e
  wf : s.w ≠ s.f
  we : s.w ≠ s.e
  fe : s.f ≠ s.e
theorem Sent.below {s : Sn} {n : Nat} {A B : World} (h : Sent s A) (hn : A.heap.size ≤ n) (hb : Below n A B) : Sent s B := by
  have l1 := World.block_lt_of_cell? A _ h.cw
  have l2 := World.block_lt_of_cell? A _ h.cf
  have l3 := World.block_lt_of_cell? A _ h.ce
  have k1 := h.bw.lt
  have k2 := h.bf.lt
  have k3 := h.be.lt
  refine ⟨(hb.cell (p := ⟨0, 0, none⟩) (by simp at l1 ⊢; omega)).trans h.cw, (hb.cell (p := ⟨1, 0, none⟩) (by simp at l2 ⊢; omega)).trans h.cf, (hb.cell (p := ⟨2, 0, none⟩) (by simp at l3 ⊢; omega)).trans h.ce, ?_, ?_, ?_, h.wf, h.we, h.fe⟩
  · obtain ⟨c, t, e⟩ := h.bw
    exact ⟨c, t, (hb.block _ (by omega)).trans e⟩
  · obtain ⟨c, t, e⟩ := h.bf
    exact ⟨c, t, (hb.block _ (by omega)).trans e⟩
  · obtain ⟨c, t, e⟩ := h.be
    exact ⟨c, t, (hb.block _ (by omega)).trans e⟩
theorem Sent.more {s : Sn} {A B : World} (h : Sent s A) (hb : Below A.heap.size A B) : Sent s B := h.below (Nat.le_refl _) hb

theorem isTypeOf (v : Value) (w : World) : (Extern.ReflectliteType.typeOf #[.iface 82 v]).run Tryd.prog w = .ok (.iface 72 (.agg #[.pointer (some ⟨3, 82, none⟩)])) w := by kernel_rfl
noncomputable def cmpE : Array Value → Sem Value := (Extern.find Tryd.f61).getD fun _ => pure .nilIface
theorem isComparable (w : World) : (cmpE #[.agg #[.pointer (some ⟨3, 82, none⟩)]]).run Tryd.prog w = .ok (.bool true) w := by kernel_rfl
theorem isMethodComparable (v : Value) (w : World) : (Go.method 220 72 v "Comparable").run Tryd.prog w = .ok (61, v) w := by kernel_rfl
theorem isComp : (Tryd.prog.info? 82).map (·.comparable) = some true := by kernel_rfl
theorem isSize : (Tryd.prog.info? 108).map (·.size) = some 1 := by kernel_rfl
theorem noIsE (v : Value) (xT : TypeId) (w : World) : (Instr.typeAssert (.iface 82 v) xT 74 true).run Tryd.prog w = .ok (.tuple #[.nilIface, .bool false]) w := run_typeAssert_lacksB Tryd.underlying74 (by kernel_rfl) (by kernel_rfl) v xT w
theorem noUnE (v : Value) (xT : TypeId) (w : World) : (Instr.typeAssert (.iface 82 v) xT 77 true).run Tryd.prog w = .ok (.tuple #[.nilIface, .bool false]) w := run_typeAssert_lacksB Tryd.underlying77 (by kernel_rfl) (by kernel_rfl) v xT w
theorem noUnsE (v : Value) (xT : TypeId) (w : World) : (Instr.typeAssert (.iface 82 v) xT 79 true).run Tryd.prog w = .ok (.tuple #[.nilIface, .bool false]) w := run_typeAssert_lacksB Tryd.underlying79 (by kernel_rfl) (by kernel_rfl) v xT w

set_option maxHeartbeats 400000 in
theorem is_nil (b : Addr) (w : World) :
    Calls Tryd.prog 36 #[.nilIface, .iface 82 (.pointer (some b))] w fun e w' => e = .returned (.bool false) ∧ w = w' := by
  have hn := run_eql_iface_nil_left (P := Tryd.prog) w 82 (.pointer (some b)) Tryd.underlying47
  go_enter Tryd.func36, Tryd.ntmps36
  go_wp2
  go_ret
  exact ⟨rfl, rfl⟩

set_option maxHeartbeats 400000 in
theorem is_same (a : Addr) (w : World) :
    Calls Tryd.prog 36 #[.iface 82 (.pointer (some a)), .iface 82 (.pointer (some a))] w fun e w' => e = .returned (.bool true) ∧ w = w' := by
  obtain ⟨i, hi, hcmp⟩ := Option.map_eq_some_iff.1 isComp
  obtain ⟨j, hj, hjs⟩ := Option.map_eq_some_iff.1 isSize
  have h8 := @run_callFunc_extern Tryd.prog 39 _ Extern.ReflectliteType.typeOf Tryd.func39 (by kernel_rfl) (by kernel_rfl) (by kernel_rfl) (by kernel_rfl)
  have h32 := @run_callFunc_extern Tryd.prog 61 _ cmpE Tryd.func61 (by kernel_rfl) (by kernel_rfl) (by kernel_rfl) (by kernel_rfl)
  have tT := isTypeOf
  have cT := isComparable
  have mR := isMethodComparable
  have heq := run_eql_iface_ptr_same (P := Tryd.prog) w a Tryd.underlying47 Tryd.underlying82 hi hcmp hj
  go_enter Tryd.func36, Tryd.ntmps36
  go_wp2
  refine wp_loop_rounds 1 ?_
  rw [rounds_succ]
  go_wp2
  go_ret
  exact ⟨rfl, rfl⟩

set_option maxRecDepth 100000 in
set_option maxHeartbeats 1000000 in
theorem is_other (a b : Addr) (w : World) (hne : a ≠ b) (ha : Blk0 w a) (hb : Blk0 w b) :
    Calls Tryd.prog 36 #[.iface 82 (.pointer (some a)), .iface 82 (.pointer (some b))] w fun e w' => e = .returned (.bool false) ∧ w = w' := by
  obtain ⟨i, hi, hcmp⟩ := Option.map_eq_some_iff.1 isComp
  obtain ⟨j, hj, hjs⟩ := Option.map_eq_some_iff.1 isSize
  have h8 := @run_callFunc_extern Tryd.prog 39 _ Extern.ReflectliteType.typeOf Tryd.func39 (by kernel_rfl) (by kernel_rfl) (by kernel_rfl) (by kernel_rfl)
  have h32 := @run_callFunc_extern Tryd.prog 61 _ cmpE Tryd.func61 (by kernel_rfl) (by kernel_rfl) (by kernel_rfl) (by kernel_rfl)
  have tT := isTypeOf
  have cT := isComparable
  have mR := isMethodComparable
  have t3 := noIsE
  have t4 := noUnE
  have t5 := noUnsE
  obtain ⟨ca, ta, ha⟩ := ha
  obtain ⟨cb, tb, hb⟩ := hb
  have heq := run_eql_iface_ptr_other (P := Tryd.prog) w Tryd.underlying47 Tryd.underlying82 hi hcmp hj (by rw [hjs]; decide) hne ha hb
  go_enter Tryd.func36, Tryd.ntmps36
  go_wp2
  refine wp_loop_rounds 1 ?_
  rw [rounds_succ]
  go_wp2
  go_ret
  exact ⟨rfl, rfl⟩

/-- An error, and its number: 0 none, 1 wrong, 2 full, 3 empty. -/
inductive ErrIs (t : Sn) : Value → Nat → Prop
  | ok : ErrIs t .nilIface 0
  | wrong : ErrIs t (.iface 82 (.pointer (some t.w))) 1
  | full : ErrIs t (.iface 82 (.pointer (some t.f))) 2
  | empty : ErrIs t (.iface 82 (.pointer (some t.e))) 3

set_option maxHeartbeats 1000000 in
theorem told_any (t : Sn) {v : Value} {c : Nat} (h : ErrIs t v c) (w : World) (hc : Sent t w) :
    Calls Tryd.prog 28 #[v] w fun e w' => e = .returned (.int .i64 (errN c)) ∧ w = w' := by
  have cw := hc.cw
  have cf := hc.cf
  have ce := hc.ce
  have HC := Lib.hid hc
  clear hc
  go_enter Tryd.func28, Tryd.ntmps28
  cases h with
  | ok =>
    go_wp2_with (go_at_call 36; refine (is_nil _ _).mono ?_; rintro e w' ⟨rfl, rfl⟩)
    go_ret
    exact ⟨rfl, rfl⟩
  | wrong =>
    go_wp2_with (go_at_call 36; refine (is_same _ _).mono ?_; rintro e w' ⟨rfl, rfl⟩)
    go_ret
    exact ⟨rfl, rfl⟩
  | full =>
    go_wp2_with (go_at_call 36; refine (is_other t.f t.w w HC.out.wf.symm HC.out.bf HC.out.bw).mono ?_)
    rintro e w' ⟨rfl, rfl⟩
    go_wp2_with (go_at_call 36; refine (is_same t.f w).mono ?_)
    rintro e w' ⟨rfl, rfl⟩
    go_wp2
    go_ret
    exact ⟨rfl, rfl⟩
  | empty =>
    go_wp2_with (go_at_call 36; refine (is_other t.e t.w w HC.out.we.symm HC.out.be HC.out.bw).mono ?_)
    rintro e w' ⟨rfl, rfl⟩
    go_wp2_with (go_at_call 36; refine (is_other t.e t.f w HC.out.fe.symm HC.out.be HC.out.bf).mono ?_)
    rintro e w' ⟨rfl, rfl⟩
    go_wp2_with (go_at_call 36; refine (is_same t.e w).mono ?_)
    rintro e w' ⟨rfl, rfl⟩
    go_wp2
    go_ret
    exact ⟨rfl, rfl⟩

end Go.Proofs.YtbdhagilmdmpdaaDoor
