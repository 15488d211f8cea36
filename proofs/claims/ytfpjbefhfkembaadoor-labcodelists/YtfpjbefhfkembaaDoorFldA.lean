/- Merged texts: FldMath, FldSent, FldAs, FldErr, FldTold, FldJudge, FldFall -/
import GoSem.Claim
import Derived.Test.YtfpjbefhfkembaaDoorChecked
import Derived.WalkKit
import Derived.WalkSpells
import Derived.WalkLawsBesides
import Derived.Lib.Hide
import Derived.Deep.RegionWith
import Derived.BigCall
import Derived.RegionTactic
import Derived.LaidEql
import Derived.Stop.Asserts
import Derived.RowKitTokens
import Derived.Maps.OwnSet
import Derived.Maps.OwnOps
import Derived.Maps.Views
import Derived.RangeFuncNested
import Derived.RangeFuncBound
import Derived.RangeFuncCalls
import Derived.RangeFuncLeaves
import Derived.Shelf.Abstract
import Derived.Shelf.RegionOpen
import Derived.OwnWalkIn
import Derived.TacticsInMore
import Derived.LoopNIn
import Derived.LoopIn
/- Numbers and their bytes, the greatest one first: plain facts. -/
namespace Go.Proofs.Fld

/-- A string of some bytes. -/
def bs (l : List UInt8) : ByteArray := ⟨l.toArray⟩
theorem bs_size (l : List UInt8) : (bs l).size = l.length := by simp [bs, ByteArray.size]
theorem bs_inj {l m : List UInt8} (h : bs l = bs m) : l = m := by
  unfold bs at h
  injection h with h
  exact List.toArray_inj h
theorem bs_all (s : ByteArray) : s = bs s.data.toList := by
  obtain ⟨⟨l⟩⟩ := s
  rfl

/-- The k least bytes of n, the greatest first. -/
def enc : Nat → Nat → List UInt8
  | 0, _ => []
  | k + 1, n => UInt8.ofNat (n / 256 ^ k) :: enc k n
/-- The number of some bytes, behind a number. -/
def dec (acc : Nat) : List UInt8 → Nat
  | [] => acc
  | b :: r => dec (acc * 256 + b.toNat) r

theorem ofNat_toNat (n : Nat) : (UInt8.ofNat n).toNat = n % 256 := by simp
theorem enc_length (k n : Nat) : (enc k n).length = k := by
  induction k with
  | zero => rfl
  | succ k ih => simp [enc, ih]
theorem enc_get (k n j : Nat) (h : j < k) : (enc k n)[j]? = some (UInt8.ofNat (n / 256 ^ (k - 1 - j))) := by
  induction k generalizing j with
  | zero => omega
  | succ k ih =>
    cases j with
    | zero => simp [enc]
    | succ j =>
      simp only [enc, List.getElem?_cons_succ]
      rw [ih j (by omega)]
      congr 4
      omega
theorem dec_acc (acc : Nat) (l : List UInt8) : dec acc l = acc * 256 ^ l.length + dec 0 l := by
  induction l generalizing acc with
  | nil => simp [dec]
  | cons b r ih =>
    rw [dec, ih, dec, ih (0 * 256 + b.toNat), List.length_cons, Nat.pow_succ]
    have e : acc * (256 ^ r.length * 256) = acc * 256 * 256 ^ r.length := by rw [Nat.mul_comm (256 ^ r.length), Nat.mul_assoc]
    rw [Nat.add_mul, e, Nat.zero_mul, Nat.zero_add, Nat.add_assoc]
theorem dec_lt (l : List UInt8) : dec 0 l < 256 ^ l.length := by
  induction l with
  | nil => simp [dec]
  | cons b r ih =>
    rw [dec, dec_acc, List.length_cons, Nat.pow_succ]
    have hb : b.toNat < 256 := b.toNat_lt
    have h1 : (0 * 256 + b.toNat) * 256 ^ r.length ≤ 255 * 256 ^ r.length := Nat.mul_le_mul_right _ (by omega)
    have h2 : 256 ^ r.length * 256 = 255 * 256 ^ r.length + 256 ^ r.length := by omega
    omega
theorem enc_add (k a m : Nat) : enc k (a * 256 ^ k + m) = enc k m := by
  suffices h : ∀ j a, enc k (a * 256 ^ (k + j) + m) = enc k m from h 0 a
  induction k with
  | zero => intros; rfl
  | succ k ih =>
    intro j a
    have e : a * 256 ^ (k + 1 + j) = a * 256 ^ (k + (j + 1)) := by congr 2; omega
    rw [e]
    simp only [enc]
    rw [ih (j + 1) a]
    congr 1
    have e2 : a * 256 ^ (k + (j + 1)) = (a * 256 ^ j * 256) * 256 ^ k := by
      have : 256 ^ (k + (j + 1)) = 256 ^ j * 256 * 256 ^ k := by rw [show k + (j + 1) = j + 1 + k by omega, Nat.pow_add, Nat.pow_succ]
      rw [this, ← Nat.mul_assoc, ← Nat.mul_assoc]
    rw [e2, Nat.add_comm, Nat.add_mul_div_right _ _ (Nat.pow_pos (by decide))]
    apply UInt8.toNat_inj.1
    rw [ofNat_toNat, ofNat_toNat]
    omega
theorem dec_enc (k n : Nat) : dec 0 (enc k n) = n % 256 ^ k := by
  induction k with
  | zero => simp [enc, dec, Nat.mod_one]
  | succ k ih =>
    rw [enc, dec, dec_acc, enc_length, ih, ofNat_toNat, Nat.zero_mul, Nat.zero_add, Nat.pow_succ]
    have h := Nat.mod_mul (x := n) (a := 256 ^ k) (b := 256)
    rw [h, Nat.add_comm, Nat.mul_comm]
theorem dec_enc_lt {k n : Nat} (h : n < 256 ^ k) : dec 0 (enc k n) = n := by rw [dec_enc, Nat.mod_eq_of_lt h]
theorem enc_dec (l : List UInt8) : enc l.length (dec 0 l) = l := by
  induction l with
  | nil => rfl
  | cons b r ih =>
    rw [dec, dec_acc, List.length_cons, enc, enc_add, ih]
    congr 1
    apply UInt8.toNat_inj.1
    have hb : b.toNat < 256 := b.toNat_lt
    rw [ofNat_toNat, Nat.add_comm, Nat.add_mul_div_right _ _ (Nat.pow_pos (by decide)), Nat.div_eq_of_lt (dec_lt r)]
    omega
theorem enc_inj {k n m : Nat} (hn : n < 256 ^ k) (hm : m < 256 ^ k) (h : enc k n = enc k m) : n = m := by
  rw [← dec_enc_lt hn, ← dec_enc_lt hm, h]

/-- Bytes' order is the numbers' order. -/
theorem enc_less (k n m : Nat) (hn : n < 256 ^ k) (hm : m < 256 ^ k) : Op.bytesLess (enc k n) (enc k m) = decide (n < m) := by
  induction k generalizing n m with
  | zero => simp at hn hm; subst hn; subst hm; rfl
  | succ k ih =>
    have hp : 0 < 256 ^ k := Nat.pow_pos (by decide)
    have en : enc k n = enc k (n % 256 ^ k) := by
      conv => lhs; rw [← Nat.div_add_mod n (256 ^ k), Nat.mul_comm, enc_add]
    have em : enc k m = enc k (m % 256 ^ k) := by
      conv => lhs; rw [← Nat.div_add_mod m (256 ^ k), Nat.mul_comm, enc_add]
    have h1 : n / 256 ^ k < 256 := Nat.div_lt_of_lt_mul (by rw [Nat.pow_succ] at hn; omega)
    have h2 : m / 256 ^ k < 256 := Nat.div_lt_of_lt_mul (by rw [Nat.pow_succ] at hm; omega)
    have hi := ih (n % 256 ^ k) (m % 256 ^ k) (Nat.mod_lt _ hp) (Nat.mod_lt _ hp)
    have dn := Nat.div_add_mod n (256 ^ k)
    have dm := Nat.div_add_mod m (256 ^ k)
    have ln := Nat.mod_lt n hp
    have lm := Nat.mod_lt m hp
    rw [enc, enc, en, em]
    generalize n / 256 ^ k = qn at *
    generalize m / 256 ^ k = qm at *
    generalize n % 256 ^ k = rn at *
    generalize m % 256 ^ k = rm at *
    generalize 256 ^ k = p at *
    have a1 : (UInt8.ofNat qn).toNat = qn := by rw [ofNat_toNat]; omega
    have a2 : (UInt8.ofNat qm).toNat = qm := by rw [ofNat_toNat]; omega
    rcases Nat.lt_trichotomy qn qm with h | h | h
    · have hm' : p * (qn + 1) ≤ p * qm := Nat.mul_le_mul_left _ h
      rw [Nat.mul_succ] at hm'
      have e1 : UInt8.ofNat qn < UInt8.ofNat qm := by rw [UInt8.lt_iff_toNat_lt, a1, a2]; exact h
      have e2 : n < m := by omega
      simp [Op.bytesLess, e1, e2]
    · subst h
      have e1 : ¬ UInt8.ofNat qn < UInt8.ofNat qn := by rw [UInt8.lt_iff_toNat_lt]; omega
      have e2 : (n < m) = (rn < rm) := by apply propext; omega
      simp [Op.bytesLess, e1, hi, e2]
    · have hm' : p * (qm + 1) ≤ p * qn := Nat.mul_le_mul_left _ h
      rw [Nat.mul_succ] at hm'
      have e1 : ¬ UInt8.ofNat qn < UInt8.ofNat qm := by rw [UInt8.lt_iff_toNat_lt, a1, a2]; omega
      have e3 : UInt8.ofNat qm < UInt8.ofNat qn := by rw [UInt8.lt_iff_toNat_lt, a1, a2]; exact h
      have e2 : ¬ n < m := by omega
      have e4 : UInt8.ofNat qn ≠ UInt8.ofNat qm := by intro e; rw [e] at e3; exact absurd e3 (by rw [UInt8.lt_iff_toNat_lt]; omega)
      simp [Op.bytesLess, e1, e2, e4]

end Go.Proofs.Fld

/- The three sentinels, and errors.errorType's variable; what is kept of them. -/
namespace Go.Proofs.YtfpjbefhfkembaaDoor
open Go.RowKit

theorem below_more {n : Nat} {w w1 w2 : World} (h : Below n w w1) (k : Below w1.heap.size w1 w2) (hn : n ≤ w.heap.size := by exact Nat.le_refl _) : Below n w w2 := h.trans (k.mono (Nat.le_trans hn h.size))
theorem Below.new (w : World) (o : Obj) : Below w.heap.size w (w.alloc o) := (Below.refl _ w).alloc (Nat.le_refl _) _

/-- Where the three sentinels lie: no width, too few, too great. -/
structure Sn where
  w : Addr
  f : Addr
  g : Addr

def errV (a : Addr) : Value := .iface 161 (.pointer (some a))
def Blk0 (w : World) (a : Addr) : Prop := ∃ c t, w.heap[a.block]? = some (.cells c t (0, 0))
theorem Blk0.lt {w : World} {a : Addr} (h : Blk0 w a) : a.block < w.heap.size := by
  obtain ⟨c, t, h⟩ := h
  exact (Array.getElem?_eq_some_iff.1 h).1

structure Sent (s : Sn) (w : World) : Prop where
  cw : w.cell? ⟨6, 0, none⟩ = some (.iface 161 (.pointer (some s.w)))
  cf : w.cell? ⟨5, 0, none⟩ = some (.iface 161 (.pointer (some s.f)))
  cg : w.cell? ⟨7, 0, none⟩ = some (.iface 161 (.pointer (some s.g)))
  ct : w.cell? ⟨4, 0, none⟩ = some (.iface 131 (.agg #[.pointer (some ⟨8, 46, none⟩)]))
  bw : Blk0 w s.w
  bf : Blk0 w s.f
  bg : Blk0 w s.g
  wf : s.w ≠ s.f
  wg : s.w ≠ s.g
  fg : s.f ≠ s.g

theorem Sent.below {s : Sn} {n : Nat} {A B : World} (h : Sent s A) (hn : A.heap.size ≤ n) (hb : Below n A B) : Sent s B := by
  have l1 := World.block_lt_of_cell? A _ h.cw
  have l2 := World.block_lt_of_cell? A _ h.cf
  have l3 := World.block_lt_of_cell? A _ h.cg
  have l4 := World.block_lt_of_cell? A _ h.ct
  have k1 := h.bw.lt
  have k2 := h.bf.lt
  have k3 := h.bg.lt
  refine ⟨(hb.cell (p := ⟨6, 0, none⟩) (by simp at l1 ⊢; omega)).trans h.cw, (hb.cell (p := ⟨5, 0, none⟩) (by simp at l2 ⊢; omega)).trans h.cf, (hb.cell (p := ⟨7, 0, none⟩) (by simp at l3 ⊢; omega)).trans h.cg, (hb.cell (p := ⟨4, 0, none⟩) (by simp at l4 ⊢; omega)).trans h.ct, ?_, ?_, ?_, h.wf, h.wg, h.fg⟩
  · obtain ⟨c, t, e⟩ := h.bw
    exact ⟨c, t, (hb.block _ (by omega)).trans e⟩
  · obtain ⟨c, t, e⟩ := h.bf
    exact ⟨c, t, (hb.block _ (by omega)).trans e⟩
  · obtain ⟨c, t, e⟩ := h.bg
    exact ⟨c, t, (hb.block _ (by omega)).trans e⟩
theorem Sent.more {s : Sn} {A B : World} (h : Sent s A) (hb : Below A.heap.size A B) : Sent s B := h.below (Nat.le_refl _) hb
theorem Sent.alloc {s : Sn} {A : World} (h : Sent s A) (o : Obj) : Sent s (A.alloc o) := h.more (Below.new A o)

/-- A fault of so many bytes, for the reason at a. -/
def faultV (k : Int) (a : Addr) : Value := .iface 151 (.agg #[.int .i64 k, .iface 161 (.pointer (some a))])

end Go.Proofs.YtfpjbefhfkembaaDoor

/- errors.As at the one target, a variable of type field.fault: nil, and a fault. -/
namespace Go.Proofs.YtfpjbefhfkembaaDoor
open Go.RowKit Go.Extern.Stop Go.Stop Go.Extern

/-- errors.As(nil, target). -/
theorem as_nil (t : Value) (w : World) :
    Calls Tryd.prog 42 #[.nilIface, t] w fun e w' => e = .returned (.bool false) ∧ w = w' := by
  go_enter Tryd.func42, Tryd.ntmps42
  go_wp2
  go_ret
  exact ⟨rfl, rfl⟩

theorem asV (t : Addr) (w : World) : (ReflectliteValue.unpack (.iface 152 (.pointer (some t)))).run Tryd.prog w
    = .ok (.agg #[.pointer (some ⟨8, 152, none⟩), .pointer (some ⟨w.heap.size, 0, none⟩), .int .u64 150]) (w.alloc (.cells #[.pointer (some t)] 152)) := by kernel_rfl
theorem asT (a : Addr) (w : World) : (ReflectliteValue.methodAny (ReflectliteValue.valueError "reflectlite.Value.Type" 0) (fun t _ _ _ => ReflectliteType.toType t) #[.agg #[.pointer (some ⟨8, 152, none⟩), .pointer (some a), .int .u64 150]]).run Tryd.prog w
    = .ok (.iface 131 (.agg #[.pointer (some ⟨8, 152, none⟩)])) w := by kernel_rfl
theorem asMK (h : Value) (w : World) : (Go.method 294 131 (.agg #[h]) "Kind").run Tryd.prog w = .ok (96, h) w := by kernel_rfl
theorem asKp (w : World) : ((ReflectliteType.abiMethod fun t => (fun a : Nat => Value.int IntKind.u8 (a : Int)) <$> Rtype.kind t) #[.pointer (some ⟨8, 152, none⟩)]).run Tryd.prog w = .ok (.int .u8 22) w := by kernel_rfl
theorem asKs (w : World) : ((ReflectliteType.abiMethod fun t => (fun a : Nat => Value.int IntKind.u8 (a : Int)) <$> Rtype.kind t) #[.pointer (some ⟨8, 151, none⟩)]).run Tryd.prog w = .ok (.int .u8 25) w := by kernel_rfl

theorem asPartsP (a : Addr) (w : World) : (ReflectliteValue.parts (.agg #[.pointer (some ⟨8, 152, none⟩), .pointer (some a), .int .u64 150])).run Tryd.prog w = .ok (some (152, a, 150)) w := by kernel_rfl
theorem asIsNil (a p : Addr) (W : World) (ha : W.cell? a = some (.pointer (some p))) :
    (ReflectliteValue.method (ReflectliteValue.valueError "reflectlite.Value.IsNil" 0) ReflectliteValue.isNil #[.agg #[.pointer (some ⟨8, 152, none⟩), .pointer (some a), .int .u64 150]]).run Tryd.prog W = .ok (.bool false) W := by
  show (ReflectliteValue.parts (.agg #[.pointer (some ⟨8, 152, none⟩), .pointer (some a), .int .u64 150]) >>= _ : Sem Value).run Tryd.prog W = _
  simp only [Sem.run_bind, asPartsP, Result.andThen]
  simp [ReflectliteValue.isNil, loadVar, isAgg, underlying, Tryd.underlying152, ha, Result.andThen]
theorem asME (h : Value) (w : World) : (Go.method 294 131 (.agg #[h]) "Elem").run Tryd.prog w = .ok (111, .agg #[h]) w := by kernel_rfl
theorem asMI (h : Value) (w : World) : (Go.method 294 131 (.agg #[h]) "Implements").run Tryd.prog w = .ok (112, .agg #[h]) w := by kernel_rfl
theorem asMA (h : Value) (w : World) : (Go.method 294 131 (.agg #[h]) "AssignableTo").run Tryd.prog w = .ok (109, .agg #[h]) w := by kernel_rfl
theorem asElemT (w : World) : (ReflectliteType.method ReflectliteType.elem #[.agg #[.pointer (some ⟨8, 152, none⟩)]]).run Tryd.prog w = .ok (.iface 131 (.agg #[.pointer (some ⟨8, 151, none⟩)])) w := by kernel_rfl
theorem asImpl (w : World) : (ReflectliteType.relation "Implements" ReflectliteType.implements_ #[.agg #[.pointer (some ⟨8, 151, none⟩)], .iface 131 (.agg #[.pointer (some ⟨8, 46, none⟩)])]).run Tryd.prog w = .ok (.bool true) w := by kernel_rfl
theorem asTypeOf (v : Value) (w : World) : (ReflectliteType.typeOf #[.iface 151 v]).run Tryd.prog w = .ok (.iface 131 (.agg #[.pointer (some ⟨8, 151, none⟩)])) w := by kernel_rfl
theorem asAssign (w : World) : (ReflectliteType.relation "AssignableTo" ReflectliteType.assignableTo #[.agg #[.pointer (some ⟨8, 151, none⟩)], .iface 131 (.agg #[.pointer (some ⟨8, 151, none⟩)])]).run Tryd.prog w = .ok (.bool true) w := by kernel_rfl
theorem asVs (l c : Value) (w : World) : (ReflectliteValue.unpack (.iface 151 (.agg #[l, c]))).run Tryd.prog w
    = .ok (.agg #[.pointer (some ⟨8, 151, none⟩), .pointer (some ⟨w.heap.size, 0, none⟩), .int .u64 153]) (w.alloc (.cells #[l, c] 151)) := by kernel_rfl
theorem asElemOf (w : World) : (Rtype.elem? 152).run Tryd.prog w = .ok (some 151) w := by kernel_rfl
theorem asMk (p : Addr) (w : World) : (ReflectliteValue.mk 151 p ReflectliteValue.flagAddr).run Tryd.prog w = .ok (.agg #[.pointer (some ⟨8, 151, none⟩), .pointer (some p), .int .u64 409]) w := by kernel_rfl
theorem asElemV (a p : Addr) (W : World) (ha : W.cell? a = some (.pointer (some p))) :
    (ReflectliteValue.method (ReflectliteValue.valueError "reflectlite.Value.Elem" 0) ReflectliteValue.elem #[.agg #[.pointer (some ⟨8, 152, none⟩), .pointer (some a), .int .u64 150]]).run Tryd.prog W
      = .ok (.agg #[.pointer (some ⟨8, 151, none⟩), .pointer (some p), .int .u64 409]) W := by
  show (ReflectliteValue.parts (.agg #[.pointer (some ⟨8, 152, none⟩), .pointer (some a), .int .u64 150]) >>= _ : Sem Value).run Tryd.prog W = _
  simp only [Sem.run_bind, asPartsP, Result.andThen]
  simp [ReflectliteValue.elem, loadVar, isAgg, underlying, Tryd.underlying152, ha, Result.andThen, asElemOf, asMk]
theorem asPartsA (a : Addr) (w : World) : (ReflectliteValue.parts (.agg #[.pointer (some ⟨8, 151, none⟩), .pointer (some a), .int .u64 409])).run Tryd.prog w = .ok (some (151, a, 409)) w := by kernel_rfl
theorem asPartsS (a : Addr) (w : World) : (ReflectliteValue.parts (.agg #[.pointer (some ⟨8, 151, none⟩), .pointer (some a), .int .u64 153])).run Tryd.prog w = .ok (some (151, a, 153)) w := by kernel_rfl
theorem asDirect (w : World) : (Rtype.directlyAssignable 151 151).run Tryd.prog w = .ok true w := by kernel_rfl
theorem asSize (w : World) : (sizeOf 151).run Tryd.prog w = .ok 2 w := by kernel_rfl


/-- (Value).Set: the variable at block t gets what the Value's own variable at block b holds. -/
theorem asSet (t b : Nat) (l : Int) (ty : TypeId) (c o0 o1 : Value) (W : World) (h0 : W.cell? ⟨b, 0, none⟩ = some (.int .i64 l)) (h1 : W.cell? ⟨b, 1, none⟩ = some (.iface ty c))
    (t0 : W.cell? ⟨t, 0, none⟩ = some o0) (t1 : W.cell? ⟨t, 1, none⟩ = some o1)
    (f0 : W.frozen? ⟨t, 0, none⟩ = false) (f1 : W.frozen? ⟨t, 1, none⟩ = false) :
    (ReflectliteValue.set #[.agg #[.pointer (some ⟨8, 151, none⟩), .pointer (some ⟨t, 0, none⟩), .int .u64 409], .agg #[.pointer (some ⟨8, 151, none⟩), .pointer (some ⟨b, 0, none⟩), .int .u64 153]]).run Tryd.prog W
      = .ok (.tuple #[]) ((W.setCell ⟨t, 0, none⟩ (.int .i64 l)).setCell ⟨t, 1, none⟩ (.iface ty c)) := by
  have u1 : (W.setCell ⟨t, 0, none⟩ (.int .i64 l)).cell? ⟨t, 1, none⟩ = some o1 := (World.cell?_setCell_other _ _ _ _ (by simp)).trans t1
  have hl := run_loadCells_list (P := Tryd.prog) W ⟨b, 0, none⟩ [.int .i64 l, .iface ty c] (fun j v hj => by
    match j with
    | 0 => obtain rfl := Option.some.inj hj; exact h0
    | 1 => obtain rfl := Option.some.inj hj; exact h1
    | n + 2 => simp at hj)
  simp only [List.length_cons, List.length_nil, Nat.reduceAdd] at hl
  show (ReflectliteValue.parts (.agg #[.pointer (some ⟨8, 151, none⟩), .pointer (some ⟨t, 0, none⟩), .int .u64 409]) >>= fun _ => ReflectliteValue.parts (.agg #[.pointer (some ⟨8, 151, none⟩), .pointer (some ⟨b, 0, none⟩), .int .u64 153]) >>= fun _ => _ : Sem Value).run Tryd.prog W = _
  simp only [Sem.run_bind, asPartsA, asPartsS, Result.andThen]
  simp [ReflectliteValue.flagAddr, loadVar, isAgg, underlying, Tryd.underlying151, hl, Result.andThen, asDirect, storeVar, Value.cells, storeCells, Addr.add]
  rw [run_store_int]
  simp [stored, t0, f0]
  rw [run_store _ _ _ (.iface ty c) _ rfl]
  simp [u1, f1, World.frozen?_setCell]

set_option maxRecDepth 100000 in
set_option maxHeartbeats 4000000 in
theorem as_hit (l : Int) (ty : TypeId) (c : Value) (t : Nat) (o0 o1 : Value) (w : World) (hg : w.cell? ⟨4, 0, none⟩ = some (.iface 131 (.agg #[.pointer (some ⟨8, 46, none⟩)])))
    (t0 : w.cell? ⟨t, 0, none⟩ = some o0) (t1 : w.cell? ⟨t, 1, none⟩ = some o1)
    (f0 : w.frozen? ⟨t, 0, none⟩ = false) (f1 : w.frozen? ⟨t, 1, none⟩ = false) :
    Calls Tryd.prog 42 #[.iface 151 (.agg #[.int .i64 l, .iface ty c]), .iface 152 (.pointer (some ⟨t, 0, none⟩))] w fun ev w' => ev = .returned (.bool true) ∧ w'.cell? ⟨t, 0, none⟩ = some (.int .i64 l) ∧ w'.cell? ⟨t, 1, none⟩ = some (.iface ty c) ∧ Below t w w' := by
  have h6 := @run_callFunc_extern Tryd.prog 57 _ (fun args => ReflectliteValue.unpack (args.getD 0 (.tuple #[]))) Tryd.func57 (by kernel_rfl) (by kernel_rfl) (by kernel_rfl) (by kernel_rfl)
  have h7 := @run_callFunc_extern Tryd.prog 58 _ (ReflectliteValue.methodAny (ReflectliteValue.valueError "reflectlite.Value.Type" 0) (fun t _ _ _ => ReflectliteType.toType t)) Tryd.func58 (by kernel_rfl) (by kernel_rfl) (by kernel_rfl) (by kernel_rfl)
  have h8 := @run_callFunc_extern Tryd.prog 59 _ (ReflectliteValue.method (ReflectliteValue.valueError "reflectlite.Value.IsNil" 0) ReflectliteValue.isNil) Tryd.func59 (by kernel_rfl) (by kernel_rfl) (by kernel_rfl) (by kernel_rfl)
  have h27 := @run_callFunc_extern Tryd.prog 96 _ (ReflectliteType.abiMethod fun t => do pure (.int .u8 (← Rtype.kind t))) Tryd.func96 (by kernel_rfl) (by kernel_rfl) (by kernel_rfl) (by kernel_rfl)
  have h37 := @run_callFunc_extern Tryd.prog 111 _ (ReflectliteType.method ReflectliteType.elem) Tryd.func111 (by kernel_rfl) (by kernel_rfl) (by kernel_rfl) (by kernel_rfl)
  have h38 := @run_callFunc_extern Tryd.prog 112 _ (ReflectliteType.relation "Implements" ReflectliteType.implements_) Tryd.func112 (by kernel_rfl) (by kernel_rfl) (by kernel_rfl) (by kernel_rfl)
  have h10 := @run_callFunc_extern Tryd.prog 61 _ ReflectliteType.typeOf Tryd.func61 (by kernel_rfl) (by kernel_rfl) (by kernel_rfl) (by kernel_rfl)
  have h35 := @run_callFunc_extern Tryd.prog 109 _ (ReflectliteType.relation "AssignableTo" ReflectliteType.assignableTo) Tryd.func109 (by kernel_rfl) (by kernel_rfl) (by kernel_rfl) (by kernel_rfl)
  have h11 := @run_callFunc_extern Tryd.prog 72 _ (ReflectliteValue.method (ReflectliteValue.valueError "reflectlite.Value.Elem" 0) ReflectliteValue.elem) Tryd.func72 (by kernel_rfl) (by kernel_rfl) (by kernel_rfl) (by kernel_rfl)
  have h12 := @run_callFunc_extern Tryd.prog 73 _ ReflectliteValue.set Tryd.func73 (by kernel_rfl) (by kernel_rfl) (by kernel_rfl) (by kernel_rfl)
  have tO := asTypeOf
  have mA := asMA
  have a25 := asAssign
  have v25 := asVs (.int .i64 l) (.iface ty c)
  have f6 := asV
  have f7 := asT
  have mK := asMK
  have mE := asME
  have mI := asMI
  have k27 := asKp
  have k25 := asKs
  have e27 := asElemT
  have i25 := asImpl
  have hlt : 4 < w.heap.size := World.block_lt_of_cell? w _ hg
  have htl : t < w.heap.size := World.block_lt_of_cell? w _ t0
  have hB2 : Below w.heap.size w ((w.alloc (.cells #[.pointer (some ⟨t, 0, none⟩)] 152)).alloc (.cells #[.pointer (some ⟨8, 152, none⟩), .pointer (some ⟨w.heap.size, 0, none⟩), .int .u64 150] 105)) := ((Below.refl _ w).alloc (Nat.le_refl _) _).alloc (by simp) _
  have hB4 := ((hB2.alloc (by simp; omega) (.cells #[.pointer (some ⟨8, 152, none⟩), .pointer (some ⟨w.heap.size, 0, none⟩), .int .u64 150] 105)).alloc (by simp; omega) (.cells #[.int .i64 l, .iface ty c] 151))
  have n8 := asIsNil ⟨w.heap.size, 0, none⟩ ⟨t, 0, none⟩ ((w.alloc (.cells #[.pointer (some ⟨t, 0, none⟩)] 152)).alloc (.cells #[.pointer (some ⟨8, 152, none⟩), .pointer (some ⟨w.heap.size, 0, none⟩), .int .u64 150] 105)) (by simp)
  have hg2 := (hB2.cell (p := ⟨4, 0, none⟩) hlt).trans hg
  have el := asElemV ⟨w.heap.size, 0, none⟩ ⟨t, 0, none⟩ (((w.alloc (.cells #[.pointer (some ⟨t, 0, none⟩)] 152)).alloc (.cells #[.pointer (some ⟨8, 152, none⟩), .pointer (some ⟨w.heap.size, 0, none⟩), .int .u64 150] 105)).alloc (.cells #[.pointer (some ⟨8, 152, none⟩), .pointer (some ⟨w.heap.size, 0, none⟩), .int .u64 150] 105)) (by rw [World.cell?_alloc_lt _ _ ⟨w.heap.size, 0, none⟩ (by simp; omega)]; simp)
  have st := asSet t (w.heap.size + 1 + 1 + 1) l ty c o0 o1 _ (by rw [World.cell?_alloc_at _ _ _ _ (by simp)]; rfl) (by rw [World.cell?_alloc_at _ _ _ _ (by simp)]; rfl)
    ((hB4.cell (p := ⟨t, 0, none⟩) htl).trans t0) ((hB4.cell (p := ⟨t, 1, none⟩) htl).trans t1)
    ((hB4.frozen (p := ⟨t, 0, none⟩) htl).trans f0) ((hB4.frozen (p := ⟨t, 1, none⟩) htl).trans f1)
  go_enter Tryd.func42, Tryd.ntmps42
  go_wp2
  refine wp_loop_rounds 1 ?_
  rw [rounds_succ]
  go_wp2
  go_ret
  have k0 := (hB4.cell (p := ⟨t, 0, none⟩) htl).trans t0
  have k1 := (hB4.cell (p := ⟨t, 1, none⟩) htl).trans t1
  generalize hW4 : World.alloc (World.alloc (World.alloc (World.alloc w _) _) _) _ = W4 at hB4 k0 k1 ⊢
  refine ⟨rfl, ?_, ?_, ((hB4.mono (Nat.le_of_lt htl)).setCell (p := ⟨t, 0, none⟩) (Nat.le_refl _) _).setCell (p := ⟨t, 1, none⟩) (Nat.le_refl _) _⟩
  · rw [World.cell?_setCell_other _ _ _ _ (by simp)]
    exact World.cell?_setCell_same' _ _ _ (by rw [k0]; rfl)
  · exact World.cell?_setCell_same' _ _ _ (by rw [World.cell?_setCell_other _ _ _ _ (by simp), k1]; rfl)
end Go.Proofs.YtfpjbefhfkembaaDoor

/- errors.Is at a fault, and what callers are told. -/
namespace Go.Proofs.YtfpjbefhfkembaaDoor
open Go.RowKit Go.Extern.Stop Go.Stop Go.Extern

theorem isTypeOf (v : Value) (w : World) : (Extern.ReflectliteType.typeOf #[.iface 161 v]).run Tryd.prog w = .ok (.iface 131 (.agg #[.pointer (some ⟨8, 161, none⟩)])) w := by kernel_rfl
noncomputable def cmpE : Array Value → Sem Value := (Extern.find Tryd.f110).getD fun _ => pure .nilIface
theorem isComparable (w : World) : (cmpE #[.agg #[.pointer (some ⟨8, 161, none⟩)]]).run Tryd.prog w = .ok (.bool true) w := by kernel_rfl
theorem isMethodComparable (v : Value) (w : World) : (Go.method 294 131 v "Comparable").run Tryd.prog w = .ok (110, v) w := by kernel_rfl
theorem isComp : (Tryd.prog.info? 161).map (·.comparable) = some true := by kernel_rfl
theorem isSize : (Tryd.prog.info? 182).map (·.size) = some 1 := by kernel_rfl
theorem noIsF (v : Value) (xT : TypeId) (w : World) : (Instr.typeAssert (.iface 151 v) xT 142 true).run Tryd.prog w = .ok (.tuple #[.nilIface, .bool false]) w := run_typeAssert_lacksB Tryd.underlying142 (by kernel_rfl) (by kernel_rfl) v xT w
theorem hasUnF (v : Value) (xT : TypeId) (w : World) : (Instr.typeAssert (.iface 151 v) xT 138 true).run Tryd.prog w = .ok (.tuple #[.iface 151 v, .bool true]) w := run_typeAssert_hasB Tryd.underlying138 (by kernel_rfl) v xT w
theorem noIsE (v : Value) (xT : TypeId) (w : World) : (Instr.typeAssert (.iface 161 v) xT 142 true).run Tryd.prog w = .ok (.tuple #[.nilIface, .bool false]) w := run_typeAssert_lacksB Tryd.underlying142 (by kernel_rfl) (by kernel_rfl) v xT w
theorem noUnE (v : Value) (xT : TypeId) (w : World) : (Instr.typeAssert (.iface 161 v) xT 138 true).run Tryd.prog w = .ok (.tuple #[.nilIface, .bool false]) w := run_typeAssert_lacksB Tryd.underlying138 (by kernel_rfl) (by kernel_rfl) v xT w
theorem noUnsE (v : Value) (xT : TypeId) (w : World) : (Instr.typeAssert (.iface 161 v) xT 139 true).run Tryd.prog w = .ok (.tuple #[.nilIface, .bool false]) w := run_typeAssert_lacksB Tryd.underlying139 (by kernel_rfl) (by kernel_rfl) v xT w
theorem eqFE (v u : Value) (w : World) : (binOp .eql 46 (.iface 151 v) (.iface 161 u)).run Tryd.prog w = .ok (.bool false) w := by kernel_rfl
theorem isMU (v : Value) (w : World) : (Go.method 294 151 v "Unwrap").run Tryd.prog w = .ok (120, v) w := by kernel_rfl

set_option maxHeartbeats 400000 in
theorem unwrap_any (k : Int) (t : TypeId) (v : Value) (w : World) :
    Calls Tryd.prog 120 #[.agg #[.int .i64 k, .iface t v]] w fun e w' => e = .returned (.iface t v) ∧ Below w.heap.size w w' := by
  go_enter Tryd.func120, Tryd.ntmps120
  go_wp2
  go_ret
  exact ⟨rfl, Below.new _ _⟩

set_option maxRecDepth 100000 in
set_option maxHeartbeats 2000000 in
theorem is_hit (k : Int) (a : Addr) (w : World) :
    Calls Tryd.prog 43 #[.iface 151 (.agg #[.int .i64 k, .iface 161 (.pointer (some a))]), .iface 161 (.pointer (some a))] w fun e w' => e = .returned (.bool true) ∧ Below w.heap.size w w' := by
  obtain ⟨i, hi, hcmp⟩ := Option.map_eq_some_iff.1 isComp
  obtain ⟨j, hj, hjs⟩ := Option.map_eq_some_iff.1 isSize
  have h8 := @run_callFunc_extern Tryd.prog 61 _ Extern.ReflectliteType.typeOf Tryd.func61 (by kernel_rfl) (by kernel_rfl) (by kernel_rfl) (by kernel_rfl)
  have h32 := @run_callFunc_extern Tryd.prog 110 _ cmpE Tryd.func110 (by kernel_rfl) (by kernel_rfl) (by kernel_rfl) (by kernel_rfl)
  have tT := isTypeOf
  have cT := isComparable
  have mR := isMethodComparable
  have mU := isMU
  have t1 := noIsF
  have t2 := hasUnF
  have e1 := eqFE
  have heq := fun w => run_eql_iface_ptr_same (P := Tryd.prog) w a Tryd.underlying46 Tryd.underlying161 hi hcmp hj
  go_enter Tryd.func43, Tryd.ntmps43
  go_wp2
  refine wp_loop_rounds 2 ?_
  rw [rounds_succ]
  go_wp2_with (go_at_call 120; refine (unwrap_any _ _ _ _).mono ?_)
  rintro e w1 ⟨rfl, b1⟩
  go_wp2
  rw [rounds_succ]
  go_wp2
  go_ret
  exact ⟨rfl, b1⟩

set_option maxRecDepth 100000 in
set_option maxHeartbeats 2000000 in
theorem is_miss (k : Int) (a b : Addr) (w : World) (hne : a ≠ b) (ha : Blk0 w a) (hb : Blk0 w b) :
    Calls Tryd.prog 43 #[.iface 151 (.agg #[.int .i64 k, .iface 161 (.pointer (some a))]), .iface 161 (.pointer (some b))] w fun e w' => e = .returned (.bool false) ∧ Below w.heap.size w w' := by
  obtain ⟨i, hi, hcmp⟩ := Option.map_eq_some_iff.1 isComp
  obtain ⟨j, hj, hjs⟩ := Option.map_eq_some_iff.1 isSize
  have h8 := @run_callFunc_extern Tryd.prog 61 _ Extern.ReflectliteType.typeOf Tryd.func61 (by kernel_rfl) (by kernel_rfl) (by kernel_rfl) (by kernel_rfl)
  have h32 := @run_callFunc_extern Tryd.prog 110 _ cmpE Tryd.func110 (by kernel_rfl) (by kernel_rfl) (by kernel_rfl) (by kernel_rfl)
  have tT := isTypeOf
  have cT := isComparable
  have mR := isMethodComparable
  have mU := isMU
  have t1 := noIsF
  have t2 := hasUnF
  have t3 := noIsE
  have t4 := noUnE
  have t5 := noUnsE
  have e1 := eqFE
  have la := ha.lt
  have lb := hb.lt
  obtain ⟨ca, ta, ha⟩ := ha
  obtain ⟨cb, tb, hb⟩ := hb
  go_enter Tryd.func43, Tryd.ntmps43
  go_wp2
  refine wp_loop_rounds 2 ?_
  rw [rounds_succ]
  go_wp2_with (go_at_call 120; refine (unwrap_any _ _ _ _).mono ?_)
  rintro e w1 ⟨rfl, b1⟩
  have heq := run_eql_iface_ptr_other (P := Tryd.prog) w1 Tryd.underlying46 Tryd.underlying161 hi hcmp hj (by rw [hjs]; decide) hne ((b1.block _ la).trans ha) ((b1.block _ lb).trans hb)
  go_wp2
  rw [rounds_succ]
  go_wp2
  go_ret
  exact ⟨rfl, b1⟩

end Go.Proofs.YtfpjbefhfkembaaDoor

/- What callers are told. -/
namespace Go.Proofs.YtfpjbefhfkembaaDoor
open Go.RowKit

theorem as_nil_any (t : Value) (w : World) : Calls Tryd.prog 42 #[.nilIface, t] w fun e w' => e = .returned (.bool false) ∧ Below w.heap.size w w' :=
  (as_nil t w).mono fun _ _ ⟨h, hw⟩ => ⟨h, hw ▸ Below.refl _ _⟩

set_option maxHeartbeats 1000000 in
theorem told_nil (w : World) : Calls Tryd.prog 66 #[.nilIface] w fun e w' => e = .returned (.int .i64 0) ∧ Below w.heap.size w w' := by
  go_enter Tryd.func66, Tryd.ntmps66
  go_wp2_with (go_at_call 42; refine (as_nil_any _ _).mono ?_)
  rintro e w1 ⟨rfl, b1⟩
  go_wp2
  go_ret
  exact ⟨rfl, below_more (Below.new _ _) b1⟩

theorem new2 (w : World) (v0 v1 : Value) (t : TypeId) : (w.alloc (.cells #[v0, v1] t)).cell? ⟨w.heap.size, 0, none⟩ = some v0 ∧ (w.alloc (.cells #[v0, v1] t)).cell? ⟨w.heap.size, 1, none⟩ = some v1 ∧
    (w.alloc (.cells #[v0, v1] t)).frozen? ⟨w.heap.size, 0, none⟩ = false ∧ (w.alloc (.cells #[v0, v1] t)).frozen? ⟨w.heap.size, 1, none⟩ = false := by
  refine ⟨?_, ?_, ?_, ?_⟩
  · rw [World.cell?_alloc_at _ _ _ _ rfl]; rfl
  · rw [World.cell?_alloc_at _ _ _ _ rfl]; rfl
  · simp
  · simp

set_option maxHeartbeats 1000000 in
theorem told_w (s : Sn) (k : Int) (w : World) (hs : Sent s w) : Calls Tryd.prog 66 #[faultV k s.w] w fun e w' => e = .returned (.int .i64 2) ∧ Below w.heap.size w w' := by
  unfold faultV
  obtain ⟨n0, n1, n2, n3⟩ := new2 w (.int .i64 0) .nilIface 151
  have s1 := Lib.hid (hs.alloc (.cells #[.int .i64 0, .nilIface] 151))
  go_enter Tryd.func66, Tryd.ntmps66
  go_wp2_with (go_at_call 42; refine (as_hit k 161 (.pointer (some s.w)) w.heap.size _ _ _ s1.out.ct n0 n1 n2 n3).mono ?_)
  rintro e w1 ⟨rfl, c0, c1, b1⟩
  have b2 : Below w.heap.size w w1 := (Below.new w _).trans b1
  have g1 := (hs.more b2).cw
  clear n0 n1 n2 n3 s1
  go_wp2_with (go_at_call 43; refine (is_hit k s.w w1).mono ?_)
  rintro e w2 ⟨rfl, b3⟩
  go_wp2
  go_ret
  exact ⟨rfl, below_more b2 b3⟩

set_option maxHeartbeats 1000000 in
theorem told_f (s : Sn) (k : Int) (w : World) (hs : Sent s w) : Calls Tryd.prog 66 #[faultV k s.f] w fun e w' => e = .returned (.int .i64 30) ∧ Below w.heap.size w w' := by
  unfold faultV
  obtain ⟨n0, n1, n2, n3⟩ := new2 w (.int .i64 0) .nilIface 151
  have s1 := Lib.hid (hs.alloc (.cells #[.int .i64 0, .nilIface] 151))
  go_enter Tryd.func66, Tryd.ntmps66
  go_wp2_with (go_at_call 42; refine (as_hit k 161 (.pointer (some s.f)) w.heap.size _ _ _ s1.out.ct n0 n1 n2 n3).mono ?_)
  rintro e w1 ⟨rfl, c0, c1, b1⟩
  have b2 : Below w.heap.size w w1 := (Below.new w _).trans b1
  have s2 := hs.more b2
  have l1 : w.heap.size < w1.heap.size := World.block_lt_of_cell? w1 _ c0
  have g1 := s2.cw
  have S2 := Lib.hid s2
  clear n0 n1 n2 n3 s1 s2
  go_wp2_with (go_at_call 43; refine (is_miss k s.f s.w w1 (Ne.symm S2.out.wf) S2.out.bf S2.out.bw).mono ?_)
  rintro e w2 ⟨rfl, b3⟩
  have d0 := (b3.cell (p := ⟨w.heap.size, 0, none⟩) l1).trans c0
  have d1 := (b3.cell (p := ⟨w.heap.size, 1, none⟩) l1).trans c1
  have g2 := (S2.out.more b3).cf
  clear c0 c1 g1
  go_wp2_with (go_at_call 43; refine (is_hit k s.f w2).mono ?_)
  rintro e w3 ⟨rfl, b4⟩
  go_wp2
  go_ret
  exact ⟨rfl, below_more (below_more b2 b3) b4⟩

set_option maxHeartbeats 1000000 in
theorem told_g (s : Sn) (k : Int) (w : World) (hs : Sent s w) : Calls Tryd.prog 66 #[faultV k s.g] w fun e w' => e = .returned (.int .i64 31) ∧ Below w.heap.size w w' := by
  unfold faultV
  obtain ⟨n0, n1, n2, n3⟩ := new2 w (.int .i64 0) .nilIface 151
  have s1 := Lib.hid (hs.alloc (.cells #[.int .i64 0, .nilIface] 151))
  go_enter Tryd.func66, Tryd.ntmps66
  go_wp2_with (go_at_call 42; refine (as_hit k 161 (.pointer (some s.g)) w.heap.size _ _ _ s1.out.ct n0 n1 n2 n3).mono ?_)
  rintro e w1 ⟨rfl, c0, c1, b1⟩
  have b2 : Below w.heap.size w w1 := (Below.new w _).trans b1
  have s2 := hs.more b2
  have l1 : w.heap.size < w1.heap.size := World.block_lt_of_cell? w1 _ c0
  have g1 := s2.cw
  have S2 := Lib.hid s2
  clear n0 n1 n2 n3 s1 s2
  go_wp2_with (go_at_call 43; refine (is_miss k s.g s.w w1 (Ne.symm S2.out.wg) S2.out.bg S2.out.bw).mono ?_)
  rintro e w2 ⟨rfl, b3⟩
  have d0 := (b3.cell (p := ⟨w.heap.size, 0, none⟩) l1).trans c0
  have d1 := (b3.cell (p := ⟨w.heap.size, 1, none⟩) l1).trans c1
  have S3 := Lib.hid (S2.out.more b3)
  have g2 := S3.out.cf
  clear c0 c1 g1
  go_wp2_with (go_at_call 43; refine (is_miss k s.g s.f w2 (Ne.symm S3.out.fg) S3.out.bg S3.out.bf).mono ?_)
  rintro e w3 ⟨rfl, b4⟩
  go_wp2
  go_ret
  exact ⟨rfl, below_more (below_more b2 b3) b4⟩

/-- What callers are told, by what went wrong: 0 nothing, 2 no width, 30 too few, else too great. -/
inductive ErrIs (s : Sn) : Value → Int → Prop
  | ok : ErrIs s .nilIface 0
  | width (k : Int) : ErrIs s (faultV k s.w) 2
  | few (k : Int) : ErrIs s (faultV k s.f) 30
  | great (k : Int) : ErrIs s (faultV k s.g) 31

theorem told_any (s : Sn) {v : Value} {c : Int} (h : ErrIs s v c) (w : World) (hs : Sent s w) : Calls Tryd.prog 66 #[v] w fun e w' => e = .returned (.int .i64 c) ∧ Below w.heap.size w w' := by
  cases h with
  | ok => exact told_nil w
  | width k => exact told_w s k w hs
  | few k => exact told_f s k w hs
  | great k => exact told_g s k w hs

end Go.Proofs.YtfpjbefhfkembaaDoor

/- The widths' map, and the judge. -/
namespace Go.Proofs.YtfpjbefhfkembaaDoor
open Go.RowKit Go.Maps

theorem lawI : Keyed Tryd.prog 3 := int_keyed Tryd.underlying3
theorem zeroU (w : World) : (zeroValue 22).run Tryd.prog w = .ok (.int .u64 0) w := by kernel_rfl

def gD : DataW Unit := ((((DataW.map []).put (.int .i64 1) (.lit (.int .u64 255))).put (.int .i64 2) (.lit (.int .u64 65535))).put (.int .i64 4) (.lit (.int .u64 4294967295))).put (.int .i64 8) (.lit (.int .u64 18446744073709551615))

/-- The widths. -/
def isW (k : Int) : Prop := k = 1 ∨ k = 2 ∨ k = 4 ∨ k = 8
instance (k : Int) : Decidable (isW k) := inferInstanceAs (Decidable (_ ∨ _))

theorem gD_has (k : Int) : Maps.has gD (.int .i64 k) = decide (isW k) := by
  by_cases h1 : k = 1
  · subst h1; decide
  by_cases h2 : k = 2
  · subst h2; decide
  by_cases h4 : k = 4
  · subst h4; decide
  by_cases h8 : k = 8
  · subst h8; decide
  have e : decide (isW k) = false := by simp [isW, h1, h2, h4, h8]
  rw [e]
  unfold gD
  rw [has_put_other (by simp [h8]), has_put_other (by simp [h4]), has_put_other (by simp [h2]), has_put_other (by simp [h1])]
  rfl

set_option maxHeartbeats 1000000 in
theorem greatest_any (w : World) :
    Calls Tryd.prog 77 #[] w fun e w' => e = .returned (.map (some w.heap.size)) ∧ w'.ownsMap Tryd.prog 3 (plainElem (H := Unit) Tryd.prog 22) w.heap.size 4 gD ∧ Below w.heap.size w w' := by
  have hmm := @run_makeMap Tryd.prog
  have o0 := World.ownsMap_made w Tryd.prog 3 (plainElem (H := Unit) Tryd.prog 22)
  obtain ⟨w1, r1, o1, m1⟩ := o0.store lawI Tryd.underlying155 (by unfold maxLen; omega) (keyOf_int_mk Tryd.underlying3 (a := 1) (by decide)) (plainElem_int Tryd.underlying22 (a := 255) (by decide))
  obtain ⟨w2, r2, o2, m2⟩ := o1.store lawI Tryd.underlying155 (by unfold maxLen; omega) (keyOf_int_mk Tryd.underlying3 (a := 2) (by decide)) (plainElem_int Tryd.underlying22 (a := 65535) (by decide))
  obtain ⟨w3, r3, o3, m3⟩ := o2.store lawI Tryd.underlying155 (by unfold maxLen; omega) (keyOf_int_mk Tryd.underlying3 (a := 4) (by decide)) (plainElem_int Tryd.underlying22 (a := 4294967295) (by decide))
  obtain ⟨w4, r4, o4, m4⟩ := o3.store lawI Tryd.underlying155 (by unfold maxLen; omega) (keyOf_int_mk Tryd.underlying3 (a := 8) (by decide)) (plainElem_int Tryd.underlying22 (a := 18446744073709551615) (by decide))
  have hB : Below w.heap.size w w4 := (Below.new w (.map #[] 0)).grown (((m1.trans m2).trans m3).trans m4).grown (by simp) (fun j hj => by cases hj; exact Nat.le_refl _)
  go_enter Tryd.func77, Tryd.ntmps77
  go_wp2
  go_ret
  exact ⟨rfl, o4, hB⟩

theorem look_g {w1 : World} {B : Nat} (o : w1.ownsMap Tryd.prog 3 (plainElem (H := Unit) Tryd.prog 22) B 4 gD) (k : Int) (hk : (Lit.int .i64 k).wf = true) :
    ∃ c : Int, (Instr.lookup 155 (.map (some B)) (.int .i64 k) true).run Tryd.prog w1 = .ok (.tuple #[.int .u64 c, .bool (decide (isW k))]) w1 ∧ (isW k → c = ((256 ^ k.toNat - 1 : Nat) : Int)) := by
  obtain ⟨v, ps, hrun, hv⟩ := o.look_ok lawI Tryd.underlying155 (zeroU _) (plainElem_int Tryd.underlying22 (a := 0) (by decide)) (keyOf_int_mk Tryd.underlying3 hk)
  obtain ⟨c, rfl, hc, _⟩ := plainElem_int_inv Tryd.underlying22 hv
  rw [gD_has] at hrun
  refine ⟨c, hrun, fun h => ?_⟩
  simp only [Prod.mk.injEq] at hc
  have hc1 := hc.1
  rcases h with rfl | rfl | rfl | rfl
  · have e : gD.atKey (.int .i64 1) (.lit (.int .u64 0)) = .lit (.int .u64 255) := rfl
    have e2 : ((256 ^ (1 : Int).toNat - 1 : Nat) : Int) = 255 := by decide
    have e3 := (Lit.int.inj (DataW.lit.inj (e.symm.trans hc1))).2
    rw [e2, ← e3]
  · have e : gD.atKey (.int .i64 2) (.lit (.int .u64 0)) = .lit (.int .u64 65535) := rfl
    have e2 : ((256 ^ (2 : Int).toNat - 1 : Nat) : Int) = 65535 := by decide
    have e3 := (Lit.int.inj (DataW.lit.inj (e.symm.trans hc1))).2
    rw [e2, ← e3]
  · have e : gD.atKey (.int .i64 4) (.lit (.int .u64 0)) = .lit (.int .u64 4294967295) := rfl
    have e2 : ((256 ^ (4 : Int).toNat - 1 : Nat) : Int) = 4294967295 := by decide
    have e3 := (Lit.int.inj (DataW.lit.inj (e.symm.trans hc1))).2
    rw [e2, ← e3]
  · have e : gD.atKey (.int .i64 8) (.lit (.int .u64 0)) = .lit (.int .u64 18446744073709551615) := rfl
    have e2 : ((256 ^ (8 : Int).toNat - 1 : Nat) : Int) = 18446744073709551615 := by decide
    have e3 := (Lit.int.inj (DataW.lit.inj (e.symm.trans hc1))).2
    rw [e2, ← e3]

/-- What the judge answers. -/
def judgeV (s : Sn) (k : Int) (n : Nat) : Value := if isW k then (if n < 256 ^ k.toNat then .nilIface else faultV k s.g) else faultV k s.w

set_option maxHeartbeats 1000000 in
set_option maxRecDepth 100000 in
theorem judge_any (s : Sn) (k : Int) (hk : (Lit.int .i64 k).wf = true) (n : Nat) (w : World) (hs : Sent s w) :
    Calls Tryd.prog 74 #[.int .i64 k, .int .u64 n] w fun e w' => e = .returned (judgeV s k n) ∧ Below w.heap.size w w' := by
  have HK := Lib.hid hk
  clear hk
  have HS := Lib.hid hs
  clear hs
  go_enter Tryd.func74, Tryd.ntmps74
  go_wp2_with (go_at_call 77; refine (greatest_any w).mono ?_)
  rintro e w1 ⟨rfl, o1, b1⟩
  obtain ⟨c, hl, hc⟩ := look_g o1 k HK.out
  have s1 := HS.out.more b1
  have gw := s1.cw
  have gg := s1.cg
  have HC := Lib.hid hc
  clear hc s1 o1
  by_cases h : isW k
  · have hd : decide (isW k) = true := by simp [h]
    rw [hd] at hl
    have hc := HC.out h
    have hp : 1 ≤ 256 ^ k.toNat := Nat.pow_pos (by decide)
    by_cases hn : n < 256 ^ k.toNat
    · have hno : ¬ c < (n : Int) := by rw [hc]; omega
      have ej : judgeV s k n = .nilIface := by simp [judgeV, h, hn]
      have EJ := Lib.hid ej
      clear HC hc hd hp ej hn h
      go_wp2
      go_ret
      exact ⟨by rw [EJ.out]; rfl, b1⟩
    · have hno : c < (n : Int) := by rw [hc]; omega
      have ej : judgeV s k n = faultV k s.g := by simp [judgeV, h, hn]
      have EJ := Lib.hid ej
      clear HC hc hd hp ej hn h
      go_wp2
      go_ret
      exact ⟨by rw [EJ.out]; rfl, b1⟩
  · have hd : decide (isW k) = false := by simp [h]
    rw [hd] at hl
    have ej : judgeV s k n = faultV k s.w := by simp [judgeV, h]
    have EJ := Lib.hid ej
    clear HC hd ej h
    go_wp2
    go_ret
    exact ⟨by rw [EJ.out]; rfl, b1⟩

end Go.Proofs.YtfpjbefhfkembaaDoor

/- The iterator over a number's bytes. -/
namespace Go.Proofs.YtfpjbefhfkembaaDoor
open Go.RowKit Go.Shelf Go.Proofs.Fld

attribute [local go_sem] Oper.semAt_some

/-- What the iterator reads between two rounds is kept: its two boxes. -/
def KpF (Bk Bn : Nat) (W W' : World) : Prop := W'.cell? ⟨Bk, 0, none⟩ = W.cell? ⟨Bk, 0, none⟩ ∧ W'.cell? ⟨Bn, 0, none⟩ = W.cell? ⟨Bn, 0, none⟩
theorem KpF.refl (Bk Bn : Nat) (W : World) : KpF Bk Bn W W := ⟨rfl, rfl⟩
theorem KpF.trans {Bk Bn : Nat} {A B C : World} (h : KpF Bk Bn A B) (k : KpF Bk Bn B C) : KpF Bk Bn A C := ⟨k.1.trans h.1, k.2.trans h.2⟩
theorem KpF.putObj {Bk Bn : Nat} {w : World} (hB : Bk < w.heap.size) (hG : Bn < w.heap.size) (W : World) (l : Nat) (o o' : Obj) (hl : w.heap.size ≤ l) (h : W.heap[l]? = some o) (h1 : o.isCells = false) (h2 : o.isWalk = false) : KpF Bk Bn W (W.putObj l o') := by
  have hb := belowK_b (n₀ := w.heap.size) (w := w) (Nat.le_refl _) W l o o' hl h h1 h2
  exact ⟨hb.cell (p := ⟨Bk, 0, none⟩) hB, hb.cell (p := ⟨Bn, 0, none⟩) hG⟩

set_option maxRecDepth 100000 in
set_option maxHeartbeats 1000000 in
theorem falling1_in (n : Nat) (hn : 1 ≤ n) (l Bk Bn k x : Nat) (hk8 : k ≤ 8) (hx : x < 18446744073709551616) (J Jx : List UInt8 → World → Prop)
    (hY : ∀ pre b W, J pre W → pre.length < 8 → YieldAt Fence.wide (n - 1) Tryd.prog l #[.int .u8 ((b : UInt8).toNat : Int)] W fun e W' =>
      (e = .returned (.bool true) ∧ J (pre ++ [b]) W' ∧ KpF Bk Bn W W') ∨ (e = .returned (.bool false) ∧ Jx (pre ++ [b]) W'))
    (W : World) (hBk : W.cell? ⟨Bk, 0, none⟩ = some (.int .i64 k)) (hBn : W.cell? ⟨Bn, 0, none⟩ = some (.int .u64 x)) (h0 : J [] W) :
    CallsIn Fence.wide n Tryd.prog 81 #[.func (.yield l) #[] #[], .pointer (some ⟨Bk, 0, none⟩), .pointer (some ⟨Bn, 0, none⟩)] W fun e W' => (∃ v, e = .returned v) ∧
      ((∃ ys, ys = enc k x ∧ J ys W') ∨ (∃ pre, True ∧ Jx pre W')) := by
  have HX := Lib.hid hx
  clear hx
  refine callsIn_of_wp Tryd.func81 rfl trivial ?_ rfl
  simp only [Tryd.ntmps81, List.size_toArray, List.length_cons, List.length_nil, Nat.reduceAdd, Nat.reduceSub, Array.replicate_succ, Array.replicate_zero, List.push_toArray, List.append_toArray, List.nil_append, List.cons_append]
  gi_wp2
  gi_loopw [4] (fun i wr => ∃ j : Nat, j ≤ k ∧ i = .int .i64 ((k : Int) - 1 - j) ∧ J ((enc k x).take j) wr ∧ KpF Bk Bn W wr)
    (fun i _ => (intOf i + 1).toNat)
  case atStart => exact ⟨0, by omega, by simp, by simpa using h0, KpF.refl _ _ _⟩
  case round =>
    obtain ⟨j, hj, rfl, hJs, hnx⟩ := hrel
    have hcx : wr.cell? ⟨Bk, 0, none⟩ = some (.int .i64 k) := hnx.1.trans hBk
    have hcn : wr.cell? ⟨Bn, 0, none⟩ = some (.int .u64 x) := hnx.2.trans hBn
    by_cases hlt : j < k
    · have hg : (0 : Int) ≤ (k : Int) - 1 - j := by omega
      obtain ⟨fn, tmps, assign, body, hy, hR⟩ := hY _ (UInt8.ofNat (x / 256 ^ (k - 1 - j))) wr hJs (by simp [enc_length]; omega)
      have hb : (((UInt8.ofNat (x / 256 ^ (k - 1 - j))).toNat : Nat) : Int) = (x : Int) / 2 ^ (8 * (k - 1 - j)) % 256 := by
        rw [ofNat_toNat, show (256 : Nat) = 2 ^ 8 by rfl, ← Nat.pow_mul]
        push_cast
        rfl
      rw [hb] at hy
      have hte : (enc k x).take j ++ [UInt8.ofNat (x / 256 ^ (k - 1 - j))] = (enc k x).take (j + 1) := by
        rw [List.take_add_one, enc_get k x j hlt]; rfl
      rw [hte] at hR
      gi_wp2
      refine hR.mono ?_
      rintro e W3 (⟨rfl, hJ3, hk3⟩ | ⟨rfl, hJx3⟩)
      · gi_wp2
        go_roundw
        case rel => exact ⟨j + 1, by omega, by go_num, hJ3, hnx.trans hk3⟩
        case measure => simp [intOf]; omega
      · gi_wp2
        refine bodyPost_ret (results_none rfl _ _ _) rfl ?_
        exact ⟨⟨_, rfl⟩, .inr ⟨_, trivial, hJx3⟩⟩
    · obtain rfl : j = k := by omega
      have hte : (enc j x).take j = enc j x := List.take_of_length_le (by rw [enc_length]; exact Nat.le_refl _)
      rw [hte] at hJs
      gi_wp2
      go_end0
      exact ⟨⟨_, rfl⟩, .inl ⟨_, rfl, hJs⟩⟩

set_option maxHeartbeats 1000000 in
theorem falling_any (k x : Int) (w : World) :
    Calls Tryd.prog 79 #[.int .i64 k, .int .u64 x] w fun e w' => e = .returned (.func (.func 81) #[] #[.pointer (some ⟨w.heap.size, 0, none⟩), .pointer (some ⟨w.heap.size + 1, 0, none⟩)]) ∧ w' = (w.alloc (.cells #[.int .i64 k] 3)).alloc (.cells #[.int .u64 x] 22) := by
  go_enter Tryd.func79, Tryd.ntmps79
  go_wp2
  go_ret
  exact ⟨rfl, rfl⟩

theorem falling_stops (n : Nat) (hn : 1 ≤ n) (Bk Bn k x : Nat) (hk8 : k ≤ 8) (hx : x < 18446744073709551616) (w : World) (hlk : Bk < w.heap.size) (hln : Bn < w.heap.size)
    (hBk : w.cell? ⟨Bk, 0, none⟩ = some (.int .i64 k)) (hBn : w.cell? ⟨Bn, 0, none⟩ = some (.int .u64 x)) :
    SeqStopsK Fence.wide n Tryd.prog 81 #[.pointer (some ⟨Bk, 0, none⟩), .pointer (some ⟨Bn, 0, none⟩)] (fun b : UInt8 => #[Value.int .u8 (b.toNat : Int)]) (KpF Bk Bn) (fun ys => ys = enc k x) (fun _ => True) 8 w := fun l J Jx W hW _ _ hY h0 =>
  falling1_in n hn l Bk Bn k x hk8 hx J Jx hY W ((hW.cell (p := ⟨Bk, 0, none⟩) hlk).trans hBk) ((hW.cell (p := ⟨Bn, 0, none⟩) hln).trans hBn) h0

end Go.Proofs.YtfpjbefhfkembaaDoor
