/- Merged texts: FlMath, FlParts, FlBase, FlAs, FlTold, FlBuf, FlRound, FlRange, FlIter -/
import Derived.Test.YtlafcplcjpcikaaGreatDoorRgA
import Derived.Test.YtlafcplcjpcikaaGreatDoorChecked
import Derived.WalkKit
import Derived.WalkSpells
import Derived.WalkLawsBesides
import Derived.Lib.Hide
import Derived.Lib.QuietBelow
import Derived.Deep.RegionWith
import Derived.BigCall
import Derived.RegionTactic
import Derived.LaidEql
import Derived.Stop.Asserts
import Derived.RowKitTokens
import Derived.Shelf.Abstract
import Derived.ArgAppend
import Derived.Deep.Onto
import Derived.Lib.AppendZerosOnto
import Derived.Laws.AppendOwnNone
import Derived.ScopeJumps
import Derived.Lib.Strings
import Derived.OwnWalk
import Derived.BigQuiet
import Derived.RangeFuncNested
import Derived.RangeFuncBound
import Derived.RangeFuncCalls
import Derived.RangeFuncLeaves
import Derived.RangeFuncBox
import Derived.Shelf.RegionOpen
import Derived.OwnWalkIn
import Derived.TacticsInMore
import Derived.LoopNIn
import Derived.LoopIn
import Derived.WalkMore
import Derived.Lib.LazyBuf
import Derived.Lib.BufferWrite
import Derived.Laws.IdiomStrings
import Derived.Lib.SlBuf
import Derived.Laws.CopyOwn
import Derived.Laws.CopyRow
import Derived.OrdersHeld
import Derived.Deep.RegionHeld3
/- Files as lists of bytes, and what is done with them: P9.1 to P9.3 as plain facts. -/
namespace Go.Proofs.Fil
/-- Bytes. -/
abbrev It := List UInt8
/-- Is it a file, at an offset? -/
def okAt (s : It) (o : Int) : Prop := s.length ≤ 1000 ∧ 0 ≤ o ∧ o ≤ (s.length : Int)
instance (s : It) (o : Int) : Decidable (okAt s o) := by unfold okAt; exact inferInstance
/-- The parts as one file. -/
def joinR (l : It) : Option It := if l.length ≤ 1000 then some l else none





def readR (s : It) (o n : Int) : Option It := if okAt s o ∧ 0 ≤ n then some ((s.drop o.toNat).take n.toNat) else none



theorem okAt_nat {s : It} {o : Int} (h : okAt s o) : ∃ k : Nat, o = (k : Int) ∧ k ≤ s.length ∧ s.length ≤ 1000 := by
  obtain ⟨h1, h2, h3⟩ := h
  exact ⟨o.toNat, by omega, by omega, h1⟩
theorem okAt_of {s : It} {k : Nat} (h : k ≤ s.length) (h1 : s.length ≤ 1000) : okAt s (k : Int) := ⟨h1, by omega, by omega⟩



























theorem readR_of {s : It} {k m : Nat} (hk : k ≤ s.length) (hs : s.length ≤ 1000) : readR s (k : Int) (m : Int) = some ((s.drop k).take m) := by
  unfold readR
  rw [if_pos ⟨okAt_of hk hs, by omega⟩]
  simp only [Int.toNat_natCast]










































































































































































end Go.Proofs.Fil

/- Parts, one behind the other: plain facts. -/
namespace Go.Proofs.Fil
/-- How many bytes some parts have. -/
def tot : List It → Nat
  | [] => 0
  | x :: r => x.length + tot r
theorem tot_append (l k : List It) : tot (l ++ k) = tot l + tot k := by
  induction l with
  | nil => simp [tot]
  | cons a r ih => simp [tot, ih]; omega
theorem tot_take_le (l : List It) (k : Nat) : tot (l.take k) ≤ tot l := by
  have := tot_append (l.take k) (l.drop k)
  rw [List.take_append_drop] at this
  omega
theorem tot_next {l : List It} {k : Nat} {x : It} (h : l[k]? = some x) : tot (l.take (k + 1)) = tot (l.take k) + x.length := by
  obtain ⟨hk, rfl⟩ := List.getElem?_eq_some_iff.1 h
  have e : l.take (k + 1) = l.take k ++ [l[k]] := by rw [List.take_append_getElem hk]
  rw [e, tot_append]
  simp [tot]
theorem tot_flatten (l : List It) : l.flatten.length = tot l := by
  induction l with
  | nil => rfl
  | cons a r ih => simp [tot, ih]
/-- The parts, each with where it would end. -/
def prs (u : Nat) : List It → List (It × Nat)
  | [] => []
  | x :: r => (x, u + x.length) :: prs (u + x.length) r
theorem prs_length (u : Nat) (l : List It) : (prs u l).length = l.length := by
  induction l generalizing u with
  | nil => rfl
  | cons a r ih => simp [prs, ih]
theorem prs_get {u k : Nat} {l : List It} {x : It} (h : l[k]? = some x) : (prs u l)[k]? = some (x, u + tot (l.take k) + x.length) := by
  induction l generalizing u k with
  | nil => simp at h
  | cons a r ih =>
    cases k with
    | zero => simp at h; subst h; simp [prs, tot]
    | succ k =>
      have := ih (u := u + a.length) (k := k) (by simpa using h)
      simp only [prs, List.getElem?_cons_succ, this, List.take_succ_cons, tot]
      congr 2
      omega
theorem prs_next {u k : Nat} {l : List It} {x : It} (h : l[k]? = some x) : (prs u l).take (k + 1) = (prs u l).take k ++ [(x, u + tot (l.take k) + x.length)] := by
  rw [List.take_add_one, prs_get h]
  rfl
/-- What the pairs' parts are, put together. -/
def flat (l : List (It × Nat)) : It := (l.map (·.1)).flatten
theorem flat_snoc (l : List (It × Nat)) (x : It × Nat) : flat (l ++ [x]) = flat l ++ x.1 := by simp [flat]

theorem flat_prs (u : Nat) (l : List It) : flat (prs u l) = l.flatten := by
  induction l generalizing u with
  | nil => rfl
  | cons a r ih =>
    have := ih (u + a.length)
    unfold flat at this ⊢
    simp [prs, this]
/-- A pair's number is where it ends. -/
theorem prs_ends {u : Nat} {l : List It} {pre : List (It × Nat)} {x : It × Nat} (h : pre ++ [x] <+: prs u l) : x.2 = u + (flat pre).length + x.1.length ∧ x.2 ≤ u + tot l := by
  obtain ⟨t, ht⟩ := h
  have hlen : pre.length < l.length := by rw [← prs_length u l, ← ht]; simp
  obtain ⟨y, hy⟩ : ∃ y, l[pre.length]? = some y := ⟨_, List.getElem?_eq_getElem hlen⟩
  have e2 := prs_get (u := u) hy
  rw [← ht] at e2
  simp at e2
  subst e2
  have e1 : flat pre = (l.take pre.length).flatten := by
    have : pre = (prs u l).take pre.length := by rw [← ht, List.append_assoc, List.take_left]
    rw [this]
    clear this ht hlen hy
    generalize pre.length = k
    revert k
    induction l generalizing u with
    | nil => intro k; simp [prs, flat]
    | cons a r ih =>
      intro k
      cases k with
      | zero => simp [flat]
      | succ k =>
        have := ih (u := u + a.length) k
        unfold flat at this ⊢
        simp only [prs, List.take_succ_cons, List.map_cons, List.flatten_cons, List.length_cons]
        rw [this]
  rw [e1, tot_flatten]
  refine ⟨rfl, ?_⟩
  have := tot_next hy
  have := tot_take_le l (pre.length + 1)
  simp only
  omega
end Go.Proofs.Fil

/- Texts as lists of bytes, in memory; frames: what the other texts lean on. -/
namespace Go.Proofs.YtlafcplcjpcikaaGreatDoor.Fi
open Go.RowKit Go.Proofs.Fld Go.Proofs.Fil Go.Shelf Go.Extern.Stop Go.Stop Go.Extern Go.Sort

attribute [local go_sem] Oper.semAt_some

theorem below_more {n : Nat} {w w1 w2 : World} (h : Below n w w1) (k : Below w1.heap.size w1 w2) (hn : n ≤ w.heap.size := by exact Nat.le_refl _) : Below n w w2 := h.trans (k.mono (Nat.le_trans hn h.size))
theorem Below.new (w : World) (o : Obj) : Below w.heap.size w (w.alloc o) := (Below.refl _ w).alloc (Nat.le_refl _) _
theorem bs_toList (l : List UInt8) : (bs l).toList = l := by
  rw [Lib.toList_data]
  rfl
theorem bs_extract (l : List UInt8) (a b : Nat) : (bs l).extract a b = bs ((l.drop a).take (b - a)) := by
  have h := Lib.extract_data (bs l) a b
  rw [bs_all ((bs l).extract a b), h]
  rfl






theorem str_upto (l : List UInt8) (k : Nat) (h : k ≤ l.length) (w : World) : (Instr.slice 9 (.string (bs l)) none (some (.int .i64 (k : Int))) none).run Tryz.prog w = .ok (.string (bs (l.take k))) w := by
  simp [go_sem, Tryz.underlying9, bs_size, bs_extract, h]
theorem infoS : (Tryz.prog.info? 9).map (fun i => (i.zero, i.size, i.bytes)) = some (some (.string { data := #[] }), 1, 16) := by kernel_rfl
/-- The slice holds the texts zs. -/
structure Txs (W : World) (ao : Option Addr) (len cap : Nat) (zs : List It) : Prop where
  hlen : zs.length = len
  hle : len ≤ cap
  hmax : cap ≤ maxLen
  hnone : ao = none → cap = 0
  hfits : ∀ x ∈ zs, x.length ≤ 9223372036854775807
  hcells : zs ≠ [] → ∃ b off, ao = some ⟨b, off, none⟩ ∧ ∀ j x, zs[j]? = some x → W.cell? ⟨b, off + j, none⟩ = some (.string (bs x))
theorem Txs.of_block {A B : World} {ao : Option Addr} {len cap : Nat} {zs : List It} (h : Txs A ao len cap zs) (k : ∀ a, ao = some a → a.block < A.heap.size → B.heap[a.block]? = A.heap[a.block]?) : Txs B ao len cap zs :=
  ⟨h.hlen, h.hle, h.hmax, h.hnone, h.hfits, fun hz => by
    obtain ⟨b, off, e, hc⟩ := h.hcells hz
    exact ⟨b, off, e, fun j x hj => (World.cell?_of_block (a := ⟨b, off + j, none⟩) (k ⟨b, off, none⟩ e (World.block_lt_of_cell? A ⟨b, off + j, none⟩ (hc j x hj)))).trans (hc j x hj)⟩⟩
theorem Txs.more {A B : World} {ao : Option Addr} {len cap : Nat} {zs : List It} (h : Txs A ao len cap zs) (k : Below A.heap.size A B) : Txs B ao len cap zs := h.of_block fun _ _ hb => k.block _ hb
theorem Txs.nil (W : World) : Txs W none 0 0 [] := ⟨rfl, Nat.le_refl _, Nat.zero_le _, fun _ => rfl, fun _ h => (by cases h), fun h => absurd rfl h⟩
theorem Txs.at {W : World} {ao : Option Addr} {len cap : Nat} {zs : List It} (h : Txs W ao len cap zs) (hp : 0 < len) : ∃ b off, ao = some ⟨b, off, none⟩ ∧ b < W.heap.size ∧ ∀ j x, zs[j]? = some x → W.cell? ⟨b, off + j, none⟩ = some (.string (bs x)) := by
  have hz : zs ≠ [] := fun e => by have := h.hlen; rw [e] at this; simp at this; omega
  obtain ⟨b, off, e, hc⟩ := h.hcells hz
  obtain ⟨x, hx⟩ : ∃ x, zs[0]? = some x := ⟨_, List.getElem?_eq_getElem (by rw [h.hlen]; exact hp)⟩
  exact ⟨b, off, e, World.block_lt_of_cell? W ⟨b, off + 0, none⟩ (hc 0 x hx), hc⟩
theorem Txs.apart {w W : World} {ao : Option Addr} {len cap : Nat} {zs : List It} (h : Txs w ao len cap zs) (k : Below w.heap.size w W) {X : Nat} (hX : w.heap.size ≤ X) : 0 < len → ∀ a, ao = some a → a.block < W.heap.size ∧ a.block ≠ X := by
  intro hp a e
  obtain ⟨b, off, e', hb, _⟩ := h.at hp
  rw [e] at e'
  obtain rfl := Option.some.inj e'
  have := k.size
  exact ⟨Nat.lt_of_lt_of_le hb this, fun q => by simp only at q; omega⟩
theorem add_at (b off j : Nat) : (⟨b, off, none⟩ : Addr).add j = ⟨b, off + j, none⟩ := by
  unfold Addr.add
  by_cases hj0 : j = 0
  · subst hj0; simp
  · simp [hj0]
/-- It tells b. -/
def BoolP (b : Bool) (w : World) (e : Ending) (w' : World) : Prop := e = .returned (.bool b) ∧ Below w.heap.size w w'
def IntP (v : Int) (w : World) (e : Ending) (w' : World) : Prop := e = .returned (.int .i64 v) ∧ Below w.heap.size w w'


theorem below_grown {w w' : World} (h : Below w.heap.size w w') : w.grownBy w' none := ⟨h.os, h.tape, h.output, h.size, fun k hk _ => h.block k hk⟩
theorem take_next {α : Type} (zs : List α) (k : Nat) (x : α) (h : zs[k]? = some x) : zs.take (k + 1) = zs.take k ++ [x] := by
  obtain ⟨hk, rfl⟩ := List.getElem?_eq_some_iff.1 h
  rw [List.take_append_getElem hk]
theorem setO {W : World} {a b : Addr} {v x : Value} (h : W.cell? a = some v) (hne : b ≠ a) : (W.setCell b x).cell? a = some v := (World.cell?_setCell_other _ _ _ _ (fun e => hne e)).trans h
theorem setS {W : World} {a : Addr} {v : Value} (x : Value) (h : W.cell? a = some v) : (W.setCell a x).cell? a = some x := World.cell?_setCell_same' _ _ _ (by rw [h]; rfl)
theorem setF {W : World} {a b : Addr} {x : Value} (h : W.frozen? a = false) : (W.setCell b x).frozen? a = false := by rw [World.frozen?_setCell]; exact h
theorem ne_blk {b b' o o' : Nat} (h : b ≠ b') : (⟨b, o, none⟩ : Addr) ≠ ⟨b', o', none⟩ := fun e => h (congrArg Addr.block e)
theorem ne_off {b b' o o' : Nat} (h : o ≠ o') : (⟨b, o, none⟩ : Addr) ≠ ⟨b', o', none⟩ := fun e => h (congrArg Addr.off e)
theorem keeps_below {W W1 : World} (h : Below W.heap.size W W1) : KeepsOthers W W1 := KeepsOthers.of_grownBy (below_grown h) (fun j o e _ => by cases e)

/-- All blocks below m but those from lo up to hi lie as they lay. -/
def KR (lo hi m : Nat) (A B : World) : Prop := A.heap.size ≤ B.heap.size ∧ ∀ k, k < m → (k < lo ∨ hi ≤ k) → B.heap[k]? = A.heap[k]?
theorem KR.refl (lo hi m : Nat) (A : World) : KR lo hi m A A := ⟨Nat.le_refl _, fun _ _ _ => rfl⟩
theorem KR.trans {lo hi m : Nat} {A B C : World} (h : KR lo hi m A B) (k : KR lo hi m B C) : KR lo hi m A C := ⟨Nat.le_trans h.1 k.1, fun i hi hx => (k.2 i hi hx).trans (h.2 i hi hx)⟩
theorem KR.of_below {lo hi m : Nat} {A B : World} (h : Below m A B) : KR lo hi m A B := ⟨h.size, fun k hk _ => h.block k hk⟩
theorem krK_b {lo hi m : Nat} {w : World} (hn : m ≤ w.heap.size) (W : World) (l : Nat) (o o' : Obj) (hl : w.heap.size ≤ l) (h : W.heap[l]? = some o) (h1 : o.isCells = false) (h2 : o.isWalk = false) : KR lo hi m W (W.putObj l o') := KR.of_below (belowK_b hn W l o o' hl h h1 h2)
theorem KR.set {lo hi m : Nat} (A : World) (X o : Nat) (v : Value) (h1 : lo ≤ X) (h2 : X < hi) : KR lo hi m A (A.setCell ⟨X, o, none⟩ v) := ⟨by simp [World.setCell], fun k _ hx => Below.heap_setCell _ _ _ _ (fun e => by have e' : k = X := e; omega)⟩
theorem KR.cell {lo hi m : Nat} {A B : World} (h : KR lo hi m A B) {a : Addr} {v : Value} (hc : A.cell? a = some v) (hm : a.block < m) (hx : a.block < lo ∨ hi ≤ a.block) : B.cell? a = some v := (World.cell?_of_block (h.2 _ hm hx)).trans hc
/-- A scope that no goto leaves, at the wide fence. -/
theorem wpIn_scope_wide {n : Nat} {P : Program} {c : Code} {Q : Exit → Act → World → Prop} {a : Act} {w : World} (h : c.wpIn Fence.wide n P (Exit.noGoto Q) a w) : (Code.scope c).wpIn Fence.wide n P Q a w :=
  wpIn_wide.2 (wp_scope_straight (wpIn_wide.1 h))
theorem boxed_keep {A B : World} {row : Option Nat} {b : Nat} {t : TypeId} {v : Value} (h : Boxed A b t v) (hg : A.grownBy B row) (hr : ∀ r, row = some r → ∃ o : Obj, A.heap[r]? = some o ∧ o.isCells = false) : Boxed B b t v :=
  h.kept hg fun e => by
    obtain ⟨o, ho, hc⟩ := hr b e.symm
    rw [show A.heap[b]? = _ from h] at ho
    cases ho
    cases hc
theorem boxed_put {W : World} {b D : Nat} {t : TypeId} {v : Value} {o : Obj} (o' : Obj) (h : Boxed W b t v) (hD : W.heap[D]? = some o) (ho : o.isCells = false) : Boxed (W.putObj D o') b t v :=
  boxed_keep h (grownBy_putObj' W D o') (fun r e => by cases e; exact ⟨o, hD, ho⟩)
theorem boxed_more {A B : World} {b : Nat} {t : TypeId} {v : Value} (h : Boxed A b t v) (k : Below A.heap.size A B) : Boxed B b t v := (k.block b h.lt).trans h
theorem boxed_other {W : World} {b b' : Nat} {t : TypeId} {v x : Value} (h : Boxed W b t v) (hne : b ≠ b') : Boxed (W.setCell ⟨b', 0, none⟩ x) b t v := (Below.heap_setCell _ _ _ _ (fun e => hne e)).trans h
theorem heap_drewN (W : World) (k : Nat) : (W.drewN k).heap = W.heap := by simp
theorem Txs.apart3 {w W : World} {ao : Option Addr} {len cap : Nat} {zs : List It} (h : Txs w ao len cap zs) (k : Below w.heap.size w W) {lo hi : Nat} (hX : w.heap.size ≤ lo) : 0 < len → ∀ a, ao = some a → a.block < W.heap.size ∧ (a.block < lo ∨ hi ≤ a.block) := by
  intro hp a e
  obtain ⟨b, off, e', hb, _⟩ := h.at hp
  rw [e] at e'
  obtain rfl := Option.some.inj e'
  have := k.size
  exact ⟨Nat.lt_of_lt_of_le hb this, .inl (Nat.lt_of_lt_of_le hb hX)⟩
end Go.Proofs.YtlafcplcjpcikaaGreatDoor.Fi

/- errors.As at the one target, a variable of type file.fault: nil, and a fault. -/
namespace Go.Proofs.YtlafcplcjpcikaaGreatDoor.Fi
open Go.RowKit Go.Extern.Stop Go.Stop Go.Extern

/-- errors.As(nil, target). -/
theorem as_nil (t : Value) (w : World) :
    Calls Tryz.prog 67 #[.nilIface, t] w fun e w' => e = .returned (.bool false) ∧ w = w' := by
  go_enter Tryz.func67, Tryz.ntmps67
  go_wp2
  go_ret
  exact ⟨rfl, rfl⟩

theorem asV (t : Addr) (w : World) : (ReflectliteValue.unpack (.iface 169 (.pointer (some t)))).run Tryz.prog w
    = .ok (.agg #[.pointer (some ⟨3, 169, none⟩), .pointer (some ⟨w.heap.size, 0, none⟩), .int .u64 150]) (w.alloc (.cells #[.pointer (some t)] 169)) := by kernel_rfl
theorem asT (a : Addr) (w : World) : (ReflectliteValue.methodAny (ReflectliteValue.valueError "reflectlite.Value.Type" 0) (fun t _ _ _ => ReflectliteType.toType t) #[.agg #[.pointer (some ⟨3, 169, none⟩), .pointer (some a), .int .u64 150]]).run Tryz.prog w
    = .ok (.iface 142 (.agg #[.pointer (some ⟨3, 169, none⟩)])) w := by kernel_rfl
theorem asMK (h : Value) (w : World) : (Go.method 319 142 (.agg #[h]) "Kind").run Tryz.prog w = .ok (132, h) w := by kernel_rfl
theorem asKp (w : World) : ((ReflectliteType.abiMethod fun t => (fun a : Nat => Value.int IntKind.u8 (a : Int)) <$> Rtype.kind t) #[.pointer (some ⟨3, 169, none⟩)]).run Tryz.prog w = .ok (.int .u8 22) w := by kernel_rfl
theorem asKs (w : World) : ((ReflectliteType.abiMethod fun t => (fun a : Nat => Value.int IntKind.u8 (a : Int)) <$> Rtype.kind t) #[.pointer (some ⟨3, 167, none⟩)]).run Tryz.prog w = .ok (.int .u8 24) w := by kernel_rfl

theorem asPartsP (a : Addr) (w : World) : (ReflectliteValue.parts (.agg #[.pointer (some ⟨3, 169, none⟩), .pointer (some a), .int .u64 150])).run Tryz.prog w = .ok (some (169, a, 150)) w := by kernel_rfl
theorem asIsNil (a p : Addr) (W : World) (ha : W.cell? a = some (.pointer (some p))) :
    (ReflectliteValue.method (ReflectliteValue.valueError "reflectlite.Value.IsNil" 0) ReflectliteValue.isNil #[.agg #[.pointer (some ⟨3, 169, none⟩), .pointer (some a), .int .u64 150]]).run Tryz.prog W = .ok (.bool false) W := by
  show (ReflectliteValue.parts (.agg #[.pointer (some ⟨3, 169, none⟩), .pointer (some a), .int .u64 150]) >>= _ : Sem Value).run Tryz.prog W = _
  simp only [Sem.run_bind, asPartsP, Result.andThen]
  simp [ReflectliteValue.isNil, loadVar, isAgg, underlying, Tryz.underlying169, ha, Result.andThen]
theorem asME (h : Value) (w : World) : (Go.method 319 142 (.agg #[h]) "Elem").run Tryz.prog w = .ok (146, .agg #[h]) w := by kernel_rfl
theorem asMI (h : Value) (w : World) : (Go.method 319 142 (.agg #[h]) "Implements").run Tryz.prog w = .ok (147, .agg #[h]) w := by kernel_rfl
theorem asMA (h : Value) (w : World) : (Go.method 319 142 (.agg #[h]) "AssignableTo").run Tryz.prog w = .ok (144, .agg #[h]) w := by kernel_rfl
theorem asElemT (w : World) : (ReflectliteType.method ReflectliteType.elem #[.agg #[.pointer (some ⟨3, 169, none⟩)]]).run Tryz.prog w = .ok (.iface 142 (.agg #[.pointer (some ⟨3, 167, none⟩)])) w := by kernel_rfl
theorem asImpl (w : World) : (ReflectliteType.relation "Implements" ReflectliteType.implements_ #[.agg #[.pointer (some ⟨3, 167, none⟩)], .iface 142 (.agg #[.pointer (some ⟨3, 57, none⟩)])]).run Tryz.prog w = .ok (.bool true) w := by kernel_rfl
theorem asTypeOf (v : Value) (w : World) : (ReflectliteType.typeOf #[.iface 167 v]).run Tryz.prog w = .ok (.iface 142 (.agg #[.pointer (some ⟨3, 167, none⟩)])) w := by kernel_rfl
theorem asAssign (w : World) : (ReflectliteType.relation "AssignableTo" ReflectliteType.assignableTo #[.agg #[.pointer (some ⟨3, 167, none⟩)], .iface 142 (.agg #[.pointer (some ⟨3, 167, none⟩)])]).run Tryz.prog w = .ok (.bool true) w := by kernel_rfl
theorem asVs (l : ByteArray) (w : World) : (ReflectliteValue.unpack (.iface 167 (.string l))).run Tryz.prog w
    = .ok (.agg #[.pointer (some ⟨3, 167, none⟩), .pointer (some ⟨w.heap.size, 0, none⟩), .int .u64 152]) (w.alloc (.cells #[.string l] 167)) := by kernel_rfl
theorem asElemOf (w : World) : (Rtype.elem? 169).run Tryz.prog w = .ok (some 167) w := by kernel_rfl
theorem asMk (p : Addr) (w : World) : (ReflectliteValue.mk 167 p ReflectliteValue.flagAddr).run Tryz.prog w = .ok (.agg #[.pointer (some ⟨3, 167, none⟩), .pointer (some p), .int .u64 408]) w := by kernel_rfl
theorem asElemV (a p : Addr) (W : World) (ha : W.cell? a = some (.pointer (some p))) :
    (ReflectliteValue.method (ReflectliteValue.valueError "reflectlite.Value.Elem" 0) ReflectliteValue.elem #[.agg #[.pointer (some ⟨3, 169, none⟩), .pointer (some a), .int .u64 150]]).run Tryz.prog W
      = .ok (.agg #[.pointer (some ⟨3, 167, none⟩), .pointer (some p), .int .u64 408]) W := by
  show (ReflectliteValue.parts (.agg #[.pointer (some ⟨3, 169, none⟩), .pointer (some a), .int .u64 150]) >>= _ : Sem Value).run Tryz.prog W = _
  simp only [Sem.run_bind, asPartsP, Result.andThen]
  simp [ReflectliteValue.elem, loadVar, isAgg, underlying, Tryz.underlying169, ha, Result.andThen, asElemOf, asMk]
theorem asPartsA (a : Addr) (w : World) : (ReflectliteValue.parts (.agg #[.pointer (some ⟨3, 167, none⟩), .pointer (some a), .int .u64 408])).run Tryz.prog w = .ok (some (167, a, 408)) w := by kernel_rfl
theorem asPartsS (a : Addr) (w : World) : (ReflectliteValue.parts (.agg #[.pointer (some ⟨3, 167, none⟩), .pointer (some a), .int .u64 152])).run Tryz.prog w = .ok (some (167, a, 152)) w := by kernel_rfl
theorem asDirect (w : World) : (Rtype.directlyAssignable 167 167).run Tryz.prog w = .ok true w := by kernel_rfl



/-- (Value).Set: the variable at block t gets what the Value's own variable at block b holds. -/
theorem asSet (t b : Nat) (l : ByteArray) (o0 : Value) (W : World) (h0 : W.cell? ⟨b, 0, none⟩ = some (.string l)) (t0 : W.cell? ⟨t, 0, none⟩ = some o0) (f0 : W.frozen? ⟨t, 0, none⟩ = false) :
    (ReflectliteValue.set #[.agg #[.pointer (some ⟨3, 167, none⟩), .pointer (some ⟨t, 0, none⟩), .int .u64 408], .agg #[.pointer (some ⟨3, 167, none⟩), .pointer (some ⟨b, 0, none⟩), .int .u64 152]]).run Tryz.prog W
      = .ok (.tuple #[]) (W.setCell ⟨t, 0, none⟩ (.string l)) := by
  show (ReflectliteValue.parts (.agg #[.pointer (some ⟨3, 167, none⟩), .pointer (some ⟨t, 0, none⟩), .int .u64 408]) >>= fun _ => ReflectliteValue.parts (.agg #[.pointer (some ⟨3, 167, none⟩), .pointer (some ⟨b, 0, none⟩), .int .u64 152]) >>= fun _ => _ : Sem Value).run Tryz.prog W = _
  simp only [Sem.run_bind, asPartsA, asPartsS, Result.andThen]
  simp [ReflectliteValue.flagAddr, loadVar, isAgg, underlying, Tryz.underlying167, h0, Result.andThen, asDirect, storeVar, Value.cells, storeCells, Addr.add]
  rw [run_store _ _ _ (.string l) _ rfl]
  simp [t0, f0]

set_option maxRecDepth 100000 in
set_option maxHeartbeats 4000000 in
theorem as_hit (l : ByteArray) (t : Nat) (o0 : Value) (w : World) (hg : w.cell? ⟨0, 0, none⟩ = some (.iface 142 (.agg #[.pointer (some ⟨3, 57, none⟩)])))
    (t0 : w.cell? ⟨t, 0, none⟩ = some o0) (f0 : w.frozen? ⟨t, 0, none⟩ = false) :
    Calls Tryz.prog 67 #[.iface 167 (.string l), .iface 169 (.pointer (some ⟨t, 0, none⟩))] w fun ev w' => ev = .returned (.bool true) ∧ w'.cell? ⟨t, 0, none⟩ = some (.string l) ∧ Below t w w' := by
  have h6 := @run_callFunc_extern Tryz.prog 83 _ (fun args => ReflectliteValue.unpack (args.getD 0 (.tuple #[]))) Tryz.func83 (by kernel_rfl) (by kernel_rfl) (by kernel_rfl) (by kernel_rfl)
  have h7 := @run_callFunc_extern Tryz.prog 84 _ (ReflectliteValue.methodAny (ReflectliteValue.valueError "reflectlite.Value.Type" 0) (fun t _ _ _ => ReflectliteType.toType t)) Tryz.func84 (by kernel_rfl) (by kernel_rfl) (by kernel_rfl) (by kernel_rfl)
  have h8 := @run_callFunc_extern Tryz.prog 85 _ (ReflectliteValue.method (ReflectliteValue.valueError "reflectlite.Value.IsNil" 0) ReflectliteValue.isNil) Tryz.func85 (by kernel_rfl) (by kernel_rfl) (by kernel_rfl) (by kernel_rfl)
  have h27 := @run_callFunc_extern Tryz.prog 132 _ (ReflectliteType.abiMethod fun t => do pure (.int .u8 (← Rtype.kind t))) Tryz.func132 (by kernel_rfl) (by kernel_rfl) (by kernel_rfl) (by kernel_rfl)
  have h37 := @run_callFunc_extern Tryz.prog 146 _ (ReflectliteType.method ReflectliteType.elem) Tryz.func146 (by kernel_rfl) (by kernel_rfl) (by kernel_rfl) (by kernel_rfl)
  have h38 := @run_callFunc_extern Tryz.prog 147 _ (ReflectliteType.relation "Implements" ReflectliteType.implements_) Tryz.func147 (by kernel_rfl) (by kernel_rfl) (by kernel_rfl) (by kernel_rfl)
  have h10 := @run_callFunc_extern Tryz.prog 94 _ ReflectliteType.typeOf Tryz.func94 (by kernel_rfl) (by kernel_rfl) (by kernel_rfl) (by kernel_rfl)
  have h35 := @run_callFunc_extern Tryz.prog 144 _ (ReflectliteType.relation "AssignableTo" ReflectliteType.assignableTo) Tryz.func144 (by kernel_rfl) (by kernel_rfl) (by kernel_rfl) (by kernel_rfl)
  have h11 := @run_callFunc_extern Tryz.prog 95 _ (ReflectliteValue.method (ReflectliteValue.valueError "reflectlite.Value.Elem" 0) ReflectliteValue.elem) Tryz.func95 (by kernel_rfl) (by kernel_rfl) (by kernel_rfl) (by kernel_rfl)
  have h12 := @run_callFunc_extern Tryz.prog 96 _ ReflectliteValue.set Tryz.func96 (by kernel_rfl) (by kernel_rfl) (by kernel_rfl) (by kernel_rfl)
  have tO := asTypeOf
  have mA := asMA
  have a25 := asAssign
  have v25 := asVs l
  have f6 := asV
  have f7 := asT
  have mK := asMK
  have mE := asME
  have mI := asMI
  have k27 := asKp
  have k25 := asKs
  have e27 := asElemT
  have i25 := asImpl
  have hlt : 0 < w.heap.size := World.block_lt_of_cell? w _ hg
  have htl : t < w.heap.size := World.block_lt_of_cell? w _ t0
  have hB2 : Below w.heap.size w ((w.alloc (.cells #[.pointer (some ⟨t, 0, none⟩)] 169)).alloc (.cells #[.pointer (some ⟨3, 169, none⟩), .pointer (some ⟨w.heap.size, 0, none⟩), .int .u64 150] 117)) := ((Below.refl _ w).alloc (Nat.le_refl _) _).alloc (by simp) _
  have hB4 := ((hB2.alloc (by simp; omega) (.cells #[.pointer (some ⟨3, 169, none⟩), .pointer (some ⟨w.heap.size, 0, none⟩), .int .u64 150] 117)).alloc (by simp; omega) (.cells #[.string l] 167))
  have n8 := asIsNil ⟨w.heap.size, 0, none⟩ ⟨t, 0, none⟩ ((w.alloc (.cells #[.pointer (some ⟨t, 0, none⟩)] 169)).alloc (.cells #[.pointer (some ⟨3, 169, none⟩), .pointer (some ⟨w.heap.size, 0, none⟩), .int .u64 150] 117)) (by simp)
  have hg2 := (hB2.cell (p := ⟨0, 0, none⟩) hlt).trans hg
  have el := asElemV ⟨w.heap.size, 0, none⟩ ⟨t, 0, none⟩ (((w.alloc (.cells #[.pointer (some ⟨t, 0, none⟩)] 169)).alloc (.cells #[.pointer (some ⟨3, 169, none⟩), .pointer (some ⟨w.heap.size, 0, none⟩), .int .u64 150] 117)).alloc (.cells #[.pointer (some ⟨3, 169, none⟩), .pointer (some ⟨w.heap.size, 0, none⟩), .int .u64 150] 117)) (by rw [World.cell?_alloc_lt _ _ ⟨w.heap.size, 0, none⟩ (by simp; omega)]; simp)
  have st := asSet t (w.heap.size + 1 + 1 + 1) l o0 _ (by rw [World.cell?_alloc_at _ _ _ _ (by simp)]; rfl) ((hB4.cell (p := ⟨t, 0, none⟩) htl).trans t0) ((hB4.frozen (p := ⟨t, 0, none⟩) htl).trans f0)
  go_enter Tryz.func67, Tryz.ntmps67
  go_wp2
  refine wp_loop_rounds 1 ?_
  rw [rounds_succ]
  go_wp2
  go_ret
  have k0 := (hB4.cell (p := ⟨t, 0, none⟩) htl).trans t0
  generalize hW4 : World.alloc (World.alloc (World.alloc (World.alloc w _) _) _) _ = W4 at hB4 k0 ⊢
  exact ⟨rfl, World.cell?_setCell_same' _ _ _ (by rw [k0]; rfl), (hB4.mono (Nat.le_of_lt htl)).setCell (p := ⟨t, 0, none⟩) (Nat.le_refl _) _⟩
end Go.Proofs.YtlafcplcjpcikaaGreatDoor.Fi

/- What callers are told. -/
namespace Go.Proofs.YtlafcplcjpcikaaGreatDoor.Fi
open Go.RowKit Go.Proofs.Fld Go.Proofs.Fil

/-- errors.errorType's cell. -/
def ErrT (w : World) : Prop := w.cell? ⟨0, 0, none⟩ = some (.iface 142 (.agg #[.pointer (some ⟨3, 57, none⟩)]))
theorem ErrT.more {A B : World} (h : ErrT A) (k : Below A.heap.size A B) : ErrT B := (k.cell (p := ⟨0, 0, none⟩) (World.block_lt_of_cell? A _ h)).trans h
/-- The error v: none (k = 0), or a fault (k = 90). -/
inductive ErrIs : Value → Int → Prop
  | ok : ErrIs .nilIface 0
  | flt (s : ByteArray) : ErrIs (.iface 167 (.string s)) 90
theorem as_nil_any (t : Value) (w : World) : Calls Tryz.prog 67 #[.nilIface, t] w fun e w' => e = .returned (.bool false) ∧ Below w.heap.size w w' :=
  (as_nil t w).mono fun _ _ ⟨h, hw⟩ => ⟨h, hw ▸ Below.refl _ _⟩
set_option maxHeartbeats 1000000 in
theorem told_nil (w : World) : Calls Tryz.prog 107 #[.nilIface] w (IntP 0 w) := by
  go_enter Tryz.func107, Tryz.ntmps107
  go_wp2_with (go_at_call 67; refine (as_nil_any _ _).mono ?_)
  rintro e w1 ⟨rfl, b1⟩
  go_wp2
  go_ret
  exact ⟨rfl, below_more (Below.new _ _) b1⟩
theorem new1 (w : World) (v0 : Value) (t : TypeId) : (w.alloc (.cells #[v0] t)).cell? ⟨w.heap.size, 0, none⟩ = some v0 ∧ (w.alloc (.cells #[v0] t)).frozen? ⟨w.heap.size, 0, none⟩ = false := by
  refine ⟨?_, ?_⟩
  · rw [World.cell?_alloc_at _ _ _ _ rfl]; rfl
  · simp
set_option maxHeartbeats 1000000 in
theorem told_flt (s : ByteArray) (w : World) (hg : ErrT w) : Calls Tryz.prog 107 #[.iface 167 (.string s)] w (IntP 90 w) := by
  obtain ⟨n0, n1⟩ := new1 w (.string { data := #[] }) 167
  have s1 := Lib.hid (hg.more (Below.new w (.cells #[.string { data := #[] }] 167)))
  go_enter Tryz.func107, Tryz.ntmps107
  go_wp2_with (go_at_call 67; refine (as_hit s w.heap.size _ _ s1.out n0 n1).mono ?_)
  rintro e w1 ⟨rfl, c0, b1⟩
  have b2 : Below w.heap.size w w1 := (Below.new w _).trans b1
  clear n0 n1 s1
  go_wp2
  go_ret
  exact ⟨rfl, b2⟩
theorem told_any {v : Value} {k : Int} (h : ErrIs v k) (w : World) (hg : ErrT w) : Calls Tryz.prog 107 #[v] w (IntP k w) := by
  cases h
  · exact told_nil w
  · exact told_flt _ w hg
end Go.Proofs.YtlafcplcjpcikaaGreatDoor.Fi

/- A buffer in memory; span; what a copy of a part leaves. -/
namespace Go.Proofs.YtlafcplcjpcikaaGreatDoor.Fi
open Go.RowKit Go.Proofs.Fld Go.Proofs.Fil Go.Shelf Go.Sort

attribute [local go_sem] Oper.semAt_some


/-- The block B is a buffer that says u, and holds the bytes l from its first cell on. -/
def Buf (B u : Nat) (l : It) (W : World) : Prop :=
  ∃ cur : Array Value, W.heap[B]? = some (.cells cur 177 (0, 0)) ∧ cur.size = 1001 ∧ cur[1000]? = some (Value.int .i64 (u : Int)) ∧ (∀ (j : Nat) (x : UInt8), l[j]? = some x → cur[j]? = some (Value.int .u8 (x.toNat : Int))) ∧ l.length ≤ 1000
theorem Buf.lt {B u : Nat} {l : It} {W : World} (h : Buf B u l W) : B < W.heap.size := by
  obtain ⟨cur, h, _⟩ := h
  exact (Array.getElem?_eq_some_iff.1 h).1
theorem Buf.of_block {B u : Nat} {l : It} {A W : World} (h : Buf B u l A) (k : W.heap[B]? = A.heap[B]?) : Buf B u l W := by
  obtain ⟨cur, h, r⟩ := h
  exact ⟨cur, k.trans h, r⟩
theorem Buf.more {B u : Nat} {l : It} {A W : World} (h : Buf B u l A) (k : Below A.heap.size A W) : Buf B u l W := h.of_block (k.block _ h.lt)
theorem cell_row {W : World} {B : Nat} {cur : Array Value} {t : TypeId} {fr : Nat × Nat} (h : W.heap[B]? = some (.cells cur t fr)) (j : Nat) : W.cell? ⟨B, j, none⟩ = cur[j]? := by
  unfold World.cell?
  rw [h]
  simp
theorem frozen_row {W : World} {B : Nat} {cur : Array Value} {t : TypeId} (h : W.heap[B]? = some (.cells cur t (0, 0))) (j : Nat) : W.frozen? ⟨B, j, none⟩ = false := by
  unfold World.frozen?
  rw [h]
  simp
theorem Buf.used {B u : Nat} {l : It} {W : World} (h : Buf B u l W) : W.cell? ⟨B, 1000, none⟩ = some (.int .i64 (u : Int)) := by
  obtain ⟨cur, h, _, h2, _⟩ := h
  rw [cell_row h, h2]
theorem Buf.free {B u : Nat} {l : It} {W : World} (h : Buf B u l W) (j : Nat) : W.frozen? ⟨B, j, none⟩ = false := by
  obtain ⟨cur, h, _⟩ := h
  exact frozen_row h j
theorem Buf.at {B u : Nat} {l : It} {W : World} (h : Buf B u l W) (j : Nat) (x : UInt8) (hj : l[j]? = some x) : W.cell? ⟨B, j, none⟩ = some (.int .u8 (x.toNat : Int)) := by
  obtain ⟨cur, h, _, _, h3, _⟩ := h
  rw [cell_row h, h3 j x hj]
theorem Buf.fits {B u : Nat} {l : It} {W : World} (h : Buf B u l W) : l.length ≤ 1000 := by
  obtain ⟨_, _, _, _, _, h⟩ := h
  exact h
theorem zero_size : Tryz.zeroCells177.size = 1001 := by kernel_rfl
theorem zero_used : Tryz.zeroCells177[1000]? = some (Value.int .i64 0) := by kernel_rfl
theorem Buf.new (w : World) : Buf w.heap.size 0 [] (w.alloc (.cells Tryz.zeroCells177 177)) := by
  exact ⟨_, World.alloc_heap_new w _, zero_size, zero_used, (fun j x h => by simp at h), Nat.zero_le _⟩
theorem Buf.set {B u : Nat} {l : It} {W : World} (h : Buf B u l W) (v : Nat) : Buf B v l (W.setCell ⟨B, 1000, none⟩ (.int .i64 (v : Int))) := by
  have hl := h.fits
  obtain ⟨cur, h, h1, h2, h3, h4⟩ := h
  refine ⟨cur.setIfInBounds 1000 (.int .i64 (v : Int)), ?_, by rw [Array.size_setIfInBounds, h1], ?_, ?_, h4⟩
  · exact heap_setCell_same W B 1000 cur _ _ h
  · rw [Array.getElem?_setIfInBounds_self_of_lt (by omega : 1000 < cur.size)]
  · intro j x hj
    have hjl := (List.getElem?_eq_some_iff.1 hj).1
    rw [Array.getElem?_setIfInBounds_ne (by omega)]
    exact h3 j x hj
/-- What span tells. -/
def spanV (B lo hi : Nat) : Value := .slice (some ⟨B, if hi = lo then 0 else lo, none⟩) (hi - lo) (hi - lo)
theorem elemA : Tryz.prog.elem 173 = 5 := by kernel_rfl
theorem lenA : Tryz.prog.arrayLen 173 = 1000 := by kernel_rfl
theorem infoB : (Tryz.prog.info? 5).map (·.size) = some 1 := by kernel_rfl
theorem sizeB (w : World) : (sizeOf 5).run Tryz.prog w = .ok 1 w := by
  obtain ⟨i, hi, h⟩ := Option.map_eq_some_iff.1 infoB
  simp [sizeOf, typeInfo, hi, h]
theorem slice_arr (B lo hi : Nat) (h1 : lo ≤ hi) (h2 : hi ≤ 1000) (W : World) : (Instr.sliceAt 173 (.pointer (some ⟨B, 0, none⟩)) (some (.int .i64 (lo : Int))) (some (.int .i64 (hi : Int))) (some (.int .i64 (hi : Int)))).run Tryz.prog W = .ok (spanV B lo hi) W := by
  rw [run_sliceAt_array_lhm W 173 ⟨B, 0, none⟩ (by kernel_rfl) .i64 .i64 .i64 (lo : Int) (hi : Int) (hi : Int) (by omega) (by omega) (by omega) (by rw [lenA]; omega), elemA, sizeB]
  simp only [Result.andThen, slicedAt, Int.toNat_natCast, Nat.mul_one, spanV]
  by_cases e : hi = lo
  · simp [e]
  · simp [e, add_at]
def SpanP (B lo hi : Nat) (w : World) (e : Ending) (w' : World) : Prop := e = .returned (spanV B lo hi) ∧ w = w'
set_option maxHeartbeats 1000000 in
theorem span_any (B lo hi : Nat) (h1 : lo ≤ hi) (h2 : hi ≤ 1000) (w : World) : Calls Tryz.prog 113 #[.pointer (some ⟨B, 0, none⟩), .int .i64 (lo : Int), .int .i64 (hi : Int)] w (SpanP B lo hi w) := by
  have sl := slice_arr B lo hi h1 h2
  obtain ⟨V, hV⟩ : ∃ V, spanV B lo hi = V := ⟨_, rfl⟩
  rw [hV] at sl
  have HV := Lib.hid hV
  clear hV
  go_enter Tryz.func113, Tryz.ntmps113
  go_wp2
  go_ret
  refine ⟨?_, rfl⟩
  rw [HV.out]
  rfl

/-- The bytes x copied behind l. -/
def copied (cur : Array Value) (o : Nat) (x : It) : Array Value := (cur.toList.take o ++ Lib.byteCells x ++ cur.toList.drop (o + x.length)).toArray
theorem bs_data (x : It) : (bs x).data.toList = x := by simp [bs]
theorem run_copyB (W : World) (ty : TypeId) (B u : Nat) (l x : It) (hl : l.length + x.length ≤ 1000) (h : Buf B u l W) :
    ∃ W', (Builtin.copy_ #[179, 9] ty #[spanV B l.length (l.length + x.length), .string (bs x)]).run Tryz.prog W = .ok (.int .i64 (x.length : Int)) W' ∧ Buf B u (l ++ x) W' ∧ KR B (B + 1) W.heap.size W W' ∧ Below B W W' := by
  by_cases h0 : x = []
  · subst h0
    refine ⟨W, ?_, by rw [List.append_nil]; exact h, KR.refl _ _ _ _, Below.refl _ _⟩
    exact Lib.run_copy_empty_string W 179 9 ty 5 _ _ _ _ Tryz.underlying179 (by rw [infoB]; rfl) (by rw [bs_size]; rfl)
  · have hp : 0 < x.length := List.length_pos_iff.2 h0
    obtain ⟨cur, hc, h1, h2, h3, h4⟩ := h
    have hr := Lib.run_copy_row_string (P := Tryz.prog) W 179 9 ty 5 B l.length x.length x.length (bs x) cur 177 Tryz.underlying179 infoB hc (by rw [bs_size]; exact Nat.le_refl _) (by rw [bs_size]; omega)
    rw [bs_size, bs_data] at hr
    have hsp : spanV B l.length (l.length + x.length) = .slice (some ⟨B, l.length, none⟩) x.length x.length := by
      unfold spanV
      rw [if_neg (by omega), Nat.add_sub_cancel_left]
    refine ⟨_, by rw [hsp]; exact hr, ⟨copied cur l.length x, setRow_heap W B _ _ _ _ hc, ?_, ?_, ?_, by rw [List.length_append]; exact hl⟩, ⟨by simp [World.setRow], fun k _ hk => setRow_other W B k _ (by omega)⟩, below_setRow (Below.refl _ _) (Nat.le_refl _) _⟩
    · unfold copied
      simp only [List.size_toArray, List.length_append, List.length_take, List.length_drop, Lib.byteCells_length, Array.length_toList]
      omega
    · unfold copied
      rw [List.getElem?_toArray, List.getElem?_append_right (by simp only [List.length_append, List.length_take, Lib.byteCells_length, Array.length_toList]; omega), List.getElem?_drop]
      simp only [List.length_append, List.length_take, Lib.byteCells_length, Array.length_toList]
      rw [show l.length + x.length + (1000 - (min l.length cur.size + x.length)) = 1000 by omega, Array.getElem?_toList]
      exact h2
    · intro j y hj
      unfold copied
      rw [List.getElem?_toArray]
      by_cases hjl : j < l.length
      · rw [List.getElem?_append_left hjl] at hj
        rw [List.append_assoc, List.getElem?_append_left (by simp only [List.length_take, Array.length_toList]; omega), List.getElem?_take, if_pos hjl, Array.getElem?_toList]
        exact h3 j y hj
      · rw [List.getElem?_append_right (by omega)] at hj
        have hjx := (List.getElem?_eq_some_iff.1 hj).1
        rw [List.append_assoc, List.getElem?_append_right (by simp only [List.length_take, Array.length_toList]; omega), List.getElem?_append_left (by simp only [List.length_take, Lib.byteCells_length, Array.length_toList]; omega)]
        simp only [List.length_take, Array.length_toList]
        rw [show j - min l.length cur.size = j - l.length by omega]
        unfold Lib.byteCells
        rw [List.getElem?_map, hj]
        rfl
theorem run_stringB (W : World) (B u : Nat) (l : It) (h : Buf B u l W) : (convert 179 9 (spanV B 0 l.length)).run Tryz.prog W = .ok (.string (bs l)) W := by
  have hsp : spanV B 0 l.length = .slice (some ⟨B, 0, none⟩) l.length l.length := by
    unfold spanV
    simp
  rw [hsp]
  exact run_convert_bytes_back W 179 9 5 ⟨B, 0, none⟩ l.length l Tryz.underlying179 Tryz.underlying5 Tryz.underlying9 (fun j hj => by
    rw [add_at, Nat.zero_add]
    exact h.at j _ (List.getElem?_eq_getElem hj))
end Go.Proofs.YtlafcplcjpcikaaGreatDoor.Fi

/- A region that draws its order, within a round of a range over a function, at the wide fence. -/
namespace Go.Proofs.YtlafcplcjpcikaaGreatDoor.Fi
open Go.RowKit

section
variable {P : Program} {l n : Nat} {ops : Array Oper} {Q : Exit → Act → World → Prop}
theorem wp_in_round {o : Oper} (hd : ∀ c, o.op ≠ .defer c) {next : Act → World → Prop} {a : Act} {w : World} (h : o.wp P a w next Q) : o.wpIn (Fence.wide.inRound l) n P a w next Q := by
  refine ⟨fun _ _ => trivial, ?_⟩
  unfold Oper.wp at h
  rw [Oper.semAt_eq _ _ _ hd]
  generalize (execOp a.eval o).run P w = r at *
  cases r with
  | ok x w' =>
    cases x <;> first | exact h | exact h.elim | skip
    case enter f args => exact ⟨(fun hx => by cases hx), CallsIn.inRound l (callsIn_wide.2 h)⟩
    case row row args =>
      refine ⟨(fun hx => by cases hx), fun c cs _ => ?_⟩
      obtain ⟨v, w2, hr, hs⟩ := h c cs
      exact ⟨v, w2, hr, stepsIn_wide.2 hs⟩
  | halt x w' =>
    cases x <;> first | exact h | exact h.elim
theorem wpOps_in_round (hd : ∀ (i : Nat) (o : Oper), ops[i]? = some o → ∀ c, o.op ≠ .defer c) (hL : ¬ LetsOut Q) : ∀ (is : List Nat) (a : Act) (w : World), wpOps P ops Q is a w → wpOpsIn (Fence.wide.inRound l) n P ops Q is a w
  | [], _, _, h => h
  | i :: rest, a, w, h => by
    unfold wpOps at h
    unfold wpOpsIn
    cases ho : ops[i]? with
    | none =>
      simp only [ho] at h ⊢
      exact wpOps_in_round hd hL rest a w h
    | some o =>
      simp only [ho] at h ⊢
      split
      · rename_i hw
        simp only [hw, if_true] at h
        rcases h with h | h
        · exact Oper.wpIn_mono (fun a' w' h' => wpOps_in_round hd hL rest a' w' h') (wp_in_round (hd i o ho) h)
        · exact absurd h.2 hL
      · rename_i hw
        simp only [hw] at h
        exact ⟨fun _ _ => trivial, wpOps_in_round hd hL rest _ w h⟩
def noDefer (ops : Array Oper) : Bool := ops.toList.all fun o => match o.op with | .defer _ => false | _ => true
theorem noDefer_spec (h : noDefer ops = true) : ∀ (i : Nat) (o : Oper), ops[i]? = some o → ∀ c, o.op ≠ .defer c := by
  intro i o ho c e
  have hm : o ∈ ops.toList := by
    obtain ⟨hi, rfl⟩ := Array.getElem?_eq_some_iff.1 ho
    exact Array.getElem_mem_toList hi
  have := List.all_eq_true.1 h o hm
  rw [e] at this
  cases this
theorem wpIn_round_held {S : World → Prop} {id : Nat} {a : Act} {w : World} (hm : P.follows .mixedOrders = true) (hd : noDefer ops = true) (hL : ¬ LetsOut Q) (hS : S w.drew)
    (h : S w.drew → wpAnyH P .any ops Q S ops.size (Array.replicate ops.size false) a w.drew) : (Code.region id ops true).wpIn (Fence.wide.inRound l) n P Q a w :=
  wpIn_region_draw fun t => by
    simp only [Region.schedule, hm, Bool.true_or, if_true]
    exact wpOps_in_round (noDefer_spec hd) hL _ _ _ (wpAny_sound ops.size t _ a _ (wpAny_of_held _ _ _ _ (h hS)))
end
end Go.Proofs.YtlafcplcjpcikaaGreatDoor.Fi

/- A range over a function whose values hang on those before: what is sure of a value ahead of its round. A law beside the library's. -/
namespace Go.Proofs.YtlafcplcjpcikaaGreatDoor.Fi
open Go.RowKit Go.Shelf

/-- The iterator's contract: H tells what is sure of a value behind those that have come. -/
def SeqX {α : Type} (H : List α → α → Prop) (n : Nat) (P : Program) (g : Nat) (lb : Array Value) (encs : α → Array Value) (Kp : World → World → Prop) (S Sp : List α → Prop) (w : World) : Prop :=
  ∀ (l : Nat) (J Jx : List α → World → Prop) (W : World), Below w.heap.size w W →
    (∀ pre x W1, J pre W1 → H pre x → YieldAt Fence.wide (n - 1) P l (encs x) W1 fun e W' => (e = .returned (.bool true) ∧ J (pre ++ [x]) W' ∧ Kp W1 W') ∨ (e = .returned (.bool false) ∧ Jx (pre ++ [x]) W')) →
    J [] W → CallsIn Fence.wide n P g (#[.func (.yield l) #[] #[]] ++ lb) W fun e W' => (∃ v, e = .returned v) ∧ ((∃ xs, S xs ∧ J xs W') ∨ (∃ pre, Sp pre ∧ Jx pre W'))
abbrev mk (D : Nat) : Deferred := { target := .collected D, args := #[] }

section
variable {α : Type} {P : Program} {n : Nat} {g : Operand} {ps : Array Tmp} {assign body : Code} {Q : Exit → Act → World → Prop} {a : Act} {w : World}

/-- The loop's record, in its states. -/
def loopRec (fn : FuncId) (tm : Array Value) (ps : Array Tmp) (assign body : Code) (d : Nat) (st : LoopState) (pe : Option Code) : Obj := .loop { state := st, pending := pe, fn, tmps := tm, params := ps, assign, body, defers := d }

/-- A round's end: the record says how it went on; the block for deferred calls lies as it lay. -/
theorem endRound_at {fn : FuncId} {tm : Array Value} {d l : Nat} {B : Nat} {W W3 : World} (hB : B ≤ d) (hl : d < l) (hR : W.heap[l]? = some (loopRec fn tm ps assign body d .busy none)) (hD : W.heap[d]? = some (.deferred (some []))) (hk : KeepsFrom B W W3) (jump : Option Code) :
    (Instr.endRound l jump).run P W3 = .ok (.bool jump.isNone) (W3.putObj l (loopRec fn tm ps assign body d (if jump.isNone then .ready else .done) jump)) ∧ W3.heap[l]? = some (loopRec fn tm ps assign body d .busy none) ∧
      (W3.putObj l (loopRec fn tm ps assign body d (if jump.isNone then .ready else .done) jump)).heap[l]? = some (loopRec fn tm ps assign body d (if jump.isNone then .ready else .done) jump) ∧
      (W3.putObj l (loopRec fn tm ps assign body d (if jump.isNone then .ready else .done) jump)).heap[d]? = some (.deferred (some [])) := by
  have h3 := hk.same l _ (by omega) hR rfl
  exact ⟨run_endRound jump h3, h3, World.putObj_heap_same (Array.getElem?_eq_some_iff.1 h3).1, (World.putObj_heap_other (by omega)).trans (hk.same d _ hB hD rfl)⟩

set_option maxHeartbeats 1000000 in
theorem wpIn_rangeX (h1 : 1 ≤ n) {gf : Nat} {lb : Array Value} (hg : a.eval g = .func (.func gf) #[] lb) (eg : ∀ args w, (callFunc gf args).run P w = .ok (.enter gf args) w)
    {encs : α → Array Value} {H : List α → α → Prop} {Kp : World → World → Prop} {S Sp : List α → Prop} {w0 : World} (hseq : SeqX H (n - 1) P gf lb encs Kp S Sp w0) (hKt : ∀ {A B C : World}, Kp A B → Kp B C → Kp A C) (hKb : ∀ (W : World) (l : Nat) (o o' : Obj), w.heap.size ≤ l → W.heap[l]? = some o → o.isCells = false → o.isWalk = false → Kp W (W.putObj l o')) (hb0 : Below w0.heap.size w0 w) (hps : ∀ x, (encs x).size = ps.size)
    (I : List α → World → Prop) (Ix : Code → List α → World → Prop) (hI : OwnFrom w.heap.size I) (hIx : ∀ c, OwnFrom w.heap.size (Ix c)) (h0 : I [] w) (a₁ : α → Act)
    (hassign : ∀ (l : Nat) (x : α) (W : World) (K : Act → World → Prop), K (a₁ x) W →
      assign.wpIn (Fence.wide.inRound l) (n - 1 - 1) P (Exit.then K (fun _ _ _ => False)) { tmps := (ps.zip (encs x)).foldl (fun t (p, v) => t.setIfInBounds p v) a.tmps, defers := [] } W)
    (hbody : ∀ (l : Nat) (pre : List α) (x : α) (W : World), I pre W → H pre x → body.wpIn (Fence.wide.inRound l) (n - 1 - 1) P (ownPostG w.heap.size Kp I Ix (pre ++ [x]) W) (a₁ x) W)
    (hdone : ∀ (D : Nat) (xs : List α) (W : World), w.heap.size ≤ D → S xs → I xs W → W.heap[D]? = some (.deferred (some [])) → Q .normal { a with defers := mk D :: a.defers } W)
    (hstop : ∀ (D : Nat) (c : Code) (pre : List α) (W : World), w.heap.size ≤ D → Sp pre → Ix c pre W → W.heap[D]? = some (.deferred (some [])) → c.wpIn Fence.wide n P Q { a with defers := mk D :: a.defers } W) :
    (Code.rangeFunc g ps assign body).wpIn Fence.wide n P Q a w := by
  refine wpIn_rangeFunc ?_
  intro fn hfn
  have hro : Fence.wide.round = none := rfl
  rw [hro]
  let L (st : LoopState) (pe : Option Code) : Obj := loopRec fn a.tmps ps assign body w.heap.size st pe
  obtain ⟨V, hV⟩ : ∃ V, (w.alloc (.deferred (some []))).alloc (L .ready none) = V := ⟨_, rfl⟩
  have vL : V.heap[w.heap.size + 1]? = some (L .ready none) := by
    have := World.alloc_heap_new (w.alloc (.deferred (some []))) (L .ready none)
    rw [World.size_alloc] at this
    rw [← hV]
    exact this
  have vD : V.heap[w.heap.size]? = some (.deferred (some [])) := by
    rw [← hV]
    exact (Below.heap_alloc _ _ _ (by simp)).trans (World.alloc_heap_new w _)
  have vB : Below w.heap.size w V := by
    rw [← hV]
    exact (Below.new w _).alloc (by simp) _
  refine ⟨w.heap.size + 1, [mk w.heap.size], V, { target := .fn (.func gf) lb, args := #[.func (.yield (w.heap.size + 1)) #[] #[]] }, V, gf, #[.func (.yield (w.heap.size + 1)) #[] #[]] ++ lb, V, ?_, ?_, ?_, ?_, fun _ => h1, ?_⟩
  · rw [← hV]
    exact run_enterLoop_outer _ _ _ _ _
  · simp only [resolve, hg]
    simp [go_sem]
  · intro _ _
    trivial
  · simp [invoke, go_sem, eg]
  refine (hseq (w.heap.size + 1) (fun pre W => I pre W ∧ W.heap[w.heap.size + 1]? = some (L .ready none) ∧ W.heap[w.heap.size]? = some (.deferred (some [])))
    (fun pre W => ∃ c, Ix c pre W ∧ W.heap[w.heap.size + 1]? = some (L .done (some c)) ∧ W.heap[w.heap.size]? = some (.deferred (some []))) V (hb0.trans (vB.mono hb0.size))
    ?_ ⟨by rw [← hV]; exact hI.alloc _ (hI.alloc _ h0), vL, vD⟩).mono ?_
  · rintro pre x W ⟨hi, hl, hd⟩ hH
    have hlt := (Array.getElem?_eq_some_iff.1 hl).1
    refine ⟨fn, _, assign, body, run_yield hl (hps x), roundIn_of_wpIn hfn (hassign _ x W _ ⟨_, run_beginRound hl rfl, ?_⟩)⟩
    have hl2 : (W.putObj (w.heap.size + 1) (L .busy none)).heap[w.heap.size + 1]? = some (L .busy none) := World.putObj_heap_same hlt
    have hd2 : (W.putObj (w.heap.size + 1) (L .busy none)).heap[w.heap.size]? = some (.deferred (some [])) := (World.putObj_heap_other (by omega)).trans hd
    have hk2 : Kp W (W.putObj (w.heap.size + 1) (L .busy none)) := hKb _ _ _ _ (by omega) hl rfl rfl
    refine wpIn_mono (hbody _ pre x _ (hI.putObj _ hi (by omega) hl rfl) hH) ?_
    rintro e a3 W3 hp
    cases e with
    | normal =>
      obtain ⟨hr, hl3, hl4, hk4⟩ := endRound_at (P := P) (Nat.le_refl _) (Nat.lt_succ_self _) hl2 hd2 hp.1 none
      exact ⟨_, _, hr, .inl ⟨rfl, ⟨hI.putObj _ hp.2.2 (by omega) hl3 rfl, hl4, hk4⟩, hKt (hKt hk2 hp.2.1) (hKb _ _ _ _ (by omega) hl3 rfl rfl)⟩⟩
    | ret =>
      obtain ⟨hr, hl3, hl4, hk4⟩ := endRound_at (P := P) (Nat.le_refl _) (Nat.lt_succ_self _) hl2 hd2 hp.1 (some .ret)
      exact ⟨_, _, hr, .inr ⟨rfl, ⟨.ret, (hIx _).putObj _ hp.2 (by omega) hl3 rfl, hl4, hk4⟩⟩⟩
    | exit id =>
      obtain ⟨hr, hl3, hl4, hk4⟩ := endRound_at (P := P) (Nat.le_refl _) (Nat.lt_succ_self _) hl2 hd2 hp.1 (some (.exit id))
      exact ⟨_, _, hr, .inr ⟨rfl, ⟨.exit id, (hIx _).putObj _ hp.2 (by omega) hl3 rfl, hl4, hk4⟩⟩⟩
    | goto t =>
      obtain ⟨hr, hl3, hl4, hk4⟩ := endRound_at (P := P) (Nat.le_refl _) (Nat.lt_succ_self _) hl2 hd2 hp.1 (some (.goto t))
      exact ⟨_, _, hr, .inr ⟨rfl, ⟨.goto t, (hIx _).putObj _ hp.2 (by omega) hl3 rfl, hl4, hk4⟩⟩⟩
    | panic ch => exact hp.elim
    | outgrown => exact hp.elim
  · rintro e W2 ⟨⟨v, rfl⟩, (⟨xs, hS, hi, hl, hd⟩ | ⟨pre, hSp, c, hi, hl, hd⟩)⟩
    · exact ⟨none, _, run_endLoop hl (by simp), hdone _ xs _ (Nat.le_refl _) hS (hI.putObj _ hi (by omega) hl rfl) ((World.putObj_heap_other (by omega)).trans hd)⟩
    · exact ⟨some c, _, run_endLoop hl (by simp), hstop _ c pre _ (Nat.le_refl _) hSp ((hIx c).putObj _ hi (by omega) hl rfl) ((World.putObj_heap_other (by omega)).trans hd)⟩
end

end Go.Proofs.YtlafcplcjpcikaaGreatDoor.Fi

/- laid: the parts that are to be put, by a range over a function. -/
namespace Go.Proofs.YtlafcplcjpcikaaGreatDoor.Fi
open Go.RowKit Go.Proofs.Fld Go.Proofs.Fil Go.Shelf Go.Sort

attribute [local go_sem] Oper.semAt_some

/-- A part, and where it would end, as values. -/
def prv (x : It × Nat) : Array Value := #[.string (bs x.1), .int .i64 (x.2 : Int)]
/-- What a round tells: whether to go on. -/
def ToldR (J Jx : List (It × Nat) → World → Prop) (pre : List (It × Nat)) (x : It × Nat) (lo hi m : Nat) (W W' : World) (b : Bool) : Prop :=
  (b = true → J (pre ++ [x]) W' ∧ KR lo hi m W W') ∧ (b = false → Jx (pre ++ [x]) W')

theorem tot_mem {l : List It} {k : Nat} {x : It} (h : l[k]? = some x) : tot (l.take k) + x.length ≤ tot l := by
  have h1 := tot_take_le l (k + 1)
  rw [tot_next h] at h1
  exact h1

set_option maxRecDepth 100000 in
set_option maxHeartbeats 4000000 in
theorem laid1_in (n : Nat) (hn : 1 ≤ n) (lo hi m l B B1 B2 u len cap : Nat) (ao : Option Addr) (zs : List It) (hreach : len ≤ 1000000) (hsum : u + tot zs ≤ 4000000000000000000) (J Jx : List (It × Nat) → World → Prop)
    (W : World) (_hmW : m ≤ W.heap.size) 
    (hY : ∀ pre x W, J pre W → pre ++ [x] <+: prs u zs → YieldAt Fence.wide (n - 1) Tryz.prog l (prv x) W fun e W' => ∃ g, e = .returned (.bool g) ∧ ToldR J Jx pre x lo hi m W W' g)
    (hB1 : W.cell? ⟨B1, 0, none⟩ = some (.pointer (some ⟨B, 0, none⟩))) (hU : W.cell? ⟨B, 1000, none⟩ = some (.int .i64 (u : Int))) (hB2 : W.cell? ⟨B2, 0, none⟩ = some (.slice ao len cap))
    (hL : Txs W ao len cap zs) (hb : 0 < len → ∀ a, ao = some a → a.block < m ∧ (a.block < lo ∨ hi ≤ a.block))
    (h0 : J [] W) :
    CallsIn Fence.wide n Tryz.prog 117 #[.func (.yield l) #[] #[], .pointer (some ⟨B1, 0, none⟩), .pointer (some ⟨B2, 0, none⟩)] W fun e W' => (∃ v, e = .returned v) ∧
      ((∃ ys, ys = prs u zs ∧ J ys W') ∨ (∃ pre, pre <+: prs u zs ∧ Jx pre W')) := by
  refine callsIn_of_wp Tryz.func117 rfl trivial ?_ rfl
  simp only [Tryz.ntmps117, List.size_toArray, List.length_cons, List.length_nil, Nat.reduceAdd, Nat.reduceSub, Array.replicate_succ, Array.replicate_zero, List.push_toArray, List.append_toArray, List.nil_append, List.cons_append]
  have HLN := Lib.hid hL.hlen
  have HL := Lib.hid hL
  have HB := Lib.hid hb
  clear hL hb
  have HY := Lib.hid hY
  clear hY
  gi_wp2
  gi_loopw [4, 13] (fun s i wr => ∃ k t : Nat, k ≤ len ∧ i = .int .i64 k ∧ s = .int .i64 (t : Int) ∧ t = u + tot (zs.take k) ∧ Hid (J ((prs u zs).take k) wr) ∧ KR lo hi m W wr)
    (fun _ i _ => len - (intOf i).toNat)
  case atStart => exact ⟨0, u, Nat.zero_le _, rfl, rfl, (by simp [tot]), by rw [List.take_zero]; exact h0, KR.refl _ _ _ _⟩
  case round =>
    obtain ⟨k, t, hk, rfl, rfl, ht, HJ, hnx⟩ := hrel
    have hsz := hnx.1
    by_cases hlt : k < len
    · obtain ⟨x, hx⟩ : ∃ x, zs[k]? = some x := ⟨_, List.getElem?_eq_getElem (by rw [HLN.out]; exact hlt)⟩
      obtain ⟨b, off, rfl, hbW, hcs⟩ := HL.out.at (by omega)
      have hbm := HB.out (by omega) _ rfl
      have q0 := hnx.cell (hcs k x hx) hbm.1 hbm.2
      have htm := tot_mem hx
      have htn := tot_next hx
      have hpn := prs_next (u := u) hx
      have hsx := bs_size x
      obtain ⟨t', ht'⟩ : ∃ t', t + x.length = t' := ⟨_, rfl⟩
      have hw : IntKind.i64.wrap ((t : Int) + (x.length : Int)) = (t' : Int) := by rw [IntKind.wrap_i64]; omega
      have hpl : (prs u zs).take k ++ [(x, t')] <+: prs u zs := by
        rw [← ht', ht, ← hpn]
        exact List.take_prefix _ _
      have HT := Lib.hid (And.intro ht (And.intro htn (And.intro hpn (And.intro hpl ht'))))
      have HNX := Lib.hid hnx
      clear hcs hx htm htn hpn hpl ht ht' hnx
      obtain ⟨fn, tmps, assign, body, hy, hR⟩ := HY.out _ (x, t') wr HJ.out HT.out.2.2.2.1
      simp only [prv] at hy
      gi_wp2
      refine hR.mono ?_
      rintro e W3 ⟨g, rfl, htold⟩
      have hS : (prs u zs).take (k + 1) = (prs u zs).take k ++ [(x, t')] := by
        rw [HT.out.2.2.1, ← HT.out.2.2.2.2, HT.out.1]
      cases g with
      | true =>
        obtain ⟨hJ3, hk3⟩ := htold.1 rfl
        have hw3 := HNX.out.trans hk3
        have HJ3 := Lib.hid hJ3
        have HS := Lib.hid hS
        clear htold hR hy hJ3 hS
        gi_wp2
        go_roundw
        case rel => exact ⟨k + 1, t', by omega, by simp, rfl, by rw [HT.out.2.1, ← HT.out.2.2.2.2, HT.out.1]; omega, by rw [HS.out]; exact HJ3.out, hw3⟩
        case measure => simp [intOf]; omega
      | false =>
        have hx3 := Lib.hid (htold.2 rfl)
        have HS := Lib.hid hS
        clear htold hR hy hS
        gi_wp2
        refine bodyPost_ret (results_none rfl _ _ _) rfl ?_
        exact ⟨⟨_, rfl⟩, .inr ⟨_, by rw [← HS.out]; exact List.take_prefix _ _, hx3.out⟩⟩
    · obtain rfl : k = len := by omega
      gi_wp2
      go_end0
      exact ⟨⟨_, rfl⟩, .inl ⟨_, rfl, by have := HJ.out; rw [List.take_of_length_le (by rw [prs_length, HLN.out]; exact Nat.le_refl _)] at this; exact this⟩⟩

theorem laid_stops (n : Nat) (hn : 1 ≤ n) (lo hi m B B1 B2 u len cap : Nat) (ao : Option Addr) (zs : List It) (hreach : len ≤ 1000000) (hsum : u + tot zs ≤ 4000000000000000000) (w : World) (hm : m ≤ w.heap.size)
    (hB1 : w.cell? ⟨B1, 0, none⟩ = some (.pointer (some ⟨B, 0, none⟩))) (hU : w.cell? ⟨B, 1000, none⟩ = some (.int .i64 (u : Int))) (hB2 : w.cell? ⟨B2, 0, none⟩ = some (.slice ao len cap))
    (hL : Txs w ao len cap zs) (hb : 0 < len → ∀ a, ao = some a → a.block < m ∧ (a.block < lo ∨ hi ≤ a.block)) :
    SeqX (fun pre x => pre ++ [x] <+: prs u zs) n Tryz.prog 117 #[.pointer (some ⟨B1, 0, none⟩), .pointer (some ⟨B2, 0, none⟩)] prv (KR lo hi m) (fun ys => ys = prs u zs) (fun pre => pre <+: prs u zs) w := fun l J Jx W hW hY h0 => by
  refine (laid1_in n hn lo hi m l B B1 B2 u len cap ao zs hreach hsum J Jx W (Nat.le_trans hm hW.size) ?_ (cell_later hW hB1) (cell_later hW hU) (cell_later hW hB2) (hL.more hW) hb h0).mono ?_
  · intro pre x W1 hp hlt
    refine (hY pre x W1 hp hlt).mono ?_
    rintro e W' (⟨rfl, h1, h2⟩ | ⟨rfl, h1⟩)
    · exact ⟨true, rfl, fun _ => ⟨h1, h2⟩, fun h => by cases h⟩
    · exact ⟨false, rfl, fun h => (by cases h), fun _ => h1⟩
  · rintro e W' ⟨he, ⟨ys, hys, hj⟩ | ⟨pre, hp, hj⟩⟩
    · exact ⟨he, .inl ⟨ys, hys, hj⟩⟩
    · exact ⟨he, .inr ⟨pre, hp, hj⟩⟩

/-- The iterator, and what its boxes hold. -/
def LaidP (B : Nat) (ao : Option Addr) (len cap : Nat) (w : World) (e : Ending) (w' : World) : Prop :=
  e = .returned (.func (.func 117) #[] #[.pointer (some ⟨w.heap.size, 0, none⟩), .pointer (some ⟨w.heap.size + 1, 0, none⟩)]) ∧ w'.cell? ⟨w.heap.size, 0, none⟩ = some (.pointer (some ⟨B, 0, none⟩)) ∧ w'.cell? ⟨w.heap.size + 1, 0, none⟩ = some (.slice ao len cap) ∧ w'.heap.size = w.heap.size + 2 ∧ Below w.heap.size w w'
set_option maxHeartbeats 1000000 in
theorem laid_any (B : Nat) (ao : Option Addr) (len cap : Nat) (w : World) :
    Calls Tryz.prog 116 #[.pointer (some ⟨B, 0, none⟩), .slice ao len cap] w (LaidP B ao len cap w) := by
  go_enter Tryz.func116, Tryz.ntmps116
  go_wp2
  go_ret
  refine ⟨rfl, ?_, ?_, ?_, ?_⟩
  · go_simp
  · go_simp
  · simp
  · exact (Below.new w _).alloc (by simp) _

end Go.Proofs.YtlafcplcjpcikaaGreatDoor.Fi
