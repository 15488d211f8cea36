/- coming: the items that are to come, by a range over a function. -/
import Derived.Test.YtbdhagilmdmpdaaDoorRgRows
namespace Go.Proofs.YtbdhagilmdmpdaaDoor
open Go.RowKit Go.Proofs.Fld Go.Proofs.Rng Go.Shelf Go.Sort

attribute [local go_sem] Oper.semAt_some

/-- All blocks below m but those from lo up to hi lie as they lay. -/
def KR (lo hi m : Nat) (A B : World) : Prop := A.heap.size ≤ B.heap.size ∧ ∀ k, k < m → (k < lo ∨ hi ≤ k) → B.heap[k]? = A.heap[k]?
theorem KR.refl (lo hi m : Nat) (A : World) : KR lo hi m A A := ⟨Nat.le_refl _, fun _ _ _ => rfl⟩
theorem KR.trans {lo hi m : Nat} {A B C : World} (h : KR lo hi m A B) (k : KR lo hi m B C) : KR lo hi m A C := ⟨Nat.le_trans h.1 k.1, fun i hi hx => (k.2 i hi hx).trans (h.2 i hi hx)⟩
theorem KR.of_below {lo hi m : Nat} {A B : World} (h : Below m A B) : KR lo hi m A B := ⟨h.size, fun k hk _ => h.block k hk⟩
theorem krK_b {lo hi m : Nat} {w : World} (hn : m ≤ w.heap.size) (W : World) (l : Nat) (o o' : Obj) (hl : w.heap.size ≤ l) (h : W.heap[l]? = some o) (h1 : o.isCells = false) (h2 : o.isWalk = false) : KR lo hi m W (W.putObj l o') := KR.of_below (belowK_b hn W l o o' hl h h1 h2)
theorem KR.set {lo hi m : Nat} (A : World) (X o : Nat) (v : Value) (h1 : lo ≤ X) (h2 : X < hi) : KR lo hi m A (A.setCell ⟨X, o, none⟩ v) := ⟨by simp [World.setCell], fun k _ hx => Below.heap_setCell _ _ _ _ (fun e => by have e' : k = X := e; omega)⟩
theorem KR.cell {lo hi m : Nat} {A B : World} (h : KR lo hi m A B) {a : Addr} {v : Value} (hc : A.cell? a = some v) (hm : a.block < m) (hx : a.block < lo ∨ hi ≤ a.block) : B.cell? a = some v := (World.cell?_of_block (h.2 _ hm hx)).trans hc

/-- An item, and what would be used by then, as values. -/
def prv (x : It × Nat) : Array Value := #[.string (bs x.1), .int .i64 (x.2 : Int)]
/-- What a round tells: whether to go on. -/
def ToldR (J Jx : List (It × Nat) → World → Prop) (pre : List (It × Nat)) (x : It × Nat) (lo hi m : Nat) (W W' : World) (b : Bool) : Prop :=
  (b = true → J (pre ++ [x]) W' ∧ KR lo hi m W W') ∧ (b = false → Jx (pre ++ [x]) W')

set_option maxHeartbeats 400000 in
theorem takes_any (x : It) (hx : x.length ≤ 1000000) (w : World) :
    Calls Tryd.prog 42 #[.string (bs x)] w fun e w' => e = .returned (.int .i64 ((x.length : Int) + 1)) ∧ w = w' := by
  have hz := bs_size x
  have hw : IntKind.i64.wrap ((x.length : Int) + 1) = (x.length : Int) + 1 := by rw [IntKind.wrap_i64]; omega
  go_enter Tryd.func42, Tryd.ntmps42
  go_wp2
  go_ret
  exact ⟨rfl, rfl⟩

theorem takes_mem {l : List It} {k : Nat} {x : It} (h : l[k]? = some x) : takes (l.take k) + x.length + 1 ≤ takes l := by
  have h1 := takes_take_le l (k + 1)
  rw [takes_next h] at h1
  exact h1

set_option maxRecDepth 100000 in
set_option maxHeartbeats 4000000 in
theorem coming1_in (n : Nat) (hn : 1 ≤ n) (lo hi m l B1 B2 u len cap : Nat) (ao : Option Addr) (zs : List It) (hreach : len ≤ 1000000) (hsum : u + takes zs ≤ 1000000) (J Jx : List (It × Nat) → World → Prop)
    (W : World) (_hmW : m ≤ W.heap.size) (hJ : AbidesFrom W.heap.size J)
    (hY : ∀ pre x W, J pre W → pre.length < (prs u zs).length → YieldAt Fence.wide (n - 1) Tryd.prog l (prv x) W fun e W' => ∃ g, e = .returned (.bool g) ∧ ToldR J Jx pre x lo hi m W W' g)
    (hB1 : W.cell? ⟨B1, 2, none⟩ = some (.int .i64 (u : Int))) (hB2 : W.cell? ⟨B2, 0, none⟩ = some (.slice ao len cap))
    (hL : Txs W ao len cap zs) (hb : 0 < len → ∀ a, ao = some a → a.block < m ∧ (a.block < lo ∨ hi ≤ a.block))
    (h0 : J [] W) :
    CallsIn Fence.wide n Tryd.prog 41 #[.func (.yield l) #[] #[], .pointer (some ⟨B1, 0, none⟩), .pointer (some ⟨B2, 0, none⟩)] W fun e W' => (∃ v, e = .returned v) ∧
      ((∃ ys, ys = prs u zs ∧ J ys W') ∨ (∃ pre, pre <+: prs u zs ∧ Jx pre W')) := by
  refine callsIn_of_wp Tryd.func41 rfl trivial ?_ rfl
  simp only [Tryd.ntmps41, List.size_toArray, List.length_cons, List.length_nil, Nat.reduceAdd, Nat.reduceSub, Array.replicate_succ, Array.replicate_zero, List.push_toArray, List.append_toArray, List.nil_append, List.cons_append]
  have HLN := Lib.hid hL.hlen
  have HL := Lib.hid hL
  have HB := Lib.hid hb
  clear hL hb
  have HJ0 := Lib.hid hJ
  have HY := Lib.hid hY
  clear hJ hY
  gi_wp2
  gi_loopw [4, 11] (fun s i wr => ∃ k t : Nat, k ≤ len ∧ i = .int .i64 k ∧ s = .int .i64 (t : Int) ∧ t = u + takes (zs.take k) ∧ Hid (J ((prs u zs).take k) wr) ∧ KR lo hi m W wr)
    (fun _ i _ => len - (intOf i).toNat)
  case atStart => exact ⟨0, u, Nat.zero_le _, rfl, rfl, (by simp [takes]), by rw [List.take_zero]; exact h0, KR.refl _ _ _ _⟩
  case round =>
    obtain ⟨k, t, hk, rfl, rfl, ht, HJ, hnx⟩ := hrel
    have hsz := hnx.1
    by_cases hlt : k < len
    · obtain ⟨x, hx⟩ : ∃ x, zs[k]? = some x := ⟨_, List.getElem?_eq_getElem (by rw [HLN.out]; exact hlt)⟩
      obtain ⟨b, off, rfl, hbW, hcs⟩ := HL.out.at (by omega)
      have hbm := HB.out (by omega) _ rfl
      have q0 := hnx.cell (hcs k x hx) hbm.1 hbm.2
      have htm := takes_mem hx
      have htn := takes_next hx
      have hpn := prs_next (u := u) hx
      have hpl : ((prs u zs).take k).length < (prs u zs).length := by rw [List.length_take, prs_length, HLN.out]; omega
      have hxl : x.length ≤ 1000000 := by omega
      have htx : t + x.length + 1 ≤ 1000000 := by omega
      obtain ⟨t', ht'⟩ : ∃ t', t + x.length + 1 = t' := ⟨_, rfl⟩
      have hw : IntKind.i64.wrap ((t : Int) + ((x.length : Int) + 1)) = (t' : Int) := by rw [IntKind.wrap_i64]; omega
      have HT := Lib.hid (And.intro ht (And.intro htn (And.intro hpn (And.intro hpl ht'))))
      have HNX := Lib.hid hnx
      have HC := Lib.hid (takes_any x hxl wr)
      clear hcs hx htm htn hpn hpl ht ht' hnx
      obtain ⟨fn, tmps, assign, body, hy, hR⟩ := HY.out _ (x, t') wr HJ.out HT.out.2.2.2.1
      simp only [prv] at hy
      gi_wp2_with (refine ⟨trivial, ?_⟩; gi_at_call 42; refine (callsIn_wide.2 HC.out).mono ?_)
      refine hR.mono ?_
      rintro e W3 ⟨g, rfl, htold⟩
      have hS : (prs u zs).take (k + 1) = (prs u zs).take k ++ [(x, t')] := by
        rw [HT.out.2.2.1, ← HT.out.2.2.2.2, HT.out.1]
      cases g with
      | true =>
        obtain ⟨hJ3, hk3⟩ := htold.1 rfl
        have hw3 := HNX.out.trans hk3
        have HJ3 := Lib.hid hJ3
        have HS := Lib.hid hS
        clear htold hR hy hJ3 hS
        gi_wp2
        go_roundw
        case rel => exact ⟨k + 1, t', by omega, by simp, rfl, by rw [HT.out.2.1, ← HT.out.2.2.2.2, HT.out.1]; omega, by rw [HS.out]; exact HJ3.out, hw3⟩
        case measure => simp [intOf]; omega
      | false =>
        have hx3 := Lib.hid (htold.2 rfl)
        have HS := Lib.hid hS
        clear htold hR hy hS
        gi_wp2
        refine bodyPost_ret (results_none rfl _ _ _) rfl ?_
        exact ⟨⟨_, rfl⟩, .inr ⟨_, by rw [← HS.out]; exact List.take_prefix _ _, hx3.out⟩⟩
    · obtain rfl : k = len := by omega
      gi_wp2
      go_end0
      exact ⟨⟨_, rfl⟩, .inl ⟨_, rfl, by have := HJ.out; rw [List.take_of_length_le (by rw [prs_length, HLN.out]; exact Nat.le_refl _)] at this; exact this⟩⟩

theorem coming_stops (n : Nat) (hn : 1 ≤ n) (lo hi m B1 B2 u len cap : Nat) (ao : Option Addr) (zs : List It) (hreach : len ≤ 1000000) (hsum : u + takes zs ≤ 1000000) (w : World) (hm : m ≤ w.heap.size)
    (hB1 : w.cell? ⟨B1, 2, none⟩ = some (.int .i64 (u : Int))) (hB2 : w.cell? ⟨B2, 0, none⟩ = some (.slice ao len cap))
    (hL : Txs w ao len cap zs) (hb : 0 < len → ∀ a, ao = some a → a.block < m ∧ (a.block < lo ∨ hi ≤ a.block)) :
    SeqStopsK Fence.wide n Tryd.prog 41 #[.pointer (some ⟨B1, 0, none⟩), .pointer (some ⟨B2, 0, none⟩)] prv (KR lo hi m) (fun ys => ys = prs u zs) (fun pre => pre <+: prs u zs) (prs u zs).length w := fun l J Jx W hW hJ hJx hY h0 => by
  refine (coming1_in n hn lo hi m l B1 B2 u len cap ao zs hreach hsum J Jx W (Nat.le_trans hm hW.size) hJ ?_ (cell_later hW hB1) (cell_later hW hB2) (hL.more hW) hb h0).mono ?_
  · intro pre x W1 hp hlt
    refine (hY pre x W1 hp hlt).mono ?_
    rintro e W' (⟨rfl, h1, h2⟩ | ⟨rfl, h1⟩)
    · exact ⟨true, rfl, fun _ => ⟨h1, h2⟩, fun h => by cases h⟩
    · exact ⟨false, rfl, fun h => (by cases h), fun _ => h1⟩
  · rintro e W' ⟨he, ⟨ys, hys, hj⟩ | ⟨pre, hp, hj⟩⟩
    · exact ⟨he, .inl ⟨ys, hys, hj⟩⟩
    · exact ⟨he, .inr ⟨pre, hp, hj⟩⟩

set_option maxHeartbeats 1000000 in
theorem coming_any (v0 v1 v2 : Value) (_h0 : v0.oneCell' = true) (_h1 : v1.oneCell' = true) (_h2 : v2.oneCell' = true) (ao : Option Addr) (len cap : Nat) (w : World) :
    Calls Tryd.prog 38 #[.agg #[v0, v1, v2], .slice ao len cap] w fun e w' => e = .returned (.func (.func 41) #[] #[.pointer (some ⟨w.heap.size, 0, none⟩), .pointer (some ⟨w.heap.size + 1, 0, none⟩)]) ∧ (w.alloc (.cells #[v0, v1, v2] 45)).alloc (.cells #[.slice ao len cap] 22) = w' := by
  go_enter Tryd.func38, Tryd.ntmps38
  go_wp2
  go_ret
  exact ⟨rfl, rfl⟩

end Go.Proofs.YtbdhagilmdmpdaaDoor
