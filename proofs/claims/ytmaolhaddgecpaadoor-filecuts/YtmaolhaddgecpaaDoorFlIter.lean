/- laid: the parts that are to be put, by a range over a function. -/
import Derived.Test.YtmaolhaddgecpaaDoorFlRange
import Derived.Test.YtmaolhaddgecpaaDoorFlParts
namespace Go.Proofs.YtmaolhaddgecpaaDoor
open Go.RowKit Go.Proofs.Fld Go.Proofs.Fil Go.Shelf Go.Sort

attribute [local go_sem] Oper.semAt_some

/-- A part, and where it would end, as values. -/
def prv (x : It × Nat) : Array Value := #[.string (bs x.1), .int .i64 (x.2 : Int)]
/-- What a round tells: whether to go on. -/
def ToldR (J Jx : List (It × Nat) → World → Prop) (pre : List (It × Nat)) (x : It × Nat) (lo hi m : Nat) (W W' : World) (b : Bool) : Prop :=
  (b = true → J (pre ++ [x]) W' ∧ KR lo hi m W W') ∧ (b = false → Jx (pre ++ [x]) W')

theorem tot_mem {l : List It} {k : Nat} {x : It} (h : l[k]? = some x) : tot (l.take k) + x.length ≤ tot l := by
  have h1 := tot_take_le l (k + 1)
  rw [tot_next h] at h1
  exact h1

set_option maxRecDepth 100000 in
set_option maxHeartbeats 4000000 in
theorem laid1_in (n : Nat) (hn : 1 ≤ n) (lo hi m l B B1 B2 u len cap : Nat) (ao : Option Addr) (zs : List It) (hreach : len ≤ 1000000) (hsum : u + tot zs ≤ 4000000000000000000) (J Jx : List (It × Nat) → World → Prop)
    (W : World) (_hmW : m ≤ W.heap.size) 
    (hY : ∀ pre x W, J pre W → pre ++ [x] <+: prs u zs → YieldAt Fence.wide (n - 1) Tryd.prog l (prv x) W fun e W' => ∃ g, e = .returned (.bool g) ∧ ToldR J Jx pre x lo hi m W W' g)
    (hB1 : W.cell? ⟨B1, 0, none⟩ = some (.pointer (some ⟨B, 0, none⟩))) (hU : W.cell? ⟨B, 1000, none⟩ = some (.int .i64 (u : Int))) (hB2 : W.cell? ⟨B2, 0, none⟩ = some (.slice ao len cap))
    (hL : Txs W ao len cap zs) (hb : 0 < len → ∀ a, ao = some a → a.block < m ∧ (a.block < lo ∨ hi ≤ a.block))
    (h0 : J [] W) :
    CallsIn Fence.wide n Tryd.prog 52 #[.func (.yield l) #[] #[], .pointer (some ⟨B1, 0, none⟩), .pointer (some ⟨B2, 0, none⟩)] W fun e W' => (∃ v, e = .returned v) ∧
      ((∃ ys, ys = prs u zs ∧ J ys W') ∨ (∃ pre, pre <+: prs u zs ∧ Jx pre W')) := by
  refine callsIn_of_wp Tryd.func52 rfl trivial ?_ rfl
  simp only [Tryd.ntmps52, List.size_toArray, List.length_cons, List.length_nil, Nat.reduceAdd, Nat.reduceSub, Array.replicate_succ, Array.replicate_zero, List.push_toArray, List.append_toArray, List.nil_append, List.cons_append]
  have HLN := Lib.hid hL.hlen
  have HL := Lib.hid hL
  have HB := Lib.hid hb
  clear hL hb
  have HY := Lib.hid hY
  clear hY
  gi_wp2
  gi_loopw [4, 13] (fun s i wr => ∃ k t : Nat, k ≤ len ∧ i = .int .i64 k ∧ s = .int .i64 (t : Int) ∧ t = u + tot (zs.take k) ∧ Hid (J ((prs u zs).take k) wr) ∧ KR lo hi m W wr)
    (fun _ i _ => len - (intOf i).toNat)
  case atStart => exact ⟨0, u, Nat.zero_le _, rfl, rfl, (by simp [tot]), by rw [List.take_zero]; exact h0, KR.refl _ _ _ _⟩
  case round =>
    obtain ⟨k, t, hk, rfl, rfl, ht, HJ, hnx⟩ := hrel
    have hsz := hnx.1
    by_cases hlt : k < len
    · obtain ⟨x, hx⟩ : ∃ x, zs[k]? = some x := ⟨_, List.getElem?_eq_getElem (by rw [HLN.out]; exact hlt)⟩
      obtain ⟨b, off, rfl, hbW, hcs⟩ := HL.out.at (by omega)
      have hbm := HB.out (by omega) _ rfl
      have q0 := hnx.cell (hcs k x hx) hbm.1 hbm.2
      have htm := tot_mem hx
      have htn := tot_next hx
      have hpn := prs_next (u := u) hx
      have hsx := bs_size x
      obtain ⟨t', ht'⟩ : ∃ t', t + x.length = t' := ⟨_, rfl⟩
      have hw : IntKind.i64.wrap ((t : Int) + (x.length : Int)) = (t' : Int) := by rw [IntKind.wrap_i64]; omega
      have hpl : (prs u zs).take k ++ [(x, t')] <+: prs u zs := by
        rw [← ht', ht, ← hpn]
        exact List.take_prefix _ _
      have HT := Lib.hid (And.intro ht (And.intro htn (And.intro hpn (And.intro hpl ht'))))
      have HNX := Lib.hid hnx
      clear hcs hx htm htn hpn hpl ht ht' hnx
      obtain ⟨fn, tmps, assign, body, hy, hR⟩ := HY.out _ (x, t') wr HJ.out HT.out.2.2.2.1
      simp only [prv] at hy
      gi_wp2
      refine hR.mono ?_
      rintro e W3 ⟨g, rfl, htold⟩
      have hS : (prs u zs).take (k + 1) = (prs u zs).take k ++ [(x, t')] := by
        rw [HT.out.2.2.1, ← HT.out.2.2.2.2, HT.out.1]
      cases g with
      | true =>
        obtain ⟨hJ3, hk3⟩ := htold.1 rfl
        have hw3 := HNX.out.trans hk3
        have HJ3 := Lib.hid hJ3
        have HS := Lib.hid hS
        clear htold hR hy hJ3 hS
        gi_wp2
        go_roundw
        case rel => exact ⟨k + 1, t', by omega, by simp, rfl, by rw [HT.out.2.1, ← HT.out.2.2.2.2, HT.out.1]; omega, by rw [HS.out]; exact HJ3.out, hw3⟩
        case measure => simp [intOf]; omega
      | false =>
        have hx3 := Lib.hid (htold.2 rfl)
        have HS := Lib.hid hS
        clear htold hR hy hS
        gi_wp2
        refine bodyPost_ret (results_none rfl _ _ _) rfl ?_
        exact ⟨⟨_, rfl⟩, .inr ⟨_, by rw [← HS.out]; exact List.take_prefix _ _, hx3.out⟩⟩
    · obtain rfl : k = len := by omega
      gi_wp2
      go_end0
      exact ⟨⟨_, rfl⟩, .inl ⟨_, rfl, by have := HJ.out; rw [List.take_of_length_le (by rw [prs_length, HLN.out]; exact Nat.le_refl _)] at this; exact this⟩⟩

theorem laid_stops (n : Nat) (hn : 1 ≤ n) (lo hi m B B1 B2 u len cap : Nat) (ao : Option Addr) (zs : List It) (hreach : len ≤ 1000000) (hsum : u + tot zs ≤ 4000000000000000000) (w : World) (hm : m ≤ w.heap.size)
    (hB1 : w.cell? ⟨B1, 0, none⟩ = some (.pointer (some ⟨B, 0, none⟩))) (hU : w.cell? ⟨B, 1000, none⟩ = some (.int .i64 (u : Int))) (hB2 : w.cell? ⟨B2, 0, none⟩ = some (.slice ao len cap))
    (hL : Txs w ao len cap zs) (hb : 0 < len → ∀ a, ao = some a → a.block < m ∧ (a.block < lo ∨ hi ≤ a.block)) :
    SeqX (fun pre x => pre ++ [x] <+: prs u zs) n Tryd.prog 52 #[.pointer (some ⟨B1, 0, none⟩), .pointer (some ⟨B2, 0, none⟩)] prv (KR lo hi m) (fun ys => ys = prs u zs) (fun pre => pre <+: prs u zs) w := fun l J Jx W hW hY h0 => by
  refine (laid1_in n hn lo hi m l B B1 B2 u len cap ao zs hreach hsum J Jx W (Nat.le_trans hm hW.size) ?_ (cell_later hW hB1) (cell_later hW hU) (cell_later hW hB2) (hL.more hW) hb h0).mono ?_
  · intro pre x W1 hp hlt
    refine (hY pre x W1 hp hlt).mono ?_
    rintro e W' (⟨rfl, h1, h2⟩ | ⟨rfl, h1⟩)
    · exact ⟨true, rfl, fun _ => ⟨h1, h2⟩, fun h => by cases h⟩
    · exact ⟨false, rfl, fun h => (by cases h), fun _ => h1⟩
  · rintro e W' ⟨he, ⟨ys, hys, hj⟩ | ⟨pre, hp, hj⟩⟩
    · exact ⟨he, .inl ⟨ys, hys, hj⟩⟩
    · exact ⟨he, .inr ⟨pre, hp, hj⟩⟩

/-- The iterator, and what its boxes hold. -/
def LaidP (B : Nat) (ao : Option Addr) (len cap : Nat) (w : World) (e : Ending) (w' : World) : Prop :=
  e = .returned (.func (.func 52) #[] #[.pointer (some ⟨w.heap.size, 0, none⟩), .pointer (some ⟨w.heap.size + 1, 0, none⟩)]) ∧ w'.cell? ⟨w.heap.size, 0, none⟩ = some (.pointer (some ⟨B, 0, none⟩)) ∧ w'.cell? ⟨w.heap.size + 1, 0, none⟩ = some (.slice ao len cap) ∧ w'.heap.size = w.heap.size + 2 ∧ Below w.heap.size w w'
set_option maxHeartbeats 1000000 in
theorem laid_any (B : Nat) (ao : Option Addr) (len cap : Nat) (w : World) :
    Calls Tryd.prog 46 #[.pointer (some ⟨B, 0, none⟩), .slice ao len cap] w (LaidP B ao len cap w) := by
  go_enter Tryd.func46, Tryd.ntmps46
  go_wp2
  go_ret
  refine ⟨rfl, ?_, ?_, ?_, ?_⟩
  · go_simp
  · go_simp
  · simp
  · exact (Below.new w _).alloc (by simp) _

end Go.Proofs.YtmaolhaddgecpaaDoor
