/- where: the lines that pass, by a range over a function; of, under, all. -/
import Derived.Test.YtpaaeojojbdikaaDoorLgJudge
namespace Go.Proofs.YtpaaeojojbdikaaDoor
open Go.RowKit Go.Proofs.Cats Go.Proofs.Lgr Go.Shelf Go.Sort

attribute [local go_sem] Oper.semAt_some

/-- All blocks below m but X lie as they lay. -/
def KX (X m : Nat) (A B : World) : Prop := A.heap.size ≤ B.heap.size ∧ ∀ k, k < m → k ≠ X → B.heap[k]? = A.heap[k]?
theorem KX.refl (X m : Nat) (A : World) : KX X m A A := ⟨Nat.le_refl _, fun _ _ _ => rfl⟩
theorem KX.trans {X m : Nat} {A B C : World} (h : KX X m A B) (k : KX X m B C) : KX X m A C := ⟨Nat.le_trans h.1 k.1, fun i hi hx => (k.2 i hi hx).trans (h.2 i hi hx)⟩
theorem KX.of_below {X m : Nat} {A B : World} (h : Below m A B) : KX X m A B := ⟨h.size, fun k hk _ => h.block k hk⟩
theorem kxK_b {X m : Nat} {w : World} (hn : m ≤ w.heap.size) (W : World) (l : Nat) (o o' : Obj) (hl : w.heap.size ≤ l) (h : W.heap[l]? = some o) (h1 : o.isCells = false) (h2 : o.isWalk = false) : KX X m W (W.putObj l o') := KX.of_below (belowK_b hn W l o o' hl h h1 h2)
theorem KX.set {X m : Nat} (A : World) (o : Nat) (v : Value) : KX X m A (A.setCell ⟨X, o, none⟩ v) := ⟨by simp [World.setCell], fun k _ hx => Below.heap_setCell _ _ _ _ hx⟩
theorem KX.cell {X m : Nat} {A B : World} (h : KX X m A B) {a : Addr} {v : Value} (hc : A.cell? a = some v) (hm : a.block < m) (hx : a.block ≠ X) : B.cell? a = some v := (World.cell?_of_block (h.2 _ hm hx)).trans hc
theorem KX.lnat {X m : Nat} {A B : World} (h : KX X m A B) {b o : Nat} {x : Ln} (hc : LnAt A b o x) (hm : b < m) (hx : b ≠ X) : LnAt B b o x := hc.of_block (h.2 _ hm hx)

/-- The first k lines that pass. -/
def pf (p : Ln → Bool) (zs : List Ln) (k : Nat) : List Ln := (zs.take k).filter p
theorem pf_zero (p : Ln → Bool) (zs : List Ln) : pf p zs 0 = [] := by simp [pf]
theorem pf_yes {p : Ln → Bool} {zs : List Ln} {k : Nat} {x : Ln} (h : zs[k]? = some x) (hp : p x = true) : pf p zs (k + 1) = pf p zs k ++ [x] := by
  unfold pf; rw [take_next zs k x h, List.filter_append]; simp [hp]
theorem pf_no {p : Ln → Bool} {zs : List Ln} {k : Nat} {x : Ln} (h : zs[k]? = some x) (hp : p x = false) : pf p zs (k + 1) = pf p zs k := by
  unfold pf; rw [take_next zs k x h, List.filter_append]; simp [hp]
theorem pf_all {p : Ln → Bool} {zs : List Ln} {k : Nat} (h : zs.length ≤ k) : pf p zs k = zs.filter p := by unfold pf; rw [List.take_of_length_le h]
theorem pf_prefix (p : Ln → Bool) (zs : List Ln) (k : Nat) : pf p zs k <+: zs.filter p := by
  refine ⟨(zs.drop k).filter p, ?_⟩
  unfold pf
  rw [← List.filter_append, List.take_append_drop]
theorem pf_lt {p : Ln → Bool} {zs : List Ln} {k : Nat} {x : Ln} (h : zs[k]? = some x) (hp : p x = true) : (pf p zs k).length < (zs.filter p).length := by
  have h1 := (pf_prefix p zs (k + 1)).length_le
  rw [pf_yes h hp] at h1
  simp at h1
  omega

/-- A label in memory. -/
def La3 (W : World) (B : Nat) (a : Lab) : Prop := W.cell? ⟨B, 0, none⟩ = some (.int .i64 a.l) ∧ W.cell? ⟨B, 1, none⟩ = some (.int .u64 a.c) ∧ W.cell? ⟨B, 2, none⟩ = some (.int .i64 a.i)
theorem La3.lt {W : World} {B : Nat} {a : Lab} (h : La3 W B a) : B < W.heap.size := World.block_lt_of_cell? W _ h.1
theorem La3.more {W W' : World} {B : Nat} {a : Lab} (h : La3 W B a) (k : Below W.heap.size W W') : La3 W' B a := ⟨cell_later k h.1, cell_later k h.2.1, cell_later k h.2.2⟩
theorem La3.kx {X m : Nat} {A B : World} {b : Nat} {a : Lab} (h : KX X m A B) (hc : La3 A b a) (hm : b < m) (hx : b ≠ X) : La3 B b a := ⟨h.cell hc.1 hm hx, h.cell hc.2.1 hm hx, h.cell hc.2.2 hm hx⟩
theorem La3.new (W : World) (a : Lab) : La3 (W.alloc (.cells #[.int .i64 a.l, .int .u64 a.c, .int .i64 a.i] 25)) W.heap.size a := ⟨by simp, by simp, by simp⟩

/-- What a round tells: whether to go on. -/
def ToldL (J Jx : List Ln → World → Prop) (pre : List Ln) (x : Ln) (X m : Nat) (W W' : World) (b : Bool) : Prop :=
  (b = true → J (pre ++ [x]) W' ∧ KX X m W W') ∧ (b = false → Jx (pre ++ [x]) W')

/-- It tells b. -/
def BoolP (b : Bool) (w : World) (e : Ending) (w' : World) : Prop := e = .returned (.bool b) ∧ Below w.heap.size w w'
set_option maxHeartbeats 1000000 in
theorem of1_any (a : Lab) (Ba : Nat) (x : Ln) (w : World) (h : La3 w Ba a) :
    Calls Tryd.prog 58 #[.agg #[.int .i64 x.a.l, .int .u64 x.a.c, .int .i64 x.a.i, .int .i64 x.u], .pointer (some ⟨Ba, 0, none⟩)] w (BoolP (x.a.same a) w) := by
  obtain ⟨a0, a1, a2⟩ := h
  have q1 := eqL x.a a
  have q2 := eqInL x.a a
  have hB := Below.new w (.cells #[.int .i64 x.a.l, .int .u64 x.a.c, .int .i64 x.a.i, .int .i64 x.u] 43)
  have b0 := cell_later hB a0
  have b1 := cell_later hB a1
  have b2 := cell_later hB a2
  cases hs : x.a.same a
  · rw [hs] at q1 q2
    go_enter Tryd.func58, Tryd.ntmps58
    go_wp2
    go_ret
    exact ⟨rfl, hB⟩
  · rw [hs] at q1 q2
    go_enter Tryd.func58, Tryd.ntmps58
    go_wp2
    go_ret
    exact ⟨rfl, hB⟩
set_option maxHeartbeats 1000000 in
theorem under1_any (a : Lab) (ha : a.fits) (Ba : Nat) (x : Ln) (hx : x.a.fits) (w : World) (h : La3 w Ba a) :
    Calls Tryd.prog 49 #[.agg #[.int .i64 x.a.l, .int .u64 x.a.c, .int .i64 x.a.i, .int .i64 x.u], .pointer (some ⟨Ba, 0, none⟩)] w (BoolP (x.a.under a) w) := by
  obtain ⟨a0, a1, a2⟩ := h
  have hB := Below.new w (.cells #[.int .i64 x.a.l, .int .u64 x.a.c, .int .i64 x.a.i, .int .i64 x.u] 43)
  have b0 := cell_later hB a0
  have b1 := cell_later hB a1
  have b2 := cell_later hB a2
  go_enter Tryd.func49, Tryd.ntmps49
  go_wp2_with fail
  refine (Under_any x.a a hx ha _).mono ?_
  rintro e w1 ⟨rfl, hb1⟩
  have HB := Lib.hid (below_more hB hb1)
  clear hb1
  go_wp2
  go_ret
  exact ⟨rfl, HB.out⟩
set_option maxHeartbeats 1000000 in
theorem all1_any (x : Ln) (w : World) :
    Calls Tryd.prog 51 #[.agg #[.int .i64 x.a.l, .int .u64 x.a.c, .int .i64 x.a.i, .int .i64 x.u]] w (BoolP true w) := by
  go_enter Tryd.func51, Tryd.ntmps51
  go_wp2
  go_ret
  exact ⟨rfl, Below.new _ _⟩

set_option maxRecDepth 100000 in
set_option maxHeartbeats 4000000 in
theorem where1_of (n : Nat) (hn : 1 ≤ n) (Ba X m l B1 B2 len cap : Nat) (ao : Option Addr) (a : Lab) (zs : List Ln) (hreach : len ≤ 1000000) (J Jx : List Ln → World → Prop)
    (W : World) (hmW : m ≤ W.heap.size) (hJ : AbidesFrom W.heap.size J)
    (hY : ∀ pre x W, J pre W → pre.length < (zs.filter (fun x => x.a.same a)).length → YieldAt Fence.wide (n - 1) Tryd.prog l #[lnv x] W fun e W' => ∃ g, e = .returned (.bool g) ∧ ToldL J Jx pre x X m W W' g)
    (hB1 : W.cell? ⟨B1, 0, none⟩ = some (.slice ao len cap)) (hB2 : W.cell? ⟨B2, 0, none⟩ = some (.func (.func 58) #[] #[.pointer (some ⟨Ba, 0, none⟩)])) (h2 : B2 < m) (x2 : B2 ≠ X)
    (hA : La3 W Ba a) (ha : Ba < m) (xa : Ba ≠ X) (hL : Lns W ao len cap zs) (hb : 0 < len → ∀ a, ao = some a → a.block < m ∧ a.block ≠ X)
    (h0 : J [] W) :
    CallsIn Fence.wide n Tryd.prog 59 #[.func (.yield l) #[] #[], .pointer (some ⟨B1, 0, none⟩), .pointer (some ⟨B2, 0, none⟩)] W fun e W' => (∃ v, e = .returned v) ∧
      ((∃ ys, ys = zs.filter (fun x => x.a.same a) ∧ J ys W') ∨ (∃ pre, pre <+: zs.filter (fun x => x.a.same a) ∧ Jx pre W')) := by
  refine callsIn_of_wp Tryd.func59 rfl trivial ?_ rfl
  simp only [Tryd.ntmps59, List.size_toArray, List.length_cons, List.length_nil, Nat.reduceAdd, Nat.reduceSub, Array.replicate_succ, Array.replicate_zero, List.push_toArray, List.append_toArray, List.nil_append, List.cons_append]
  have hlen := hL.hlen
  have HLN := Lib.hid hlen
  have HL := Lib.hid hL
  have HB := Lib.hid hb
  have HA := Lib.hid (hA)
  clear hL hb hlen hA
  have HJ0 := Lib.hid hJ
  have HY := Lib.hid hY
  clear hJ hY
  gi_wp2
  gi_loopw [8] (fun i wr => ∃ k : Nat, k ≤ len ∧ i = .int .i64 k ∧ Hid (J (pf (fun x => x.a.same a) zs k) wr) ∧ KX X m W wr)
    (fun i _ => len - (intOf i).toNat)
  case atStart => exact ⟨0, Nat.zero_le _, rfl, by rw [pf_zero]; exact h0, KX.refl _ _ _⟩
  case round =>
    obtain ⟨k, hk, rfl, HJ, hnx⟩ := hrel
    have hsz := hnx.1
    by_cases hlt : k < len
    · obtain ⟨x, hx⟩ : ∃ x, zs[k]? = some x := ⟨_, List.getElem?_eq_getElem (by rw [HLN.out]; exact hlt)⟩
      obtain ⟨b, off, rfl, hbW, hcs⟩ := HL.out.at (by omega)
      have hbm := HB.out (by omega) _ rfl
      obtain ⟨q0, q1, q2, q3⟩ := hnx.lnat (hcs k x hx) hbm.1 hbm.2
      have c2 := hnx.cell hB2 h2 x2
      have HX := Lib.hid hx
      have hbr : Below wr.heap.size wr (wr.alloc (.cells #[.int .i64 x.a.l, .int .u64 x.a.c, .int .i64 x.a.i, .int .i64 x.u] 43)) := Below.new _ _
      have c3 := cell_later hbr c2
      have HA3 := Lib.hid ((La3.kx hnx HA.out ha xa).more hbr)
      clear hcs
      have HBR := Lib.hid hbr
      have HNX := Lib.hid hnx
      clear hbr hnx
      gi_wp2_with (refine ⟨trivial, ?_⟩; gi_at_call 58; refine (callsIn_wide.2 (of1_any a Ba x _ HA3.out)).mono ?_)
      rintro e w1 ⟨he, hb1⟩
      have HB1 := Lib.hid (below_more HBR.out hb1)
      have d0 : w1.cell? ⟨wr.heap.size, 0, none⟩ = some (.int .i64 x.a.l) := cell_later hb1 (by simp)
      have d1 : w1.cell? ⟨wr.heap.size, 1, none⟩ = some (.int .u64 x.a.c) := cell_later hb1 (by simp)
      have d2 : w1.cell? ⟨wr.heap.size, 2, none⟩ = some (.int .i64 x.a.i) := cell_later hb1 (by simp)
      have d3 : w1.cell? ⟨wr.heap.size, 3, none⟩ = some (.int .i64 x.u) := cell_later hb1 (by simp)
      have HJ1 := Lib.hid (HJ0.out _ _ _ none HJ.out (below_grown HB1.out) (fun r e => by cases e))
      have HK1 := Lib.hid (HNX.out.trans (KX.of_below (X := X) (HB1.out.mono (Nat.le_trans hmW hsz))))
      clear hb1 q0 q1 q2 q3 c2 c3
      cases hp : (fun x => x.a.same a) x with
      | false =>
        rw [show (x.a.same a) = false from hp] at he
        subst he
        have HS := Lib.hid (pf_no (p := (fun x => x.a.same a)) HX.out hp)
        clear hp
        gi_wp2
        refine ⟨(fun f e => by cases e), ?_⟩
        gi_wp2
        go_roundw
        case rel => exact ⟨k + 1, by omega, by simp, by rw [HS.out]; exact HJ1.out, HK1.out⟩
        case measure => simp [intOf]; omega
      | true =>
        rw [show (x.a.same a) = true from hp] at he
        subst he
        have HS := Lib.hid (pf_yes (p := (fun x => x.a.same a)) HX.out hp)
        have HLT := Lib.hid (pf_lt (p := (fun x => x.a.same a)) HX.out hp)
        clear hp
        obtain ⟨fn, tmps, assign, body, hy, hR⟩ := HY.out _ x w1 HJ1.out HLT.out
        simp only [lnv] at hy
        gi_wp2
        refine hR.mono ?_
        rintro e W3 ⟨g, rfl, htold⟩
        cases g with
        | true =>
          obtain ⟨hJ3, hk3⟩ := htold.1 rfl
          have hw3 := HK1.out.trans hk3
          have HJ3 := Lib.hid hJ3
          clear htold hR hy hJ3 d0 d1 d2 d3
          gi_wp2
          go_roundw
          case rel => exact ⟨k + 1, by omega, by simp, by rw [HS.out]; exact HJ3.out, hw3⟩
          case measure => simp [intOf]; omega
        | false =>
          have hx3 := Lib.hid (htold.2 rfl)
          clear htold hR hy d0 d1 d2 d3
          gi_wp2
          refine bodyPost_ret (results_none rfl _ _ _) rfl ?_
          exact ⟨⟨_, rfl⟩, .inr ⟨_, by rw [← HS.out]; exact pf_prefix _ _ _, hx3.out⟩⟩
    · obtain rfl : k = len := by omega
      gi_wp2
      go_end0
      exact ⟨⟨_, rfl⟩, .inl ⟨_, rfl, by rw [← pf_all (Nat.le_of_eq HLN.out)]; exact HJ.out⟩⟩

theorem of_stops (n : Nat) (hn : 1 ≤ n) (Ba X m B1 B2 len cap : Nat) (ao : Option Addr) (a : Lab) (zs : List Ln) (hreach : len ≤ 1000000) (w : World) (hm : m ≤ w.heap.size)
    (hB1 : w.cell? ⟨B1, 0, none⟩ = some (.slice ao len cap)) (hB2 : w.cell? ⟨B2, 0, none⟩ = some (.func (.func 58) #[] #[.pointer (some ⟨Ba, 0, none⟩)])) (h2 : B2 < m) (x2 : B2 ≠ X)
    (hA : La3 w Ba a) (ha : Ba < m) (xa : Ba ≠ X) (hL : Lns w ao len cap zs) (hb : 0 < len → ∀ a, ao = some a → a.block < m ∧ a.block ≠ X) :
    SeqStopsK Fence.wide n Tryd.prog 59 #[.pointer (some ⟨B1, 0, none⟩), .pointer (some ⟨B2, 0, none⟩)] (fun x : Ln => #[lnv x]) (KX X m) (fun ys => ys = zs.filter (fun x => x.a.same a)) (fun pre => pre <+: zs.filter (fun x => x.a.same a)) (zs.filter (fun x => x.a.same a)).length w := fun l J Jx W hW hJ hJx hY h0 => by
  refine (where1_of n hn Ba X m l B1 B2 len cap ao a zs hreach J Jx W (Nat.le_trans hm hW.size) hJ ?_ (cell_later hW hB1) (cell_later hW hB2) h2 x2 (hA.more hW) ha xa (hL.more hW) hb h0).mono ?_
  · intro pre x W1 hp hlt
    refine (hY pre x W1 hp hlt).mono ?_
    rintro e W' (⟨rfl, h1, h2⟩ | ⟨rfl, h1⟩)
    · exact ⟨true, rfl, fun _ => ⟨h1, h2⟩, fun h => by cases h⟩
    · exact ⟨false, rfl, fun h => (by cases h), fun _ => h1⟩
  · rintro e W' ⟨he, ⟨ys, hys, hj⟩ | ⟨pre, hp, hj⟩⟩
    · exact ⟨he, .inl ⟨ys, hys, hj⟩⟩
    · exact ⟨he, .inr ⟨pre, hp, hj⟩⟩

set_option maxRecDepth 100000 in
set_option maxHeartbeats 4000000 in
theorem where1_under (n : Nat) (hn : 1 ≤ n) (Ba X m l B1 B2 len cap : Nat) (ao : Option Addr) (a : Lab) (hf : a.fits) (zs : List Ln) (hreach : len ≤ 1000000) (J Jx : List Ln → World → Prop)
    (W : World) (hmW : m ≤ W.heap.size) (hJ : AbidesFrom W.heap.size J)
    (hY : ∀ pre x W, J pre W → pre.length < (zs.filter (fun x => x.a.under a)).length → YieldAt Fence.wide (n - 1) Tryd.prog l #[lnv x] W fun e W' => ∃ g, e = .returned (.bool g) ∧ ToldL J Jx pre x X m W W' g)
    (hB1 : W.cell? ⟨B1, 0, none⟩ = some (.slice ao len cap)) (hB2 : W.cell? ⟨B2, 0, none⟩ = some (.func (.func 49) #[] #[.pointer (some ⟨Ba, 0, none⟩)])) (h2 : B2 < m) (x2 : B2 ≠ X)
    (hA : La3 W Ba a) (ha : Ba < m) (xa : Ba ≠ X) (hL : Lns W ao len cap zs) (hb : 0 < len → ∀ a, ao = some a → a.block < m ∧ a.block ≠ X)
    (h0 : J [] W) :
    CallsIn Fence.wide n Tryd.prog 59 #[.func (.yield l) #[] #[], .pointer (some ⟨B1, 0, none⟩), .pointer (some ⟨B2, 0, none⟩)] W fun e W' => (∃ v, e = .returned v) ∧
      ((∃ ys, ys = zs.filter (fun x => x.a.under a) ∧ J ys W') ∨ (∃ pre, pre <+: zs.filter (fun x => x.a.under a) ∧ Jx pre W')) := by
  refine callsIn_of_wp Tryd.func59 rfl trivial ?_ rfl
  simp only [Tryd.ntmps59, List.size_toArray, List.length_cons, List.length_nil, Nat.reduceAdd, Nat.reduceSub, Array.replicate_succ, Array.replicate_zero, List.push_toArray, List.append_toArray, List.nil_append, List.cons_append]
  have hlen := hL.hlen
  have HLN := Lib.hid hlen
  have HL := Lib.hid hL
  have HB := Lib.hid hb
  have HA := Lib.hid (hA)
  clear hL hb hlen hA
  have HJ0 := Lib.hid hJ
  have HY := Lib.hid hY
  clear hJ hY
  gi_wp2
  gi_loopw [8] (fun i wr => ∃ k : Nat, k ≤ len ∧ i = .int .i64 k ∧ Hid (J (pf (fun x => x.a.under a) zs k) wr) ∧ KX X m W wr)
    (fun i _ => len - (intOf i).toNat)
  case atStart => exact ⟨0, Nat.zero_le _, rfl, by rw [pf_zero]; exact h0, KX.refl _ _ _⟩
  case round =>
    obtain ⟨k, hk, rfl, HJ, hnx⟩ := hrel
    have hsz := hnx.1
    by_cases hlt : k < len
    · obtain ⟨x, hx⟩ : ∃ x, zs[k]? = some x := ⟨_, List.getElem?_eq_getElem (by rw [HLN.out]; exact hlt)⟩
      obtain ⟨b, off, rfl, hbW, hcs⟩ := HL.out.at (by omega)
      have hbm := HB.out (by omega) _ rfl
      obtain ⟨q0, q1, q2, q3⟩ := hnx.lnat (hcs k x hx) hbm.1 hbm.2
      have c2 := hnx.cell hB2 h2 x2
      have HX := Lib.hid hx
      have hbr : Below wr.heap.size wr (wr.alloc (.cells #[.int .i64 x.a.l, .int .u64 x.a.c, .int .i64 x.a.i, .int .i64 x.u] 43)) := Below.new _ _
      have c3 := cell_later hbr c2
      have HA3 := Lib.hid ((La3.kx hnx HA.out ha xa).more hbr)
      have hfx := HL.out.hfits x (List.mem_of_getElem? hx)
      clear hcs
      have HBR := Lib.hid hbr
      have HNX := Lib.hid hnx
      clear hbr hnx
      gi_wp2_with (refine ⟨trivial, ?_⟩; gi_at_call 49; refine (callsIn_wide.2 (under1_any a hf Ba x hfx _ HA3.out)).mono ?_)
      rintro e w1 ⟨he, hb1⟩
      have HB1 := Lib.hid (below_more HBR.out hb1)
      have d0 : w1.cell? ⟨wr.heap.size, 0, none⟩ = some (.int .i64 x.a.l) := cell_later hb1 (by simp)
      have d1 : w1.cell? ⟨wr.heap.size, 1, none⟩ = some (.int .u64 x.a.c) := cell_later hb1 (by simp)
      have d2 : w1.cell? ⟨wr.heap.size, 2, none⟩ = some (.int .i64 x.a.i) := cell_later hb1 (by simp)
      have d3 : w1.cell? ⟨wr.heap.size, 3, none⟩ = some (.int .i64 x.u) := cell_later hb1 (by simp)
      have HJ1 := Lib.hid (HJ0.out _ _ _ none HJ.out (below_grown HB1.out) (fun r e => by cases e))
      have HK1 := Lib.hid (HNX.out.trans (KX.of_below (X := X) (HB1.out.mono (Nat.le_trans hmW hsz))))
      clear hb1 q0 q1 q2 q3 c2 c3
      cases hp : (fun x => x.a.under a) x with
      | false =>
        rw [show (x.a.under a) = false from hp] at he
        subst he
        have HS := Lib.hid (pf_no (p := (fun x => x.a.under a)) HX.out hp)
        clear hp
        gi_wp2
        refine ⟨(fun f e => by cases e), ?_⟩
        gi_wp2
        go_roundw
        case rel => exact ⟨k + 1, by omega, by simp, by rw [HS.out]; exact HJ1.out, HK1.out⟩
        case measure => simp [intOf]; omega
      | true =>
        rw [show (x.a.under a) = true from hp] at he
        subst he
        have HS := Lib.hid (pf_yes (p := (fun x => x.a.under a)) HX.out hp)
        have HLT := Lib.hid (pf_lt (p := (fun x => x.a.under a)) HX.out hp)
        clear hp
        obtain ⟨fn, tmps, assign, body, hy, hR⟩ := HY.out _ x w1 HJ1.out HLT.out
        simp only [lnv] at hy
        gi_wp2
        refine hR.mono ?_
        rintro e W3 ⟨g, rfl, htold⟩
        cases g with
        | true =>
          obtain ⟨hJ3, hk3⟩ := htold.1 rfl
          have hw3 := HK1.out.trans hk3
          have HJ3 := Lib.hid hJ3
          clear htold hR hy hJ3 d0 d1 d2 d3
          gi_wp2
          go_roundw
          case rel => exact ⟨k + 1, by omega, by simp, by rw [HS.out]; exact HJ3.out, hw3⟩
          case measure => simp [intOf]; omega
        | false =>
          have hx3 := Lib.hid (htold.2 rfl)
          clear htold hR hy d0 d1 d2 d3
          gi_wp2
          refine bodyPost_ret (results_none rfl _ _ _) rfl ?_
          exact ⟨⟨_, rfl⟩, .inr ⟨_, by rw [← HS.out]; exact pf_prefix _ _ _, hx3.out⟩⟩
    · obtain rfl : k = len := by omega
      gi_wp2
      go_end0
      exact ⟨⟨_, rfl⟩, .inl ⟨_, rfl, by rw [← pf_all (Nat.le_of_eq HLN.out)]; exact HJ.out⟩⟩

theorem under_stops (n : Nat) (hn : 1 ≤ n) (Ba X m B1 B2 len cap : Nat) (ao : Option Addr) (a : Lab) (hf : a.fits) (zs : List Ln) (hreach : len ≤ 1000000) (w : World) (hm : m ≤ w.heap.size)
    (hB1 : w.cell? ⟨B1, 0, none⟩ = some (.slice ao len cap)) (hB2 : w.cell? ⟨B2, 0, none⟩ = some (.func (.func 49) #[] #[.pointer (some ⟨Ba, 0, none⟩)])) (h2 : B2 < m) (x2 : B2 ≠ X)
    (hA : La3 w Ba a) (ha : Ba < m) (xa : Ba ≠ X) (hL : Lns w ao len cap zs) (hb : 0 < len → ∀ a, ao = some a → a.block < m ∧ a.block ≠ X) :
    SeqStopsK Fence.wide n Tryd.prog 59 #[.pointer (some ⟨B1, 0, none⟩), .pointer (some ⟨B2, 0, none⟩)] (fun x : Ln => #[lnv x]) (KX X m) (fun ys => ys = zs.filter (fun x => x.a.under a)) (fun pre => pre <+: zs.filter (fun x => x.a.under a)) (zs.filter (fun x => x.a.under a)).length w := fun l J Jx W hW hJ hJx hY h0 => by
  refine (where1_under n hn Ba X m l B1 B2 len cap ao a hf zs hreach J Jx W (Nat.le_trans hm hW.size) hJ ?_ (cell_later hW hB1) (cell_later hW hB2) h2 x2 (hA.more hW) ha xa (hL.more hW) hb h0).mono ?_
  · intro pre x W1 hp hlt
    refine (hY pre x W1 hp hlt).mono ?_
    rintro e W' (⟨rfl, h1, h2⟩ | ⟨rfl, h1⟩)
    · exact ⟨true, rfl, fun _ => ⟨h1, h2⟩, fun h => by cases h⟩
    · exact ⟨false, rfl, fun h => (by cases h), fun _ => h1⟩
  · rintro e W' ⟨he, ⟨ys, hys, hj⟩ | ⟨pre, hp, hj⟩⟩
    · exact ⟨he, .inl ⟨ys, hys, hj⟩⟩
    · exact ⟨he, .inr ⟨pre, hp, hj⟩⟩

set_option maxRecDepth 100000 in
set_option maxHeartbeats 4000000 in
theorem where1_all (n : Nat) (hn : 1 ≤ n) ( X m l B1 B2 len cap : Nat) (ao : Option Addr) (zs : List Ln) (hreach : len ≤ 1000000) (J Jx : List Ln → World → Prop)
    (W : World) (hmW : m ≤ W.heap.size) (hJ : AbidesFrom W.heap.size J)
    (hY : ∀ pre x W, J pre W → pre.length < (zs.filter (fun _ => true)).length → YieldAt Fence.wide (n - 1) Tryd.prog l #[lnv x] W fun e W' => ∃ g, e = .returned (.bool g) ∧ ToldL J Jx pre x X m W W' g)
    (hB1 : W.cell? ⟨B1, 0, none⟩ = some (.slice ao len cap)) (hB2 : W.cell? ⟨B2, 0, none⟩ = some (.func (.func 51) #[] #[])) (h2 : B2 < m) (x2 : B2 ≠ X)
    (hL : Lns W ao len cap zs) (hb : 0 < len → ∀ a, ao = some a → a.block < m ∧ a.block ≠ X)
    (h0 : J [] W) :
    CallsIn Fence.wide n Tryd.prog 59 #[.func (.yield l) #[] #[], .pointer (some ⟨B1, 0, none⟩), .pointer (some ⟨B2, 0, none⟩)] W fun e W' => (∃ v, e = .returned v) ∧
      ((∃ ys, ys = zs.filter (fun _ => true) ∧ J ys W') ∨ (∃ pre, pre <+: zs.filter (fun _ => true) ∧ Jx pre W')) := by
  refine callsIn_of_wp Tryd.func59 rfl trivial ?_ rfl
  simp only [Tryd.ntmps59, List.size_toArray, List.length_cons, List.length_nil, Nat.reduceAdd, Nat.reduceSub, Array.replicate_succ, Array.replicate_zero, List.push_toArray, List.append_toArray, List.nil_append, List.cons_append]
  have hlen := hL.hlen
  have HLN := Lib.hid hlen
  have HL := Lib.hid hL
  have HB := Lib.hid hb
  have HA := Lib.hid (hB2)
  clear hL hb hlen
  have HJ0 := Lib.hid hJ
  have HY := Lib.hid hY
  clear hJ hY
  gi_wp2
  gi_loopw [8] (fun i wr => ∃ k : Nat, k ≤ len ∧ i = .int .i64 k ∧ Hid (J (pf (fun _ => true) zs k) wr) ∧ KX X m W wr)
    (fun i _ => len - (intOf i).toNat)
  case atStart => exact ⟨0, Nat.zero_le _, rfl, by rw [pf_zero]; exact h0, KX.refl _ _ _⟩
  case round =>
    obtain ⟨k, hk, rfl, HJ, hnx⟩ := hrel
    have hsz := hnx.1
    by_cases hlt : k < len
    · obtain ⟨x, hx⟩ : ∃ x, zs[k]? = some x := ⟨_, List.getElem?_eq_getElem (by rw [HLN.out]; exact hlt)⟩
      obtain ⟨b, off, rfl, hbW, hcs⟩ := HL.out.at (by omega)
      have hbm := HB.out (by omega) _ rfl
      obtain ⟨q0, q1, q2, q3⟩ := hnx.lnat (hcs k x hx) hbm.1 hbm.2
      have c2 := hnx.cell hB2 h2 x2
      have HX := Lib.hid hx
      have hbr : Below wr.heap.size wr (wr.alloc (.cells #[.int .i64 x.a.l, .int .u64 x.a.c, .int .i64 x.a.i, .int .i64 x.u] 43)) := Below.new _ _
      have c3 := cell_later hbr c2
      
      clear hcs
      have HBR := Lib.hid hbr
      have HNX := Lib.hid hnx
      clear hbr hnx
      gi_wp2_with (refine ⟨trivial, ?_⟩; gi_at_call 51; refine (callsIn_wide.2 (all1_any x _)).mono ?_)
      rintro e w1 ⟨he, hb1⟩
      have HB1 := Lib.hid (below_more HBR.out hb1)
      have d0 : w1.cell? ⟨wr.heap.size, 0, none⟩ = some (.int .i64 x.a.l) := cell_later hb1 (by simp)
      have d1 : w1.cell? ⟨wr.heap.size, 1, none⟩ = some (.int .u64 x.a.c) := cell_later hb1 (by simp)
      have d2 : w1.cell? ⟨wr.heap.size, 2, none⟩ = some (.int .i64 x.a.i) := cell_later hb1 (by simp)
      have d3 : w1.cell? ⟨wr.heap.size, 3, none⟩ = some (.int .i64 x.u) := cell_later hb1 (by simp)
      have HJ1 := Lib.hid (HJ0.out _ _ _ none HJ.out (below_grown HB1.out) (fun r e => by cases e))
      have HK1 := Lib.hid (HNX.out.trans (KX.of_below (X := X) (HB1.out.mono (Nat.le_trans hmW hsz))))
      clear hb1 q0 q1 q2 q3 c2 c3
      cases hp : (fun _ => true) x with
      | false =>
        rw [show (true) = false from hp] at he
        subst he
        have HS := Lib.hid (pf_no (p := (fun _ => true)) HX.out hp)
        clear hp
        gi_wp2
        refine ⟨(fun f e => by cases e), ?_⟩
        gi_wp2
        go_roundw
        case rel => exact ⟨k + 1, by omega, by simp, by rw [HS.out]; exact HJ1.out, HK1.out⟩
        case measure => simp [intOf]; omega
      | true =>
        rw [show (true) = true from hp] at he
        subst he
        have HS := Lib.hid (pf_yes (p := (fun _ => true)) HX.out hp)
        have HLT := Lib.hid (pf_lt (p := (fun _ => true)) HX.out hp)
        clear hp
        obtain ⟨fn, tmps, assign, body, hy, hR⟩ := HY.out _ x w1 HJ1.out HLT.out
        simp only [lnv] at hy
        gi_wp2
        refine hR.mono ?_
        rintro e W3 ⟨g, rfl, htold⟩
        cases g with
        | true =>
          obtain ⟨hJ3, hk3⟩ := htold.1 rfl
          have hw3 := HK1.out.trans hk3
          have HJ3 := Lib.hid hJ3
          clear htold hR hy hJ3 d0 d1 d2 d3
          gi_wp2
          go_roundw
          case rel => exact ⟨k + 1, by omega, by simp, by rw [HS.out]; exact HJ3.out, hw3⟩
          case measure => simp [intOf]; omega
        | false =>
          have hx3 := Lib.hid (htold.2 rfl)
          clear htold hR hy d0 d1 d2 d3
          gi_wp2
          refine bodyPost_ret (results_none rfl _ _ _) rfl ?_
          exact ⟨⟨_, rfl⟩, .inr ⟨_, by rw [← HS.out]; exact pf_prefix _ _ _, hx3.out⟩⟩
    · obtain rfl : k = len := by omega
      gi_wp2
      go_end0
      exact ⟨⟨_, rfl⟩, .inl ⟨_, rfl, by rw [← pf_all (Nat.le_of_eq HLN.out)]; exact HJ.out⟩⟩

theorem all_stops (n : Nat) (hn : 1 ≤ n) ( X m B1 B2 len cap : Nat) (ao : Option Addr) (zs : List Ln) (hreach : len ≤ 1000000) (w : World) (hm : m ≤ w.heap.size)
    (hB1 : w.cell? ⟨B1, 0, none⟩ = some (.slice ao len cap)) (hB2 : w.cell? ⟨B2, 0, none⟩ = some (.func (.func 51) #[] #[])) (h2 : B2 < m) (x2 : B2 ≠ X)
    (hL : Lns w ao len cap zs) (hb : 0 < len → ∀ a, ao = some a → a.block < m ∧ a.block ≠ X) :
    SeqStopsK Fence.wide n Tryd.prog 59 #[.pointer (some ⟨B1, 0, none⟩), .pointer (some ⟨B2, 0, none⟩)] (fun x : Ln => #[lnv x]) (KX X m) (fun ys => ys = zs.filter (fun _ => true)) (fun pre => pre <+: zs.filter (fun _ => true)) (zs.filter (fun _ => true)).length w := fun l J Jx W hW hJ hJx hY h0 => by
  refine (where1_all n hn  X m l B1 B2 len cap ao  zs hreach J Jx W (Nat.le_trans hm hW.size) hJ ?_ (cell_later hW hB1) (cell_later hW hB2) h2 x2  (hL.more hW) hb h0).mono ?_
  · intro pre x W1 hp hlt
    refine (hY pre x W1 hp hlt).mono ?_
    rintro e W' (⟨rfl, h1, h2⟩ | ⟨rfl, h1⟩)
    · exact ⟨true, rfl, fun _ => ⟨h1, h2⟩, fun h => by cases h⟩
    · exact ⟨false, rfl, fun h => (by cases h), fun _ => h1⟩
  · rintro e W' ⟨he, ⟨ys, hys, hj⟩ | ⟨pre, hp, hj⟩⟩
    · exact ⟨he, .inl ⟨ys, hys, hj⟩⟩
    · exact ⟨he, .inr ⟨pre, hp, hj⟩⟩

end Go.Proofs.YtpaaeojojbdikaaDoor
