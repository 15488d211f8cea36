/- The objects of a slice, one by one: slices.Values, all. -/
import Derived.Test.YtnbpfbmhheimbaaGreatDoorSpRange
namespace Go.Proofs.YtnbpfbmhheimbaaGreatDoor
open Go.RowKit Go.Proofs.Fld Go.Proofs.Rng Go.Proofs.Spc Go.Shelf Go.Sort

attribute [local go_sem] Oper.semAt_some

/-- All blocks that are as p says lie as they lay. -/
def KS (p : Nat → Prop) (A B : World) : Prop := A.heap.size ≤ B.heap.size ∧ ∀ k, p k → B.heap[k]? = A.heap[k]?
theorem KS.refl (p : Nat → Prop) (A : World) : KS p A A := ⟨Nat.le_refl _, fun _ _ => rfl⟩
theorem KS.trans {p : Nat → Prop} {A B C : World} (h : KS p A B) (k : KS p B C) : KS p A C := ⟨Nat.le_trans h.1 k.1, fun i hi => (k.2 i hi).trans (h.2 i hi)⟩
theorem KS.of_below {p : Nat → Prop} {m : Nat} {A B : World} (h : Below m A B) (hp : ∀ k, p k → k < m) : KS p A B := ⟨h.size, fun k hk => h.block k (hp k hk)⟩
theorem KS.put {p : Nat → Prop} (W : World) (l : Nat) (o' : Obj) (h : ¬ p l) : KS p W (W.putObj l o') := ⟨by simp, fun k hk => World.putObj_heap_other (fun e => h (e ▸ hk))⟩
theorem KS.set {p : Nat → Prop} (W : World) (X o : Nat) (v : Value) (h : ¬ p X) : KS p W (W.setCell ⟨X, o, none⟩ v) := ⟨by simp [World.setCell], fun k hk => Below.heap_setCell _ _ _ _ (fun e => h ((show k = X from e) ▸ hk))⟩
theorem KS.obat {p : Nat → Prop} {A B : World} (h : KS p A B) {b o : Nat} {x : Ov} (hc : ObAt A b o x) (hp : p b) : ObAt B b o x := hc.of_block (h.2 _ hp)
theorem own_alloc {β : Type} {B : Nat} {I : β → World → Prop} (h : OwnFrom B I) {s : β} {W : World} (o : Obj) (hs : I s W) : I s (W.alloc o) := h.alloc o hs
theorem take_prefix {α : Type} {zs : List α} {k : Nat} {x : α} (h : zs[k]? = some x) : zs.take k ++ [x] <+: zs := by
  rw [← take_next zs k x h]
  exact List.take_prefix _ _

set_option maxRecDepth 100000 in
set_option maxHeartbeats 4000000 in
theorem vals1 (n : Nat) (hn : 1 ≤ n) (p : Nat → Prop) (B1 len cap : Nat) (ao : Option Addr) (zs : List Ov) (hreach : len ≤ 1000000) (w : World) (hp : ∀ k, p k → k < w.heap.size)
    (hB1 : w.cell? ⟨B1, 0, none⟩ = some (.slice ao len cap)) (hL : Objs w ao len cap zs) (hb : 0 < len → ∀ a, ao = some a → p a.block) :
    SeqY (fun pre x => pre ++ [x] <+: zs) n Tryz.prog 104 #[.pointer (some ⟨B1, 0, none⟩)] (fun x : Ov => #[ov x]) (KS p) (fun ys => ys = zs) (fun pre => pre <+: zs) w := fun l J Jx W hW hWs hJ hJx hY h0 => by
  refine callsIn_of_wp Tryz.func104 rfl trivial ?_ rfl
  simp only [Tryz.ntmps104, List.size_toArray, List.length_cons, List.length_nil, Nat.reduceAdd, Nat.reduceSub, Array.replicate_succ, Array.replicate_zero, List.push_toArray, List.append_toArray, List.nil_append, List.cons_append]
  have hlen := hL.hlen
  have c1 := cell_later hW hB1
  have HLN := Lib.hid hlen
  have HL := Lib.hid hL
  have HB := Lib.hid hb
  have HP := Lib.hid (And.intro hp hW)
  clear hL hb hlen hB1 hp hW hWs
  have HJ0 := Lib.hid hJ
  have HY := Lib.hid hY
  clear hJ hY hJx
  gi_wp2
  gi_loopw [7] (fun i wr => ∃ k : Nat, k ≤ len ∧ i = .int .i64 k ∧ Hid (J (zs.take k) wr) ∧ Hid (KS p W wr))
    (fun i _ => len - (intOf i).toNat)
  case atStart => exact ⟨0, Nat.zero_le _, rfl, by rw [List.take_zero]; exact h0, KS.refl _ _⟩
  case round =>
    obtain ⟨k, hk, rfl, HJ, HNX⟩ := hrel
    by_cases hlt : k < len
    · obtain ⟨x, hx⟩ : ∃ x, zs[k]? = some x := ⟨_, List.getElem?_eq_getElem (by rw [HLN.out]; exact hlt)⟩
      obtain ⟨b, off, rfl, hbW, hcs⟩ := HL.out.at (by omega)
      have hbm := HB.out (by omega) _ rfl
      obtain ⟨q0, q1, q2, q3, q4⟩ := (HNX.out).obat ((hcs k x hx).of_block (HP.out.2.block b hbW)) hbm
      have HX := Lib.hid (take_next zs k x hx)
      have HH := Lib.hid (take_prefix hx)
      have hbr : Below wr.heap.size wr (wr.alloc (.cells #[.string (bs x.o.n), .int .i64 x.o.k, .string (bs x.o.d), .int .i64 x.o.m, .slice x.a x.o.l.length x.c] 55)) := Below.new _ _
      have hsz := HNX.out.1
      have HK1 := Lib.hid (HNX.out.trans (KS.of_below (p := p) hbr (fun i hi => by have := HP.out.1 i hi; have := HP.out.2.size; omega)))
      have HJ1 := Lib.hid (own_alloc HJ0.out (.cells #[.string (bs x.o.n), .int .i64 x.o.k, .string (bs x.o.d), .int .i64 x.o.m, .slice x.a x.o.l.length x.c] 55) HJ.out)
      obtain ⟨fn, tmps, assign, body, hy, hR⟩ := HY.out _ x _ HJ1.out HH.out
      simp only [ov] at hy
      have HR := Lib.hid hR
      clear hcs hbr hx hR
      gi_wp2
      refine HR.out.mono ?_
      rintro e W3 (⟨rfl, hJ3, hk3, _⟩ | ⟨rfl, hJ3, _⟩)
      · have HJ3 := Lib.hid hJ3
        have HK3 := Lib.hid (HK1.out.trans hk3)
        clear hJ3 hk3 hy
        gi_wp2
        go_roundw
        case rel => exact ⟨k + 1, by omega, by simp, by rw [HX.out]; exact HJ3.out, HK3.out⟩
        case measure => simp [intOf]; omega
      · have HJ3 := Lib.hid hJ3
        clear hJ3 hy
        gi_wp2
        refine bodyPost_ret (results_none rfl _ _ _) rfl ?_
        exact ⟨⟨_, rfl⟩, .inr ⟨_, HH.out, HJ3.out⟩⟩
    · obtain rfl : k = len := by omega
      gi_wp2
      go_end0
      exact ⟨⟨_, rfl⟩, .inl ⟨_, rfl, by have h := HJ.out; rw [List.take_of_length_le (Nat.le_of_eq HLN.out)] at h; exact h⟩⟩

/-- all: the iterator, and its box. -/
def AllP (ao : Option Addr) (len cap : Nat) (w : World) (e : Ending) (w' : World) : Prop :=
  e = .returned (.func (.func 104) #[] #[.pointer (some ⟨w.heap.size, 0, none⟩)]) ∧ w.alloc (.cells #[.slice ao len cap] 60) = w'
set_option maxHeartbeats 1000000 in
theorem vals_any (ao : Option Addr) (len cap : Nat) (w : World) :
    Calls Tryz.prog 84 #[.slice ao len cap] w (AllP ao len cap w) := by
  go_enter Tryz.func84, Tryz.ntmps84
  go_wp2
  go_ret
  exact ⟨rfl, rfl⟩
set_option maxHeartbeats 1000000 in
theorem all_any (ao : Option Addr) (len cap : Nat) (w : World) :
    Calls Tryz.prog 49 #[.slice ao len cap] w (AllP ao len cap w) := by
  go_enter Tryz.func49, Tryz.ntmps49
  go_wp2_with (go_at_call 84; refine (vals_any ao len cap _).mono ?_)
  rintro e w1 ⟨rfl, rfl⟩
  go_wp2
  go_ret
  exact ⟨rfl, rfl⟩

end Go.Proofs.YtnbpfbmhheimbaaGreatDoor
