/- Merged texts: FldBuild, FldBase, FldPure, FldShelf, FldPack, FldPut -/
import Derived.Shelf.Strings.BuilderK
import Derived.Test.YtfpjbefhfkembaaDoorChecked
import Derived.WalkKit
import Derived.BigCall
import Derived.RegionTactic
import Derived.Test.YtfpjbefhfkembaaDoorFldA
import Derived.Test.YtfpjbefhfkembaaDoorProg
import Derived.BigQuiet
/- strings.Builder's WriteByte and copyCheck at this program (the shelf's own contract is not laid: the check's refused branch is no part of its body here). -/
namespace Go.Proofs.YtfpjbefhfkembaaDoor
open Go.RowKit Go.Shelf

theorem sizeB : (Tryd.prog.info? 76).map (·.size) = some 2 := by kernel_rfl
theorem infoB : (Tryd.prog.info? 5).map (fun i => (i.zero, i.size, i.bytes)) = some (some (.int .u8 0), 1, 1) := by kernel_rfl

set_option maxHeartbeats 1000000 in
set_option maxRecDepth 100000 in
theorem copyCheck_used (b : Nat) (w : World) (h0 : w.cell? ⟨b, 0, none⟩ = some (.pointer (some ⟨b, 0, none⟩))) :
    Calls Tryd.prog 56 #[.pointer (some ⟨b, 0, none⟩)] w fun e w' => e = .returned (.tuple #[]) ∧ w = w' := by
  obtain ⟨j, hj, _⟩ := Option.map_eq_some_iff.1 sizeB
  go_enter Tryd.func56, Tryd.ntmps56
  go_wp2
  rw [Lib.run_neq_ptr_same w _ Tryd.underlying73 hj]
  go_wp2
  go_end0
  exact ⟨rfl, rfl⟩

set_option maxHeartbeats 1000000 in
set_option maxRecDepth 100000 in
theorem copyCheck_fresh (b : Nat) (w : World) (h0 : w.cell? ⟨b, 0, none⟩ = some (.pointer none)) (hsh : w.shape? b = some (76, 2)) (hfz : w.frozen? ⟨b, 0, none⟩ = false) :
    Calls Tryd.prog 56 #[.pointer (some ⟨b, 0, none⟩)] w fun e w' => e = .returned (.tuple #[]) ∧ w' = w.setCell ⟨b, 0, none⟩ (.pointer (some ⟨b, 0, none⟩)) := by
  obtain ⟨j, hj, hjs⟩ := Option.map_eq_some_iff.1 sizeB
  go_enter Tryd.func56, Tryd.ntmps56
  go_wp2
  rw [Lib.run_to_unsafe w ⟨b, 0, none⟩ Tryd.underlying73 Tryd.underlying102 hj (by rw [hjs]; decide) hsh (Nat.zero_lt_succ 1)]
  simp only [Result.andThen]
  rw [Oper.upon_value]
  go_wp2
  rw [run_callFunc_extern Tryd.func71 (by kernel_rfl) (by kernel_rfl) (by kernel_rfl) (e := Extern.AbiNoEscape.same) (by kernel_rfl)]
  rw [Lib.run_noEscape]
  simp only [Result.andThen]
  rw [Oper.upon_value]
  go_wp2
  rw [Lib.run_from_unsafe w ⟨b, 0, none⟩ Tryd.underlying102 Tryd.underlying73 hj hsh (by kernel_rfl)]
  simp only [Result.andThen]
  rw [Oper.upon_value]
  go_wp2
  go_end0
  exact ⟨rfl, rfl⟩

theorem copyCheck_k (B b : Nat) (bs : List Value) (w : World) (h : Lib.IsBuilderF 76 5 B b bs w) :
    Calls Tryd.prog 56 #[.pointer (some ⟨b, 0, none⟩)] w fun e w' => e = .returned (.tuple #[]) ∧ (Lib.BuilderAtF 76 5 B b (.pointer (some ⟨b, 0, none⟩)) bs w' ∧ Below B w w' ∧ Lib.OthersKept 5 (some b) w w') := by
  rcases h with h | h
  · refine (copyCheck_fresh b w h.cell0 h.shape h.frozen0).mono ?_
    rintro e w' ⟨rfl, rfl⟩
    exact ⟨rfl, h.used _, (Below.refl B w).setCell (p := ⟨b, 0, none⟩) h.1 _, (Lib.OthersKept.refl _ _ w).setCell ⟨b, 0, none⟩ rfl _⟩
  · refine (copyCheck_used b w h.cell0).mono ?_
    rintro e w' ⟨rfl, rfl⟩
    exact ⟨rfl, h, Below.refl B _, Lib.OthersKept.refl _ _ _⟩

set_option maxHeartbeats 2000000 in
set_option maxRecDepth 100000 in
theorem writeByte_k (B b : Nat) (bs : List Value) (c : Int) (w : World) (h : Lib.IsBuilderF 76 5 B b bs w) (hlen : bs.length + 1 ≤ 140737488355328) (hBw : B ≤ w.heap.size) :
    Calls Tryd.prog 80 #[.pointer (some ⟨b, 0, none⟩), .int .u8 c] w fun e w' => e = .returned .nilIface ∧ (Lib.IsBuilderF 76 5 B b (bs ++ [.int .u8 c]) w' ∧ Below B w w' ∧ Lib.OthersKept 5 (some b) w w') := by
  obtain ⟨i0, hi, hz0, hz1, hz2⟩ := info_parts infoB
  go_enter Tryd.func80, Tryd.ntmps80
  go_wp2_with (go_at_call 56; refine (copyCheck_k B b bs _ h).mono ?_)
  rintro e w1 ⟨rfl, h1, hb1, hk1⟩
  obtain ⟨hB, v, hbk, hown, hne⟩ := h1
  have c0 : w1.cell? ⟨b, 0, none⟩ = some (.pointer (some ⟨b, 0, none⟩)) := by rw [Lib.cell_of_heap hbk]; rfl
  have c1 : w1.cell? ⟨b, 1, none⟩ = some v := by rw [Lib.cell_of_heap hbk]; rfl
  go_wp2_with (at_builtin; refine wpList_append_ownF _ rfl _ _ 74 rfl B 5 i0 (.int .u8 0) 1 1 Tryd.underlying74 hi hz0 hz1 hz2 rfl (by decide) _ _ _ rfl (hown.alloc _) ⟨w1.heap.size, 0, none⟩ 1 1 [.int .u8 c] rfl rfl ?c1 ?c2 ?c3 ?c4 ?c5 ?_)
  case c1 =>
    intro j u hj
    match j, hj with
    | 0, hj => simp at hj; subst hj; simp [Addr.add]
  case c2 => intro u hu; simp at hu; subst hu; rfl
  case c3 => unfold maxLen; omega
  case c4 => omega
  case c5 => have := hb1.size; simp; omega
  intro v' w2 hown' hgrow _
  have hlt : b < w1.heap.size := by
    rcases Nat.lt_or_ge b w1.heap.size with h' | h'
    · exact h'
    · simp [Array.getElem?_eq_none h'] at hbk
  have hb2 : w2.heap[b]? = some (.cells #[.pointer (some ⟨b, 0, none⟩), v] 76 (0, 0)) := by
    rw [hgrow.block b (by simp; omega) (fun e => hne e.symm), Lib.alloc_old w1 _ b hlt]
    exact hbk
  have d0 : w2.cell? ⟨b, 0, none⟩ = some (.pointer (some ⟨b, 0, none⟩)) := by rw [Lib.cell_of_heap hb2]; rfl
  have d1 : w2.cell? ⟨b, 1, none⟩ = some v := by rw [Lib.cell_of_heap hb2]; rfl
  have f1 : w2.frozen? ⟨b, 1, none⟩ = false := Lib.frozen_of_heap hb2 1
  obtain ⟨g, cap, rfl⟩ : ∃ g cap, v' = .slice (some ⟨g, 0, none⟩) (bs.length + 1) cap := by
    rcases hown'.2 with ⟨_, h0⟩ | ⟨g, cap, cur, fz, hv, _⟩
    · omega
    · exact ⟨g, cap, hv⟩
  go_wp2
  go_ret
  refine ⟨rfl, Or.inr ?_, ?_, ((hk1.alloc _).grown hgrow (Lib.ownsRowF_kind (hown.alloc _))).setCell ⟨b, 1, none⟩ rfl _⟩
  · exact Lib.BuilderAtF.put (T := 76) (e := 5) hB hb2 (bs' := bs ++ [.int .u8 c]) (by simpa using hown') (by decide)
  · exact ((hb1.alloc (by have := hb1.size; omega) _).grown hgrow (by have := hb1.size; simp; omega) (fun k hk => (hown.lt k hk).1)).setCell (p := ⟨b, 1, none⟩) hB _

end Go.Proofs.YtfpjbefhfkembaaDoor

/- Slices of numbers; a builder that is kept; marks of ranges that are over. -/
namespace Go.Proofs.YtfpjbefhfkembaaDoor
open Go.RowKit Go.Shelf Go.Proofs.Fld

/-- The slice at a has the numbers zs, below block B. -/
def SlI (q : IntKind) (B : Nat) (w : World) (a : Option Addr) (zs : List Int) : Prop := ∀ j, (h : j < zs.length) → ∃ g off, a = some ⟨g, off, none⟩ ∧ g < B ∧ w.cell? ⟨g, off + j, none⟩ = some (.int q zs[j])
theorem SlI.below {q : IntKind} {B n : Nat} {w w' : World} {a : Option Addr} {zs : List Int} (h : SlI q B w a zs) (hb : Below n w w') (hn : B ≤ n) : SlI q B w' a zs := fun j hj => by
  obtain ⟨g, off, e, hg, hc⟩ := h j hj
  exact ⟨g, off, e, hg, (hb.cell (p := ⟨g, off + j, none⟩) (by simp; omega)).trans hc⟩
theorem SlI.more {q : IntKind} {B B' : Nat} {w : World} {a : Option Addr} {zs : List Int} (h : SlI q B w a zs) (hB : B ≤ B') : SlI q B' w a zs := fun j hj => by
  obtain ⟨g, off, e, hg, hc⟩ := h j hj
  exact ⟨g, off, e, by omega, hc⟩

theorem isB_kept {T e : TypeId} {B b : Nat} {bs : List Value} {W W' : World} (h : Lib.IsBuilderF T e B b bs W) (hk : ∀ (k : Nat) c t fz, W.heap[k]? = some (.cells c t fz) → W'.heap[k]? = some (.cells c t fz)) : Lib.IsBuilderF T e B b bs W' := by
  have key : ∀ p, Lib.BuilderAtF T e B b p bs W → Lib.BuilderAtF T e B b p bs W' := by
    rintro p ⟨hB, v, hb, hown, hne⟩
    refine ⟨hB, v, hk _ _ _ _ hb, ⟨hown.1, ?_⟩, hne⟩
    rcases hown.2 with h | ⟨g, cap, cur, fz, hv, hbg, hg, rest⟩
    · exact Or.inl h
    · exact Or.inr ⟨g, cap, cur, fz, hv, hbg, hk _ _ _ _ hg, rest⟩
  exact h.imp (key _) (key _)
theorem isB_below {T e : TypeId} {B b : Nat} {bs : List Value} {W W' : World} (h : Lib.IsBuilderF T e B b bs W) (hb : Below W.heap.size W W') : Lib.IsBuilderF T e B b bs W' :=
  isB_kept h fun _ _ _ _ hk => (hb.block _ (Array.getElem?_eq_some_iff.1 hk).1).trans hk
theorem isB_own {T e : TypeId} {B b : Nat} (f : List UInt8 → List Value) : Own (fun pre W => Lib.IsBuilderF T e B b (f pre) W) := fun pre W W' row hs hg hr =>
  isB_kept hs fun k c t fz hk => (hg.block k (Array.getElem?_eq_some_iff.1 hk).1 (fun e => by
    obtain ⟨o, ho, hc⟩ := hr k e.symm
    rw [hk] at ho
    cases ho
    cases hc)).trans hk

def mk (D : Nat) : Deferred := { target := .collected D, args := #[] }
/-- The blocks for deferred calls of ranges that are over: none was deferred. -/
def Marks (Ds : List Nat) (w : World) : Prop := Ds.Nodup ∧ ∀ D ∈ Ds, w.heap[D]? = some (.deferred (some []))
theorem Marks.nil (w : World) : Marks [] w := ⟨List.nodup_nil, fun _ h => by cases h⟩
theorem Marks.lt {Ds : List Nat} {w : World} (h : Marks Ds w) : ∀ D ∈ Ds, D < w.heap.size := fun D hD => (Array.getElem?_eq_some_iff.1 (h.2 D hD)).1
theorem Marks.below {Ds : List Nat} {w w' : World} (h : Marks Ds w) (hb : Below w.heap.size w w') : Marks Ds w' := ⟨h.1, fun D hD => (hb.block D (h.lt D hD)).trans (h.2 D hD)⟩
theorem marks_own {β : Type} {Ds : List Nat} {B : Nat} (hB : ∀ D ∈ Ds, D < B) : OwnFrom B (fun (_ : β) W => Marks Ds W) := fun _ _ _ _ hs hg hr =>
  ⟨hs.1, fun D hD => (hg.block D (hs.lt D hD) (fun e => by have := (hr D e.symm).1; have := hB D hD; omega)).trans (hs.2 D hD)⟩
theorem Marks.others {Ds : List Nat} {w w' : World} {t : TypeId} {b : Nat} {c : Array Value} {u : TypeId} {fz : Nat × Nat} (h : Marks Ds w) (hk : Lib.OthersKept t (some b) w w') (hb : w.heap[b]? = some (.cells c u fz)) : Marks Ds w' :=
  ⟨h.1, fun D hD => hk D _ (h.2 D hD) (fun e => by injection e with e; subst e; rw [h.2 D hD] at hb; cases hb) (fun _ _ e => by cases e)⟩

theorem leaves_marks {F : Fence} {n : Nat} {P : Program} {fn : Func} {tmps : Array Value} {R : Ending → World → Prop} {B : Nat} : ∀ (Ds : List Nat) (w : World), Marks Ds w → (∀ D ∈ Ds, B ≤ D) →
    (∀ w' : World, Below B w w' → (∀ (k : Nat) c t fz, w.heap[k]? = some (.cells c t fz) → w'.heap[k]? = some (.cells c t fz)) → ∃ v, (results fn tmps).run P w' = .ok v w' ∧ R (.returned v) w') →
    LeavesInM F n P fn tmps R (Ds.map mk) .returning w
  | [], w, _, _, h => h w (Below.refl _ _) (fun _ _ _ _ e => e)
  | D :: Ds, w, hm, hB, h => by
    have hD := hm.2 D (List.mem_cons_self ..)
    have hnd := List.nodup_cons.1 hm.1
    have hlt := (Array.getElem?_eq_some_iff.1 hD).1
    have hb1 : Below B w (w.putObj D (.deferred none)) := (Below.refl B w).grown (grownBy_putObj' w D _) (by have := hB D (List.mem_cons_self ..); omega) (fun k e => by cases e; exact hB D (List.mem_cons_self ..))
    refine ⟨by simp, .inl ⟨D, _, rfl, run_takeDeferred hD, ?_⟩⟩
    refine leaves_marks Ds _ ⟨hnd.2, fun E hE => ?_⟩ (fun E hE => hB E (List.mem_cons_of_mem _ hE)) (fun w' hb hc => h w' (hb1.trans hb) (fun k c t fz hk => hc k c t fz ?_))
    · have hne : E ≠ D := fun e => hnd.1 (e ▸ hE)
      exact (World.putObj_heap_other (by first | exact hne | exact hne.symm)).trans (hm.2 E (List.mem_cons_of_mem _ hE))
    · exact (World.putObj_heap_other (fun e => by subst e; rw [hD] at hk; cases hk)).trans hk

theorem boxed_others {w w' : World} {t u : TypeId} {b Bx : Nat} {v : Value} (h : Boxed w Bx u v) (hk : Lib.OthersKept t (some b) w w') (hb : Bx ≠ b) (hu : u ≠ t) : Boxed w' Bx u v :=
  hk Bx _ h (fun e => hb (by injection e)) (fun _ _ e => by injection e with _ e; exact hu e)
theorem keeps_others {w w' : World} {t : TypeId} {b : Nat} {c : Array Value} {u : TypeId} {fz : Nat × Nat} (hk : Lib.OthersKept t (some b) w w') (hs : w.heap.size ≤ w'.heap.size) (hb : w.heap[b]? = some (.cells c u fz)) (B : Nat) : KeepsFrom B w w' :=
  ⟨hs, fun k o _ ho hc => hk k o ho (fun e => by injection e with e; subst e; rw [ho] at hb; cases hb; cases hc) (fun _ _ e => by subst e; cases hc)⟩
theorem isB_block {T e : TypeId} {B b : Nat} {bs : List Value} {W : World} (h : Lib.IsBuilderF T e B b bs W) : ∃ c fz, W.heap[b]? = some (.cells c T fz) := by
  rcases h with ⟨_, v, hb, _⟩ | ⟨_, v, hb, _⟩ <;> exact ⟨_, _, hb⟩
theorem isB_le {T e : TypeId} {B b : Nat} {bs : List Value} {W : World} (h : Lib.IsBuilderF T e B b bs W) : B ≤ b := by
  rcases h with ⟨h, _⟩ | ⟨h, _⟩ <;> exact h

end Go.Proofs.YtfpjbefhfkembaaDoor

/- What the field functions answer: plain functions of lists. -/
namespace Go.Proofs.YtfpjbefhfkembaaDoor
open Go.RowKit Go.Shelf Go.Proofs.Fld

/-- Put's error: none, no width, too great. -/
def putC (k : Int) (n : Nat) : Int := if isW k then (if n < 256 ^ k.toNat then 0 else 31) else 2
def packC : List Int → List Nat → Int
  | k :: ks, n :: ns => if putC k n = 0 then packC ks ns else putC k n
  | _, _ => 0
def packB : List Int → List Nat → List UInt8
  | k :: ks, n :: ns => enc k.toNat n ++ packB ks ns
  | _, _ => []
def packRes (ks : List Int) (ns : List Nat) : List UInt8 × Int := if ks.length = ns.length then (if packC ks ns = 0 then (packB ks ns, 0) else ([], packC ks ns)) else ([], 2)

theorem isW_le {k : Int} (h : isW k) : ∃ m : Nat, k = m ∧ 1 ≤ m ∧ m ≤ 8 := by
  rcases h with rfl | rfl | rfl | rfl
  · exact ⟨1, rfl, by omega, by omega⟩
  · exact ⟨2, rfl, by omega, by omega⟩
  · exact ⟨4, rfl, by omega, by omega⟩
  · exact ⟨8, rfl, by omega, by omega⟩
theorem putC_zero {k : Int} {n : Nat} (h : putC k n = 0) : isW k ∧ n < 256 ^ k.toNat := by
  unfold putC at h
  by_cases hw : isW k
  · rw [if_pos hw] at h
    by_cases hn : n < 256 ^ k.toNat
    · exact ⟨hw, hn⟩
    · rw [if_neg hn] at h; exact absurd h (by decide)
  · rw [if_neg hw] at h; exact absurd h (by decide)
theorem judge_is (s : Sn) (k : Int) (n : Nat) : ErrIs s (judgeV s k n) (putC k n) := by
  unfold judgeV putC
  by_cases hw : isW k
  · rw [if_pos hw, if_pos hw]
    by_cases hn : n < 256 ^ k.toNat
    · rw [if_pos hn, if_pos hn]; exact .ok
    · rw [if_neg hn, if_neg hn]; exact .great k
  · rw [if_neg hw, if_neg hw]; exact .width k
theorem judge_zero {s : Sn} {k : Int} {n : Nat} (h : putC k n = 0) : judgeV s k n = .nilIface := by
  obtain ⟨h1, h2⟩ := putC_zero h
  simp [judgeV, h1, h2]
theorem judge_some {s : Sn} {k : Int} {n : Nat} (h : putC k n ≠ 0) : ∃ v, judgeV s k n = .iface 151 v := by
  unfold judgeV faultV
  unfold putC at h
  by_cases hw : isW k
  · rw [if_pos hw] at h ⊢
    by_cases hn : n < 256 ^ k.toNat
    · rw [if_pos hn] at h; exact absurd rfl h
    · rw [if_neg hn]; exact ⟨_, rfl⟩
  · rw [if_neg hw]; exact ⟨_, rfl⟩
theorem packC_cons {k : Int} {ks : List Int} {n : Nat} {ns : List Nat} (h : putC k n = 0) : packC (k :: ks) (n :: ns) = packC ks ns := by simp [packC, h]
theorem packC_stop {k : Int} {ks : List Int} {n : Nat} {ns : List Nat} (h : putC k n ≠ 0) : packC (k :: ks) (n :: ns) = putC k n := by simp [packC, h]

end Go.Proofs.YtfpjbefhfkembaaDoor

/- strings.Builder.String at this program: the library's contract, laid at its numbers. -/
namespace Go.Proofs.YtfpjbefhfkembaaDoor
open Go.Shelf Go.RowKit
def lays169_ren : Go.Shelf.Ren := ⟨fun | 169 => 41 | n => n, fun | 70 => 73 | 9 => 9 | 0 => 0 | 72 => 76 | 37 => 74 | 127 => 101 | 3 => 3 | 5 => 5 | n => n, fun | n => n⟩
theorem lays169 : Go.Proofs.Lays.n169 Tryd.prog lays169_ren := {
  mixed := by kernel_rfl
  f169 := Tryd.func41.trans (congrArg some (by kernel_rfl))
  t0 := Tryd.underlying0
  a0 := Tryd.isAgg0
  z0 := Tryd.sizeOf0
  v0 := Tryd.zeroValue0
  t3 := Tryd.underlying3
  a3 := Tryd.isAgg3
  z3 := Tryd.sizeOf3
  v3 := Tryd.zeroValue3
  t9 := Tryd.underlying9
  a9 := Tryd.isAgg9
  z9 := Tryd.sizeOf9
  v9 := Tryd.zeroValue9
  t37 := Tryd.underlying74
  a37 := Tryd.isAgg74
  z37 := Tryd.sizeOf74
  v37 := Tryd.zeroValue74
  t70 := Tryd.underlying73
  a70 := Tryd.isAgg73
  z70 := Tryd.sizeOf73
  v70 := Tryd.zeroValue73
  t72 := Tryd.underlying76
  a72 := Tryd.isAgg76
  z72 := Tryd.sizeOf76
  v72 := Tryd.zeroValue76
  t127 := Tryd.underlying101
  a127 := Tryd.isAgg101
  z127 := Tryd.sizeOf101
  v127 := Tryd.zeroValue101 }
theorem extra169 : Builder.Extra Tryd.prog lays169_ren := {
  sizeBuilder := by kernel_rfl
  liesBuilder := by kernel_rfl
  t5 := Tryd.underlying5
  a5 := Tryd.isAgg5
  z5 := Tryd.sizeOf5
  v5 := Tryd.zeroValue5
  infoByte := by kernel_rfl
  cellsByte := by kernel_rfl
  sizeByte := by kernel_rfl
  neB5 := by decide }
theorem builderString_k (B b : Nat) (l : List UInt8) (w : World) (h : Lib.IsBuilderF 76 5 B b (Lib.byteCells l) w) (hBw : B ≤ w.heap.size) :
    Calls Tryd.prog 41 #[.pointer (some ⟨b, 0, none⟩)] w fun e w' => e = .returned (.string ⟨l.toArray⟩) ∧ (Lib.IsBuilderF 76 5 B b (Lib.byteCells l) w' ∧ Below B w w' ∧ Lib.OthersKept 5 (some b) w w') := Any.Builder_String_any_k lays169 extra169 B b l w h hBw
end Go.Proofs.YtfpjbefhfkembaaDoor

/- pack. -/
namespace Go.Proofs.YtfpjbefhfkembaaDoor
open Go.RowKit Go.Shelf Go.Proofs.Fld

attribute [local go_sem] Oper.semAt_some

def PackPost (s : Sn) (r : List UInt8 × Int) (w : World) (e : Ending) (w' : World) : Prop :=
  ∃ ev, ErrIs s ev r.2 ∧ e = .returned (.tuple #[.string (bs r.1), ev]) ∧ Below w.heap.size w w'

/-- Between two numbers: those ahead are in the builder. -/
structure PackInv (w : World) (ws : List Int) (ns : List Nat) (k : Nat) (Ds : List Nat) (acc : List UInt8) (wr : World) : Prop where
  isB : Lib.IsBuilderF 76 5 w.heap.size w.heap.size (Lib.byteCells acc) wr
  below : Below w.heap.size w wr
  marks : Marks Ds wr
  above : ∀ D ∈ Ds, w.heap.size ≤ D
  code : packC ws ns = packC (ws.drop k) (ns.drop k)
  bytes : packB ws ns = acc ++ packB (ws.drop k) (ns.drop k)
  few : acc.length ≤ 8 * k

set_option maxRecDepth 100000 in
set_option maxHeartbeats 2000000 in
theorem pack_in (n : Nat) (hn : 3 ≤ n) (s : Sn) (N : Nat) (ws : List Int) (ns : List Nat) (hwl : ws.length = N) (hnl : ns.length = N) (hN : N ≤ 1048576) (hww : ∀ k ∈ ws, (Lit.int .i64 k).wf = true) (hnw : ∀ x ∈ ns, x < 18446744073709551616)
    (aw an : Option Addr) (cw cn : Nat) (w : World) (hs : Sent s w) (hW : SlI .i64 w.heap.size w aw ws) (hNs : SlI .u64 w.heap.size w an (ns.map fun (x : Nat) => (x : Int))) :
    CallsIn Fence.wide n Tryd.prog 76 #[.slice aw N cw, .slice an N cn] w (PackPost s (packRes ws ns) w) := by
  have h1 : 1 ≤ n := by omega
  have HH := Lib.hid (And.intro hs (And.intro hW hNs))
  have HL := Lib.hid (And.intro (And.intro hwl hnl) (And.intro hww hnw))
  clear hs hW hNs hwl hnl hww hnw
  refine callsIn_of_wp_marks Tryd.func76 rfl trivial ?_ rfl
  simp only [Tryd.ntmps76, List.size_toArray, List.length_cons, List.length_nil, Nat.reduceAdd, Nat.reduceSub, Array.replicate_succ, Array.replicate_zero, List.push_toArray, List.append_toArray, List.nil_append, List.cons_append]
  gi_wp2
  refine wpIn_loop (fun a wr => ∃ (k : Nat) (Ds : List Nat) (acc : List UInt8) (u7 u8 u9 u10 u24 u25 u26 u27 u28 u29 u30 u31 u32 u33 u34 u35 u36 u37 u38 u39 u40 u41 u42 u43 u44 u45 u46 : Value), a = { tmps := #[.slice aw N cw, .slice an N cn, undef, undef, .string { data := #[] }, .nilIface, .pointer (some ⟨w.heap.size, 0, none⟩), u7, u8, u9, u10, .slice aw N cw, .int .i64 (N : Int), .slice an N cn, .int .i64 (N : Int), .bool false, undef, undef, undef, undef, undef, .slice an N cn, .int .i64 (N : Int), .int .i64 (k : Int), u24, u25, u26, u27, u28, u29, u30, u31, u32, u33, u34, u35, u36, u37, u38, u39, u40, u41, u42, u43, u44, u45, u46, undef], defers := Ds.map mk } ∧ k ≤ N ∧ PackInv w ws ns k Ds acc wr)
    (fun a _ => N - (intOf (a.tmps.getD 23 undef)).toNat) ?h0 ?round
  case h0 => exact ⟨0, [], [], _, _, _, _, _, _, _, _, _, _, _, _, _, _, _, _, _, _, _, _, _, _, _, _, _, _, _, rfl, by omega, (Lib.IsBuilderF.of (Lib.fresh_isBuilder 76 5 w)), Below.new _ _, Marks.nil _, fun _ h => (by cases h), rfl, rfl, by simp⟩
  case round =>
    rintro a wr ⟨k, Ds, acc, u7, u8, u9, u10, u24, u25, u26, u27, u28, u29, u30, u31, u32, u33, u34, u35, u36, u37, u38, u39, u40, u41, u42, u43, u44, u45, u46, rfl, hk, hI⟩
    have HI := Lib.hid hI
    clear hI
    have hb0 := HI.out.below
    have hsz := hb0.size
    have hlb : w.heap.size < wr.heap.size := by
      obtain ⟨cb, fz, hbb⟩ := isB_block HI.out.isB
      exact (Array.getElem?_eq_some_iff.1 hbb).1
    by_cases hlt : k < N
    · obtain ⟨kk, hkk⟩ : ∃ kk, ws[k]'(by rw [HL.out.1.1]; exact hlt) = kk := ⟨_, rfl⟩
      obtain ⟨x, hxx⟩ : ∃ x, ns[k]'(by rw [HL.out.1.2]; exact hlt) = x := ⟨_, rfl⟩
      obtain ⟨gw, ow, rfl, hgw, qw⟩ := (HH.out.2.1.below hb0 (Nat.le_refl _)) k (by rw [HL.out.1.1]; exact hlt)
      obtain ⟨gn, on, rfl, hgn, qn⟩ := (HH.out.2.2.below hb0 (Nat.le_refl _)) k (by rw [List.length_map, HL.out.1.2]; exact hlt)
      rw [hkk] at qw
      rw [List.getElem_map, hxx] at qn
      have hkw : Hid ((Lit.int .i64 kk).wf = true) := Lib.hid (HL.out.2.1 _ (hkk ▸ List.getElem_mem _))
      have hxw : Hid (x < 18446744073709551616) := Lib.hid (HL.out.2.2 _ (hxx ▸ List.getElem_mem _))
      have hdw : Hid (ws.drop k = kk :: ws.drop (k + 1)) := Lib.hid (by rw [List.drop_eq_getElem_cons (by rw [HL.out.1.1]; exact hlt), hkk])
      have hdn : Hid (ns.drop k = x :: ns.drop (k + 1)) := Lib.hid (by rw [List.drop_eq_getElem_cons (by rw [HL.out.1.2]; exact hlt), hxx])
      clear hkk hxx
      have hsr : Hid (Sent s wr) := Lib.hid (HH.out.1.more hb0)
      by_cases hz : putC kk x = 0
      · obtain ⟨hw, hx2⟩ := putC_zero hz
        obtain ⟨m, rfl, hm1, hm8⟩ := isW_le hw
        have HZ := Lib.hid hz
        clear hz hw hx2
        gi_wp2_with (refine ⟨trivial, ?_⟩; gi_at_call 74; refine (callsIn_wide.2 (judge_any s _ hkw.out x wr hsr.out)).mono ?_)
        rintro e w1 ⟨he, b1⟩
        rw [judge_zero HZ.out] at he
        subst he
        have qw1 := (b1.cell (p := ⟨gw, ow + k, none⟩) (by simp; omega)).trans qw
        clear qw qn
        gi_wp2_with (refine ⟨trivial, ?_⟩; gi_at_call 79; refine (callsIn_wide.2 (falling_any _ _ _)).mono ?_)
        rintro e w2 ⟨rfl, rfl⟩
        have bK := Boxed.new w1 3 (.int .i64 (m : Int))
        have bN := Boxed.new (w1.alloc (.cells #[.int .i64 (m : Int)] 3)) 22 (.int .u64 (x : Int))
        rw [World.size_alloc] at bN
        have bK2 := bK.alloc (.cells #[.int .u64 (x : Int)] 22)
        have hB2 : Below w1.heap.size w1 ((w1.alloc (.cells #[.int .i64 (m : Int)] 3)).alloc (.cells #[.int .u64 (x : Int)] 22)) := (Below.new w1 _).alloc (by simp) _
        have hB3 : Below wr.heap.size wr ((w1.alloc (.cells #[.int .i64 (m : Int)] 3)).alloc (.cells #[.int .u64 (x : Int)] 22)) := below_more b1 hB2
        have hs1 := b1.size
        have hml := HI.out.marks.lt
        gi_wp2
        refine wpIn_rangeFunc_ownG rfl h1 (gf := 81) (lb := #[.pointer (some ⟨w1.heap.size, 0, none⟩), .pointer (some ⟨w1.heap.size + 1, 0, none⟩)]) rfl trivial (enters_of Tryd.func81 (by kernel_rfl) rfl)
          (falling_stops (n - 1) (by omega) w1.heap.size (w1.heap.size + 1) m x hm8 hxw.out _ (by simp; omega) (by simp) bK2.cell bN.cell) KpF.trans (KpF.putObj (by simp; omega) (by simp)) (Below.refl _ _) (fun _ => rfl)
          (fun (pre : List UInt8) W => ((Lib.IsBuilderF 76 5 w.heap.size w.heap.size (Lib.byteCells (acc ++ pre)) W ∧ (Boxed W w1.heap.size 3 (.int .i64 (m : Int)) ∧ Boxed W (w1.heap.size + 1) 22 (.int .u64 (x : Int)))) ∧ Marks Ds W) ∧ Below w.heap.size w W)
          (fun _ _ _ => False)
          (OwnFrom.and (OwnFrom.and (OwnFrom.and (Own.from (isB_own (fun pre => Lib.byteCells (acc ++ pre))) _) (OwnFrom.and (Own.from (boxed_own _ _ _) _) (Own.from (boxed_own _ _ _) _))) (marks_own (fun D hD => by have := hml D hD; simp; omega))) (ownFrom_below (Nat.le_refl _) (by simp; omega)))
          (fun _ _ _ _ _ hs _ _ => hs)
          ⟨⟨⟨by rw [List.append_nil]; exact isB_below HI.out.isB hB3, bK2, bN⟩, HI.out.marks.below hB3⟩, below_more hb0 hB3⟩
          (fun b => { tmps := #[.slice (some ⟨gw, ow, none⟩) N cw, .slice (some ⟨gn, on, none⟩) N cn, undef, undef, .string { data := #[] }, .nilIface, .pointer (some ⟨w.heap.size, 0, none⟩), .int .i64 (k : Int), .int .u64 (x : Int), .nilIface, .int .u8 (b.toNat : Int), .slice (some ⟨gw, ow, none⟩) N cw, .int .i64 (N : Int), .slice (some ⟨gn, on, none⟩) N cn, .int .i64 (N : Int), .bool false, undef, undef, undef, undef, undef, .slice (some ⟨gn, on, none⟩) N cn, .int .i64 (N : Int), .int .i64 (k : Int), .bool true, .int .i64 (k : Int), .pointer (some ⟨gn, on + k, none⟩), .int .u64 (x : Int), .slice (some ⟨gw, ow, none⟩) N cw, .int .i64 (k : Int), .pointer (some ⟨gw, ow + k, none⟩), .int .i64 (m : Int), .int .u64 (x : Int), .nilIface, .nilIface, .bool false, u36, .slice (some ⟨gw, ow, none⟩) N cw, .int .i64 (k : Int), .pointer (some ⟨gw, ow + k, none⟩), .int .i64 (m : Int), .int .u64 (x : Int), .func (.func 81) #[] #[.pointer (some ⟨w1.heap.size, 0, none⟩), .pointer (some ⟨w1.heap.size + 1, 0, none⟩)], .int .u8 (b.toNat : Int), u44, u45, u46, undef], defers := [] }) ?assign ?body ?done ?stop
        case assign =>
          intro l b W K hK
          gi_wp2
          exact hK
        case body =>
          rintro l pre b W ⟨⟨⟨hIB, bk, bn⟩, hmk⟩, hB⟩ hp8
          have hac := HI.out.few
          have hsW := hB.size
          have hn2 : 1 ≤ n - 1 - 1 := by omega
          have hlen : (Lib.byteCells (acc ++ pre)).length + 1 ≤ 140737488355328 := by rw [Lib.byteCells_length, List.length_append]; omega
          obtain ⟨cb, fz, hbb⟩ := isB_block hIB
          have HBB := Lib.hid hbb
          clear hbb bK bN bK2 hB2 hB3
          gi_wp2_with (refine ⟨trivial, ?_⟩; gi_at_call 80; refine (CallsIn.inRound l (callsIn_wide.2 (writeByte_k w.heap.size w.heap.size _ _ _ hIB hlen hsW))).mono ?_)
          rintro e W3 ⟨rfl, i3, b3, k3⟩
          gi_wp2
          have bk3 := boxed_others bk k3 (by omega) (by decide)
          have bn3 := boxed_others bn k3 (by omega) (by decide)
          exact ⟨keeps_others k3 b3.size HBB.out _, ⟨bk3.cell.trans bk.cell.symm, bn3.cell.trans bn.cell.symm⟩, ⟨⟨⟨by rw [← List.append_assoc, Lib.byteCells_append (acc ++ pre)]; exact i3, bk3, bn3⟩, hmk.others k3 HBB.out⟩, hB.trans b3⟩⟩
        case done =>
          rintro D ys W hD rfl ⟨⟨⟨hIB, _, _⟩, hmk⟩, hB⟩ hK
          gi_wp2
          refine ⟨⟨k + 1, D :: Ds, acc ++ enc m x, _, _, _, _, _, _, _, _, _, _, _, _, _, _, _, _, _, _, _, _, _, _, _, _, _, _, _, rfl, by omega, ⟨hIB, hB, ⟨List.nodup_cons.2 ⟨fun h => ?_, hmk.1⟩, ?_⟩, ?_, ?_, ?_, ?_⟩⟩, ?_⟩
          · have := hml D h
            simp at hD
            omega
          · intro E hE
            rcases List.mem_cons.1 hE with rfl | hE
            · exact hK
            · exact hmk.2 E hE
          · intro E hE
            rcases List.mem_cons.1 hE with rfl | hE
            · simp at hD
              omega
            · exact HI.out.above E hE
          · rw [HI.out.code, hdw.out, hdn.out, packC_cons HZ.out]
          · rw [HI.out.bytes, hdw.out, hdn.out]
            simp [packB]
          · have := HI.out.few
            rw [List.length_append, enc_length]
            omega
          · simp [intOf]
            omega
        case stop =>
          rintro D c pre W _ _ h _
          exact h.elim
      · have HZ := Lib.hid hz
        clear hz
        gi_wp2_with (refine ⟨trivial, ?_⟩; gi_at_call 74; refine (callsIn_wide.2 (judge_any s _ hkw.out x wr hsr.out)).mono ?_)
        rintro e w1 ⟨he, b1⟩
        obtain ⟨fv, hfv⟩ := judge_some (s := s) HZ.out
        have HF := Lib.hid hfv
        rw [hfv] at he
        subst he
        clear hfv
        gi_wp2
        refine leaves_marks (B := w.heap.size) Ds w1 (HI.out.marks.below b1) HI.out.above (fun w' hb' _ => ⟨_, results_tmp2 rfl _ _ _, .iface 151 fv, ?_, ?_, (below_more hb0 b1).trans hb'⟩)
        · rw [← HF.out]
          have hc := HI.out.code
          rw [hdw.out, hdn.out, packC_stop HZ.out] at hc
          have he : (packRes ws ns).2 = putC kk x := by unfold packRes; rw [if_pos (HL.out.1.1.trans HL.out.1.2.symm), hc, if_neg HZ.out]
          rw [he]
          exact judge_is s kk x
        · have hc := HI.out.code
          rw [hdw.out, hdn.out, packC_stop HZ.out] at hc
          have he : (packRes ws ns).1 = [] := by unfold packRes; rw [if_pos (HL.out.1.1.trans HL.out.1.2.symm), hc, if_neg HZ.out]
          rw [he]
          rfl
    · obtain rfl : k = N := by omega
      have hle := isB_le HI.out.isB
      have hc := HI.out.code
      have hby := HI.out.bytes
      rw [List.drop_of_length_le (by rw [HL.out.1.1]; exact Nat.le_refl _)] at hc hby
      have HC := Lib.hid (show packC ws ns = 0 from hc)
      have HB := Lib.hid (show packB ws ns = acc by simpa [packB] using hby)
      clear hc hby hle
      gi_wp2_with (refine ⟨trivial, ?_⟩; gi_at_call 41; refine (callsIn_wide.2 (builderString_k w.heap.size w.heap.size acc wr HI.out.isB hsz)).mono ?_)
      rintro e w1 ⟨rfl, _, b1, k1⟩
      obtain ⟨cb, fz, hbb⟩ := isB_block HI.out.isB
      have hm1 := HI.out.marks.others k1 hbb
      clear hbb
      gi_wp2
      refine leaves_marks (B := w.heap.size) Ds w1 hm1 HI.out.above (fun w' hb' _ => ⟨_, results_tmp2 rfl _ _ _, .nilIface, ?_, ?_, (hb0.trans b1).trans hb'⟩)
      · have he : (packRes ws ns).2 = 0 := by unfold packRes; rw [if_pos (HL.out.1.1.trans HL.out.1.2.symm), if_pos HC.out]
        rw [he]
        exact .ok
      · have he : (packRes ws ns).1 = acc := by unfold packRes; rw [if_pos (HL.out.1.1.trans HL.out.1.2.symm), if_pos HC.out]; exact HB.out
        rw [he]
        rfl

end Go.Proofs.YtfpjbefhfkembaaDoor

/- pack at lists of whatever lengths; Put, Pack. -/
namespace Go.Proofs.YtfpjbefhfkembaaDoor
open Go.RowKit Go.Shelf Go.Proofs.Fld

set_option maxRecDepth 100000 in
set_option maxHeartbeats 1000000 in
theorem pack_len (s : Sn) (N M : Nat) (hne : N ≠ M) (aw an : Option Addr) (cw cn : Nat) (w : World) (hs : Sent s w) :
    Calls Tryd.prog 76 #[.slice aw N cw, .slice an M cn] w (PackPost s ([], 2) w) := by
  have hn : ((N : Int) != (M : Int)) = true := by simp; omega
  have gw := hs.cw
  go_enter Tryd.func76, Tryd.ntmps76
  go_wp2
  go_region
  all_goals
    go_wp2
    go_ret2
    first | exact ⟨_, .width _, rfl, (Below.refl _ w).drew⟩ | exact ⟨_, .width _, rfl, Below.refl _ _⟩ | exact ⟨_, .width _, rfl, (Below.refl _ w).drew.drew⟩

theorem pack_any (s : Sn) (ws : List Int) (ns : List Nat) (hN : ns.length ≤ 1048576) (hww : ∀ k ∈ ws, (Lit.int .i64 k).wf = true) (hnw : ∀ x ∈ ns, x < 18446744073709551616)
    (aw an : Option Addr) (cw cn : Nat) (w : World) (hs : Sent s w) (hW : SlI .i64 w.heap.size w aw ws) (hNs : SlI .u64 w.heap.size w an (ns.map fun (x : Nat) => (x : Int))) :
    Calls Tryd.prog 76 #[.slice aw ws.length cw, .slice an ns.length cn] w (PackPost s (packRes ws ns) w) := by
  by_cases h : ws.length = ns.length
  · have := pack_in 3 (by omega) s ns.length ws ns h rfl hN hww hnw aw an cw cn w hs hW hNs
    rw [h]
    exact (callsIn_wide (n := 3)).1 this
  · have e : packRes ws ns = ([], 2) := by unfold packRes; rw [if_neg h]
    rw [e]
    exact pack_len s _ _ h aw an cw cn w hs

theorem slI_one (q : IntKind) (x : Int) (t : TypeId) (w : World) : SlI q (w.heap.size + 1) (w.alloc (.cells #[.int q x] t)) (some ⟨w.heap.size, 0, none⟩) [x] := by
  intro j hj
  obtain rfl : j = 0 := by simp at hj; omega
  exact ⟨w.heap.size, 0, rfl, by omega, by rw [World.cell?_alloc_at _ _ _ _ rfl]; rfl⟩

/-- The bytes and the code that a call of two results answers. -/
def SC (r : List UInt8 × Int) (w : World) (e : Ending) (w' : World) : Prop := e = .returned (.tuple #[.string (bs r.1), .int .i64 r.2]) ∧ Below w.heap.size w w'
def putRes (k : Int) (n : Nat) : List UInt8 × Int := if putC k n = 0 then (enc k.toNat n, 0) else ([], putC k n)
theorem putRes_ok {m : Nat} {n : Nat} (hm : isW (m : Int)) (h : n < 256 ^ m) : putRes (m : Int) n = (enc m n, 0) := by
  have hz : putC (m : Int) n = 0 := by unfold putC; rw [if_pos hm, if_pos (by simpa using h)]
  unfold putRes
  rw [if_pos hz]
  rfl
theorem putRes_great {m : Nat} {n : Nat} (hm : isW (m : Int)) (h : ¬ n < 256 ^ m) : putRes (m : Int) n = ([], 31) := by
  have hz : putC (m : Int) n = 31 := by unfold putC; rw [if_pos hm, if_neg (by simpa using h)]
  unfold putRes
  rw [hz]
  rfl
theorem putRes_bad {k : Int} {n : Nat} (hm : ¬ isW k) : putRes k n = ([], 2) := by
  have hz : putC k n = 2 := by unfold putC; rw [if_neg hm]
  unfold putRes
  rw [hz]
  rfl
theorem putRes_cases (k : Int) (n : Nat) : (∃ m : Nat, k = m ∧ isW (m : Int) ∧ n < 256 ^ m ∧ putRes k n = (enc m n, 0)) ∨ (∃ c : Int, c ≠ 0 ∧ (c == 0) = false ∧ (c != 0) = true ∧ putRes k n = ([], c)) := by
  by_cases h : isW k
  · obtain ⟨m, rfl, _, _⟩ := isW_le h
    by_cases hn : n < 256 ^ m
    · exact .inl ⟨m, rfl, h, hn, putRes_ok h hn⟩
    · exact .inr ⟨31, by decide, rfl, rfl, putRes_great h hn⟩
  · exact .inr ⟨2, by decide, rfl, rfl, putRes_bad h⟩

theorem packRes_one (k : Int) (n : Nat) : packRes [k] [n] = putRes k n := by
  unfold packRes putRes
  by_cases h : putC k n = 0 <;> simp [packC, packB, h]

set_option maxHeartbeats 1000000 in
theorem packE_any (s : Sn) (ws : List Int) (ns : List Nat) (hN : ns.length ≤ 1048576) (hww : ∀ k ∈ ws, (Lit.int .i64 k).wf = true) (hnw : ∀ x ∈ ns, x < 18446744073709551616)
    (aw an : Option Addr) (cw cn : Nat) (w : World) (hs : Sent s w) (hW : SlI .i64 w.heap.size w aw ws) (hNs : SlI .u64 w.heap.size w an (ns.map fun (x : Nat) => (x : Int))) :
    Calls Tryd.prog 70 #[.slice aw ws.length cw, .slice an ns.length cn] w (SC (packRes ws ns) w) := by
  have HP := Lib.hid (pack_any s ws ns hN hww hnw aw an cw cn w hs hW hNs)
  have HS := Lib.hid hs
  clear hW hNs hs hww hnw
  go_enter Tryd.func70, Tryd.ntmps70
  go_wp2_with (go_at_call 76; refine HP.out.mono ?_)
  rintro e w1 ⟨ev, hev, rfl, b1⟩
  have HE := Lib.hid hev
  clear hev
  go_wp2_with (go_at_call 66; refine (told_any s HE.out w1 (HS.out.more b1)).mono ?_)
  rintro e w2 ⟨rfl, b3⟩
  go_wp2
  go_ret2
  exact ⟨rfl, below_more b1 b3⟩

end Go.Proofs.YtfpjbefhfkembaaDoor
