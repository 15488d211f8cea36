/- Merged texts: LcRead, LcNext, LcRange, LcEach, LcRows, LcList -/
import Derived.Test.YtfpjbefhfkembaaDoorLcA
import Derived.Test.YtfpjbefhfkembaaDoorLabA
import Derived.Test.YtfpjbefhfkembaaDoorFldC
/- The coder: what is left; more; next. -/
namespace Go.Proofs.YtfpjbefhfkembaaDoor
open Go.RowKit Go.Shelf Go.Proofs.Fld Go.Proofs.Cats Go.Proofs.Lcd

/-- The coder at block R has the bytes l left, behind k labels. -/
structure Cd (w : World) (R : Nat) (l : List UInt8) (k : Int) : Prop where
  c0 : w.cell? ⟨R, 0, none⟩ = some (.string (bs l))
  c1 : w.cell? ⟨R, 1, none⟩ = some (.int .i64 k)
  f0 : w.frozen? ⟨R, 0, none⟩ = false
  f1 : w.frozen? ⟨R, 1, none⟩ = false
theorem Cd.lt {w : World} {R : Nat} {l : List UInt8} {k : Int} (h : Cd w R l k) : R < w.heap.size := World.block_lt_of_cell? w _ h.c0
theorem Cd.below {w w' : World} {R n : Nat} {l : List UInt8} {k : Int} (h : Cd w R l k) (hb : Below n w w') (hR : R < n) : Cd w' R l k :=
  ⟨(hb.cell (p := ⟨R, 0, none⟩) hR).trans h.c0, (hb.cell (p := ⟨R, 1, none⟩) hR).trans h.c1, (hb.frozen (p := ⟨R, 0, none⟩) hR).trans h.f0, (hb.frozen (p := ⟨R, 1, none⟩) hR).trans h.f1⟩
theorem Cd.more {w w' : World} {R : Nat} {l : List UInt8} {k : Int} (h : Cd w R l k) (hb : Below w.heap.size w w') : Cd w' R l k := h.below hb h.lt
theorem Cd.new (w : World) (l : List UInt8) (k : Int) : Cd (w.alloc (.cells #[.string (bs l), .int .i64 k] 60)) w.heap.size l k := by
  constructor
  · rw [World.cell?_alloc_at _ _ _ _ rfl]; rfl
  · rw [World.cell?_alloc_at _ _ _ _ rfl]; rfl
  · simp
  · simp
theorem Cd.set {w : World} {R : Nat} {l m : List UInt8} {k j : Int} (h : Cd w R l k) : Cd ((w.setCell ⟨R, 0, none⟩ (.string (bs m))).setCell ⟨R, 1, none⟩ (.int .i64 j)) R m j :=
  ⟨Lb.setO (Lb.setS _ h.c0) (Lb.ne_off (by omega)), Lb.setS _ (Lb.setO h.c1 (Lb.ne_off (by omega))), Lb.setF (Lb.setF h.f0), Lb.setF (Lb.setF h.f1)⟩

set_option maxHeartbeats 400000 in
theorem readL_any (l : List UInt8) (w : World) : Calls Tryd.prog 30 #[.string (bs l)] w fun e w' => e = .returned (.pointer (some ⟨w.heap.size, 0, none⟩)) ∧ w' = w.alloc (.cells #[.string (bs l), .int .i64 0] 60) := by
  go_enter Tryd.func30, Tryd.ntmps30
  go_wp2
  go_ret
  exact ⟨rfl, rfl⟩

set_option maxHeartbeats 400000 in
theorem more_any (R : Nat) (l : List UInt8) (k : Int) (w : World) (h : Cd w R l k) : Calls Tryd.prog 50 #[.pointer (some ⟨R, 0, none⟩)] w fun e w' => e = .returned (.bool (!l.isEmpty)) ∧ w = w' := by
  have c0 := h.c0
  have hq := str_neq l
  clear h
  go_enter Tryd.func50, Tryd.ntmps50
  go_wp2
  go_ret
  exact ⟨by rw [bs_toList]; cases l <;> rfl, rfl⟩

theorem numsC_lab (l : List UInt8) : numsC [1, 1, 8] l = if l.length < 10 then 30 else 0 := by
  by_cases h1 : l.length < 1
  · simp [numsC, getC, isW1, h1, show l.length < 10 by omega]
  · by_cases h2 : l.length < 2
    · simp [numsC, getC, isW1, h1, show l.length - 1 < 1 by omega, show l.length < 10 by omega]
    · by_cases h3 : l.length < 10
      · simp [numsC, getC, isW1, isW8, h1, show ¬ l.length - 1 < 1 by omega, show l.length - (1 + 1) < 8 by omega, h3]
      · simp [numsC, getC, isW1, isW8, h1, show ¬ l.length - 1 < 1 by omega, show ¬ l.length - (1 + 1) < 8 by omega, h3]
theorem numsR_lab (l : List UInt8) : numsR [1, 1, 8] l = l.drop 10 := by simp [numsR, List.drop_drop]
theorem numsL_lab (l : List UInt8) : numsL [1, 1, 8] l = [dec 0 (l.take 1), dec 0 ((l.drop 1).take 1), dec 0 ((l.drop 2).take 8)] := by simp [numsL]

theorem unpack_few (s : Sn) (l : List UInt8) (hl : l.length < 10) (ga : Nat) (w : World) (hs : Sent s w) (hga : ga < w.heap.size) (a0 : w.cell? ⟨ga, 0, none⟩ = some (.int .i64 1)) (a1 : w.cell? ⟨ga, 1, none⟩ = some (.int .i64 1)) (a2 : w.cell? ⟨ga, 2, none⟩ = some (.int .i64 8)) :
    Calls Tryd.prog 45 #[.slice (some ⟨ga, 0, none⟩) 3 3, .string (bs l)] w fun e w' => ∃ (a : Option Addr) (cap : Nat), e = .returned (.tuple #[.slice a 0 cap, .string (bs []), .int .i64 30]) ∧ Below w.heap.size w w' := by
  have h := unpack_any s [1, 1, 8] (by simp) wfs118 l (some ⟨ga, 0, none⟩) 3 w hs (slI3 hga a0 a1 a2)
  have e : unpackRes [1, 1, 8] l = ([], [], 30) := by
    unfold unpackRes
    rw [numsC_lab, if_pos hl]
    rfl
  rw [e] at h
  exact h.mono fun e w' ⟨a, cap, he, _, hb⟩ => ⟨a, cap, he, hb⟩
theorem unpack_ok (s : Sn) (l : List UInt8) (hl : 10 ≤ l.length) (ga : Nat) (w : World) (hs : Sent s w) (hga : ga < w.heap.size) (a0 : w.cell? ⟨ga, 0, none⟩ = some (.int .i64 1)) (a1 : w.cell? ⟨ga, 1, none⟩ = some (.int .i64 1)) (a2 : w.cell? ⟨ga, 2, none⟩ = some (.int .i64 8)) :
    Calls Tryd.prog 45 #[.slice (some ⟨ga, 0, none⟩) 3 3, .string (bs l)] w fun e w' => ∃ (g o cap : Nat), e = .returned (.tuple #[.slice (some ⟨g, o, none⟩) 3 cap, .string (bs (l.drop 10)), .int .i64 0]) ∧
      w'.cell? ⟨g, o, none⟩ = some (.int .u64 (dec 0 (l.take 1) : Nat)) ∧ w'.cell? ⟨g, o + 1, none⟩ = some (.int .u64 (dec 0 ((l.drop 1).take 1) : Nat)) ∧ w'.cell? ⟨g, o + 2, none⟩ = some (.int .u64 (dec 0 ((l.drop 2).take 8) : Nat)) ∧ Below w.heap.size w w' := by
  have h := unpack_any s [1, 1, 8] (by simp) wfs118 l (some ⟨ga, 0, none⟩) 3 w hs (slI3 hga a0 a1 a2)
  have e : unpackRes [1, 1, 8] l = ([dec 0 (l.take 1), dec 0 ((l.drop 1).take 1), dec 0 ((l.drop 2).take 8)], l.drop 10, 0) := by
    have hz : numsC [1, 1, 8] l = 0 := by rw [numsC_lab, if_neg (show ¬ l.length < 10 by omega)]
    unfold unpackRes
    rw [if_pos hz, numsL_lab, numsR_lab]
  rw [e] at h
  refine h.mono fun e w' ⟨a, cap, he, hsl, hb⟩ => ?_
  obtain ⟨g, o, rfl, _, h0, h1, h2⟩ := slI3_inv hsl
  exact ⟨g, o, cap, he, h0, h1, h2, hb⟩

/-- What next tells. -/
def NextPost (t : SnL) (R : Nat) (l : List UInt8) (w : World) (e : Ending) (w' : World) : Prop :=
  ∃ (ev : Value), ErrL t ev (getR l).2.2 ∧ e = .returned (.tuple #[.agg #[.int .i64 (getR l).1.l, .int .u64 (getR l).1.c, .int .i64 (getR l).1.i], ev]) ∧ w.grownBy w' (some R) ∧ ((getR l).2.2 = 0 → ∃ k, Cd w' R (l.drop 10) k)

theorem unpackU_few (s : Sn) (l : List UInt8) (hl : Hid (l.length < 10)) (w : World) (o : Obj) (hs : Hid (Sent s w)) :
    Calls Tryd.prog 45 #[.slice (some ⟨w.heap.size + 1, 0, none⟩) 3 3, .string (bs l)] ((w.alloc o).alloc (.cells #[.int .i64 1, .int .i64 1, .int .i64 8] 3)).drew fun e w' => ∃ (a : Option Addr) (cap : Nat), e = .returned (.tuple #[.slice a 0 cap, .string (bs []), .int .i64 30]) ∧ Below (w.heap.size + 1) (w.alloc o) w' := by
  have hB : Below w.heap.size w ((w.alloc o).alloc (.cells #[.int .i64 1, .int .i64 1, .int .i64 8] 3)).drew := ((Below.new w _).alloc (by simp) _).drew
  have hB2 : Below (w.alloc o).heap.size (w.alloc o) ((w.alloc o).alloc (.cells #[.int .i64 1, .int .i64 1, .int .i64 8] 3)).drew := (Below.new _ _).drew
  refine (unpack_few s l hl.out (w.heap.size + 1) _ (hs.out.more hB) ?_ ?_ ?_ ?_).mono fun e w' ⟨a, cap, he, hb⟩ => ⟨a, cap, he, by have := below_more hB2 hb; rwa [World.size_alloc] at this⟩
  all_goals first | (go_simp; done) | (simp; done) | (simp; omega)
theorem unpackU_ok (s : Sn) (l : List UInt8) (hl : Hid (10 ≤ l.length)) (w : World) (o : Obj) (hs : Hid (Sent s w)) :
    Calls Tryd.prog 45 #[.slice (some ⟨w.heap.size + 1, 0, none⟩) 3 3, .string (bs l)] ((w.alloc o).alloc (.cells #[.int .i64 1, .int .i64 1, .int .i64 8] 3)).drew fun e w' => ∃ (g o' cap : Nat), e = .returned (.tuple #[.slice (some ⟨g, o', none⟩) 3 cap, .string (bs (l.drop 10)), .int .i64 0]) ∧
      w'.cell? ⟨g, o', none⟩ = some (.int .u64 (dec 0 (l.take 1) : Nat)) ∧ w'.cell? ⟨g, o' + 1, none⟩ = some (.int .u64 (dec 0 ((l.drop 1).take 1) : Nat)) ∧ w'.cell? ⟨g, o' + 2, none⟩ = some (.int .u64 (dec 0 ((l.drop 2).take 8) : Nat)) ∧ Below (w.heap.size + 1) (w.alloc o) w' := by
  have hB : Below w.heap.size w ((w.alloc o).alloc (.cells #[.int .i64 1, .int .i64 1, .int .i64 8] 3)).drew := ((Below.new w _).alloc (by simp) _).drew
  have hB2 : Below (w.alloc o).heap.size (w.alloc o) ((w.alloc o).alloc (.cells #[.int .i64 1, .int .i64 1, .int .i64 8] 3)).drew := (Below.new _ _).drew
  refine (unpack_ok s l hl.out (w.heap.size + 1) _ (hs.out.more hB) ?_ ?_ ?_ ?_).mono fun e w' ⟨g, o', cap, he, h0, h1, h2, hb⟩ => ⟨g, o', cap, he, h0, h1, h2, by have := below_more hB2 hb; rwa [World.size_alloc] at this⟩
  all_goals first | (go_simp; done) | (simp; done) | (simp; omega)

end Go.Proofs.YtfpjbefhfkembaaDoor

/- next: a label off what is left. -/
namespace Go.Proofs.YtfpjbefhfkembaaDoor
open Go.RowKit Go.Shelf Go.Proofs.Fld Go.Proofs.Cats Go.Proofs.Lcd

theorem below_only {n R : Nat} {a b c : World} (h : Below n a b) (hg : b.grownBy c (some R)) (hn : n ≤ a.heap.size) (hR : n ≤ R) : Below n a c :=
  h.grown hg (Nat.le_trans hn h.size) (fun k e => by cases e; exact hR)

theorem grown_set (W : World) (b i : Nat) (v : Value) : W.grownBy (W.setCell ⟨b, i, none⟩ v) (some b) :=
  ⟨rfl, rfl, rfl, by simp [World.setCell], fun k _ hk => Below.heap_setCell _ _ _ k (fun e => hk (by rw [e]))⟩
/-- A label stored at block b. -/
def set3 (W : World) (b : Nat) (u x y : Value) : World := ((W.setCell ⟨b, 0, none⟩ u).setCell ⟨b, 1, none⟩ x).setCell ⟨b, 2, none⟩ y
theorem set3O {W : World} {b B o : Nat} {v u x y : Value} (h : W.cell? ⟨B, o, none⟩ = some v) (hne : b ≠ B) : (((W.setCell ⟨b, 0, none⟩ u).setCell ⟨b, 1, none⟩ x).setCell ⟨b, 2, none⟩ y).cell? ⟨B, o, none⟩ = some v :=
  Lb.setO (Lb.setO (Lb.setO h (Lb.ne_blk hne)) (Lb.ne_blk hne)) (Lb.ne_blk hne)
theorem set3S {W : World} {b : Nat} {p q r u x y : Value} (h0 : W.cell? ⟨b, 0, none⟩ = some p) (h1 : W.cell? ⟨b, 1, none⟩ = some q) (h2 : W.cell? ⟨b, 2, none⟩ = some r) :
    (((W.setCell ⟨b, 0, none⟩ u).setCell ⟨b, 1, none⟩ x).setCell ⟨b, 2, none⟩ y).cell? ⟨b, 0, none⟩ = some u ∧ (((W.setCell ⟨b, 0, none⟩ u).setCell ⟨b, 1, none⟩ x).setCell ⟨b, 2, none⟩ y).cell? ⟨b, 1, none⟩ = some x ∧ (((W.setCell ⟨b, 0, none⟩ u).setCell ⟨b, 1, none⟩ x).setCell ⟨b, 2, none⟩ y).cell? ⟨b, 2, none⟩ = some y :=
  ⟨Lb.setO (Lb.setO (Lb.setS _ h0) (Lb.ne_off (by omega))) (Lb.ne_off (by omega)), Lb.setO (Lb.setS _ (Lb.setO h1 (Lb.ne_off (by omega)))) (Lb.ne_off (by omega)), Lb.setS _ (Lb.setO (Lb.setO h2 (Lb.ne_off (by omega))) (Lb.ne_off (by omega)))⟩
theorem set3B {n : Nat} {w W : World} (h : Below n w W) {b : Nat} (hb : n ≤ b) (u x y : Value) : Below n w (((W.setCell ⟨b, 0, none⟩ u).setCell ⟨b, 1, none⟩ x).setCell ⟨b, 2, none⟩ y) :=
  ((h.setCell (p := ⟨b, 0, none⟩) hb _).setCell (p := ⟨b, 1, none⟩) hb _).setCell (p := ⟨b, 2, none⟩) hb _

set_option maxRecDepth 100000 in
set_option maxHeartbeats 1000000 in
theorem next_few (s : Sn) (t : SnL) (w0 : World) (hs : SentL s t w0) (R : Nat) (l : List UInt8) (k : Int) (hl : l.length < 10) (w : World) (hw : Below w0.heap.size w0 w) (hC : Cd w R l k) :
    Calls Tryd.prog 31 #[.pointer (some ⟨R, 0, none⟩)] w (NextPost t R l w) := by
  have c0 := hC.c0
  have hRl := hC.lt
  have HC := Lib.hid (And.intro hC hw)
  have HS := Lib.hid hs
  have HL := Lib.hid hl
  have S1 := Lib.hid (hs.fld.below (Nat.le_refl _) hw)
  clear hC hs hl hw
  have q0 : ∀ o, (w.alloc o).cell? ⟨R, 0, none⟩ = some (.string (bs l)) := fun o => cell_later (Below.new w o) c0
  have p0 : ∀ o o', ((w.alloc o).alloc o').cell? ⟨R, 0, none⟩ = some (.string (bs l)) := fun o o' => cell_later (Below.new _ o') (q0 o)
  go_enter Tryd.func31, Tryd.ntmps31
  go_wp2
  go_region_held3 (fun w' => w'.cell? ⟨R, 0, none⟩ = some (.string (bs l)))
    (first | (simp only [World.cell?_drew, q0, p0]; done) | (with_reducible exact (hb.cell (p := ⟨R, 0, none⟩) (Nat.lt_succ_of_lt hRl)).trans (q0 _)))
    (first
    | (go_at_call 46; ((with_reducible refine (widths_at _).mono ?_); rintro e w' ⟨rfl, rfl⟩))
    | (go_at_call 45; ((with_reducible refine (unpackU_few s l HL w _ S1).mono ?_); rintro e w1 ⟨a, cap, rfl, hb⟩)))
  have cR := (HC.out.1.more (Below.new w _)).below hb (Nat.lt_succ_of_lt hRl)
  have c1 := cR.c1
  have hB1 : Below w.heap.size w w1 := (Below.new w _).trans (hb.mono (by omega))
  have gf := (HS.out.below (Nat.le_refl _) (HC.out.2.trans (hB1.mono HC.out.2.size))).cf
  have r0 : w1.cell? ⟨w.heap.size, 0, none⟩ = some (.int .i64 0) := (hb.cell (p := ⟨w.heap.size, 0, none⟩) (by simp)).trans (by simp)
  have r1 : w1.cell? ⟨w.heap.size, 1, none⟩ = some (.int .u64 0) := (hb.cell (p := ⟨w.heap.size, 1, none⟩) (by simp)).trans (by simp)
  have r2 : w1.cell? ⟨w.heap.size, 2, none⟩ = some (.int .i64 0) := (hb.cell (p := ⟨w.heap.size, 2, none⟩) (by simp)).trans (by simp)
  have fr0 : w1.frozen? ⟨w.heap.size, 0, none⟩ = false := (hb.frozen (p := ⟨w.heap.size, 0, none⟩) (by simp)).trans (by simp)
  have fr1 : w1.frozen? ⟨w.heap.size, 1, none⟩ = false := (hb.frozen (p := ⟨w.heap.size, 1, none⟩) (by simp)).trans (by simp)
  have fr2 : w1.frozen? ⟨w.heap.size, 2, none⟩ = false := (hb.frozen (p := ⟨w.heap.size, 2, none⟩) (by simp)).trans (by simp)
  have z1 : ∀ u x y, (((w1.setCell ⟨w.heap.size, 0, none⟩ u).setCell ⟨w.heap.size, 1, none⟩ x).setCell ⟨w.heap.size, 2, none⟩ y).cell? ⟨R, 1, none⟩ = some (.int .i64 k) := fun u x y => set3O c1 (by omega)
  have hgl := World.block_lt_of_cell? _ _ HS.out.cf
  have hgl2 := HC.out.2.size
  have z2 : ∀ u x y, (((w1.setCell ⟨w.heap.size, 0, none⟩ u).setCell ⟨w.heap.size, 1, none⟩ x).setCell ⟨w.heap.size, 2, none⟩ y).cell? ⟨1, 0, none⟩ = some (.iface 161 (.pointer (some t.f))) := fun u x y => set3O gf (by simp at hgl; omega)
  obtain ⟨y0, y1, y2⟩ := set3S (u := .int .i64 0) (x := .int .u64 0) (y := .int .i64 0) r0 r1 r2
  have yB := set3B hB1 (Nat.le_refl _) (.int .i64 0) (.int .u64 0) (.int .i64 0)
  clear hb c0 q0 p0 cR hgl hgl2
  go_wp2
  go_region_held3 (fun w' => w'.cell? ⟨R, 1, none⟩ = some (.int .i64 k) ∧ w'.cell? ⟨1, 0, none⟩ = some (.iface 161 (.pointer (some t.f))))
    (first | (simp only [World.cell?_drew, c1, gf, z1, z2, and_self]; done)) (fail)
  all_goals go_wp2
  all_goals
    generalize hW : (((w1.setCell ⟨w.heap.size, 0, none⟩ (.int .i64 0)).setCell ⟨w.heap.size, 1, none⟩ (.int .u64 0)).setCell ⟨w.heap.size, 2, none⟩ (.int .i64 0)) = WF at y0 y1 y2 yB ⊢
    refine bodyPost_ret (v := .tuple #[.agg #[.int .i64 0, .int .u64 0, .int .i64 0], faultL k t.f]) (by unfold faultL; simp [results, Tryd.results31, go_sem, y0, y1, y2]) rfl ?_
    refine ⟨faultL k t.f, ?_, ?_, only_drew (only_of R yB), ?_⟩
    · rw [getR_few HL.out]; exact .few k
    · rw [getR_few HL.out]; rfl
    · rw [getR_few HL.out]; intro h; exact absurd h (by decide)

theorem wrapI (l : Nat) (h : l < 256) : IntKind.i64.wrap (l : Int) = (l : Int) := by rw [IntKind.wrap_i64]; omega

set_option maxRecDepth 100000 in
set_option maxHeartbeats 1000000 in
theorem next_bad (s : Sn) (t : SnL) (w0 : World) (hs : SentL s t w0) (R : Nat) (l : List UInt8) (k : Int) (hl : 10 ≤ l.length) (hr : (labOf l).right = false) (w : World) (hw : Below w0.heap.size w0 w) (hC : Cd w R l k) :
    Calls Tryd.prog 31 #[.pointer (some ⟨R, 0, none⟩)] w (NextPost t R l w) := by
  obtain ⟨x0, e0⟩ : ∃ x, dec 0 (l.take 1) = x := ⟨_, rfl⟩
  obtain ⟨x1, e1⟩ : ∃ x, dec 0 ((l.drop 1).take 1) = x := ⟨_, rfl⟩
  obtain ⟨x2, e2⟩ : ∃ x, dec 0 ((l.drop 2).take 8) = x := ⟨_, rfl⟩
  have eL : labOf l = ⟨x0, x2, x1⟩ := by unfold labOf; rw [e0, e1, e2]
  have hx0 : x0 < 256 := by
    have h := dec_lt (l.take 1)
    rw [e0, List.length_take, Nat.min_eq_left (by omega)] at h
    simpa using h
  have hx1 : x1 < 256 := by
    have h := dec_lt ((l.drop 1).take 1)
    rw [e1, List.length_take, List.length_drop, Nat.min_eq_left (by omega)] at h
    simpa using h
  have u0 : IntKind.i64.wrap (x0 : Int) = (x0 : Int) := wrapI x0 hx0
  have u1 : IntKind.i64.wrap (x1 : Int) = (x1 : Int) := wrapI x1 hx1
  have hf := labOf_fits l
  rw [eL] at hf
  have hr2 := hr
  rw [eL] at hr2
  have c0 := hC.c0
  have hRl := hC.lt
  have HC := Lib.hid (And.intro hC hw)
  have HS := Lib.hid hs
  have HL := Lib.hid hl
  have HR := Lib.hid (And.intro hr2 (And.intro hf (And.intro eL hr)))
  have HE := Lib.hid (And.intro e0 (And.intro e1 e2))
  have S1 := Lib.hid (hs.fld.below (Nat.le_refl _) hw)
  clear hC hs hl hw hf hr hr2 e0 e1 e2 eL hx0 hx1
  have q0 : ∀ o, (w.alloc o).cell? ⟨R, 0, none⟩ = some (.string (bs l)) := fun o => cell_later (Below.new w o) c0
  have p0 : ∀ o o', ((w.alloc o).alloc o').cell? ⟨R, 0, none⟩ = some (.string (bs l)) := fun o o' => cell_later (Below.new _ o') (q0 o)
  go_enter Tryd.func31, Tryd.ntmps31
  go_wp2
  go_region_held3 (fun w' => w'.cell? ⟨R, 0, none⟩ = some (.string (bs l)))
    (first | (simp only [World.cell?_drew, q0, p0]; done) | (with_reducible exact (hb.cell (p := ⟨R, 0, none⟩) (Nat.lt_succ_of_lt hRl)).trans (q0 _)))
    (first
    | (go_at_call 46; ((with_reducible refine (widths_at _).mono ?_); rintro e w' ⟨rfl, rfl⟩))
    | (go_at_call 45; ((with_reducible refine (unpackU_ok s l HL w _ S1).mono ?_); rintro e w1 ⟨g, o, cap, rfl, d0, d1, d2, hb⟩)))
  rw [HE.out.1] at d0
  rw [HE.out.2.1] at d1
  rw [HE.out.2.2] at d2
  have cR := Lib.hid ((HC.out.1.more (Below.new w _)).below hb (Nat.lt_succ_of_lt hRl))
  have hB1 : Below w.heap.size w w1 := (Below.new w _).trans (hb.mono (by omega))
  have r0 : w1.cell? ⟨w.heap.size, 0, none⟩ = some (.int .i64 0) := (hb.cell (p := ⟨w.heap.size, 0, none⟩) (by simp)).trans (by simp)
  have r1 : w1.cell? ⟨w.heap.size, 1, none⟩ = some (.int .u64 0) := (hb.cell (p := ⟨w.heap.size, 1, none⟩) (by simp)).trans (by simp)
  have r2 : w1.cell? ⟨w.heap.size, 2, none⟩ = some (.int .i64 0) := (hb.cell (p := ⟨w.heap.size, 2, none⟩) (by simp)).trans (by simp)
  have fr0 : w1.frozen? ⟨w.heap.size, 0, none⟩ = false := (hb.frozen (p := ⟨w.heap.size, 0, none⟩) (by simp)).trans (by simp)
  have fr1 : w1.frozen? ⟨w.heap.size, 1, none⟩ = false := (hb.frozen (p := ⟨w.heap.size, 1, none⟩) (by simp)).trans (by simp)
  have fr2 : w1.frozen? ⟨w.heap.size, 2, none⟩ = false := (hb.frozen (p := ⟨w.heap.size, 2, none⟩) (by simp)).trans (by simp)
  have hlt : w.heap.size < w1.heap.size := World.block_lt_of_cell? w1 _ r0
  have RR := Lib.hid (And.intro (And.intro r0 (And.intro r1 r2)) (And.intro fr0 (And.intro fr1 fr2)))
  clear hb c0 q0 p0 r0 r1 r2 fr0 fr1 fr2
  have m0 : ∀ ob, (w1.alloc ob).cell? ⟨g, o, none⟩ = some (.int .u64 (x0 : Int)) := fun ob => cell_later (Below.new w1 ob) d0
  have m1 : ∀ ob, (w1.alloc ob).cell? ⟨g, o + 1, none⟩ = some (.int .u64 (x1 : Int)) := fun ob => cell_later (Below.new w1 ob) d1
  have m2 : ∀ ob, (w1.alloc ob).cell? ⟨g, o + 2, none⟩ = some (.int .u64 (x2 : Int)) := fun ob => cell_later (Below.new w1 ob) d2
  go_wp2
  go_region_held3 (fun w' => w'.cell? ⟨g, o, none⟩ = some (.int .u64 (x0 : Int)) ∧ w'.cell? ⟨g, o + 1, none⟩ = some (.int .u64 (x1 : Int)) ∧ w'.cell? ⟨g, o + 2, none⟩ = some (.int .u64 (x2 : Int)))
    (first | (simp only [World.cell?_drew, d0, d1, d2, m0, m1, m2, and_self]; done)) (fail)
  clear m0 m1 m2 d0 d1 d2
  go_wp2_with fail
  refine (Lb.right_any ⟨x0, x2, x1⟩ HR.out.2.1 _).mono ?_
  rintro e w2 ⟨he, hb⟩
  rw [HR.out.1] at he
  subst he
  have a0 : w2.cell? ⟨w1.heap.size, 0, none⟩ = some (.int .i64 (x0 : Int)) := (hb.cell (p := ⟨w1.heap.size, 0, none⟩) (by simp)).trans (by simp)
  have a1 : w2.cell? ⟨w1.heap.size, 1, none⟩ = some (.int .u64 (x2 : Int)) := (hb.cell (p := ⟨w1.heap.size, 1, none⟩) (by simp)).trans (by simp)
  have a2 : w2.cell? ⟨w1.heap.size, 2, none⟩ = some (.int .i64 (x1 : Int)) := (hb.cell (p := ⟨w1.heap.size, 2, none⟩) (by simp)).trans (by simp)
  have hB12 : Below w1.heap.size w1 w2 := (below_drew (Below.new w1 _)).trans (hb.mono (by simp))
  have hB2 : Below w.heap.size w w2 := below_more hB1 hB12
  have r0 := cell_later hB12 RR.out.1.1
  have r1 := cell_later hB12 RR.out.1.2.1
  have r2 := cell_later hB12 RR.out.1.2.2
  have fr0 := (hB12.frozen (p := ⟨w.heap.size, 0, none⟩) hlt).trans RR.out.2.1
  have fr1 := (hB12.frozen (p := ⟨w.heap.size, 1, none⟩) hlt).trans RR.out.2.2.1
  have fr2 := (hB12.frozen (p := ⟨w.heap.size, 2, none⟩) hlt).trans RR.out.2.2.2
  have cR2 := cR.out.more hB12
  have c1 := cR2.c1
  clear hb
  have gf := (HS.out.below (Nat.le_refl _) (HC.out.2.trans (hB2.mono HC.out.2.size))).cb
  have z1 : ∀ u x y, (((w2.setCell ⟨w.heap.size, 0, none⟩ u).setCell ⟨w.heap.size, 1, none⟩ x).setCell ⟨w.heap.size, 2, none⟩ y).cell? ⟨R, 1, none⟩ = some (.int .i64 k) := fun u x y => set3O c1 (by omega)
  have hgl := World.block_lt_of_cell? _ _ HS.out.cb
  have hgl2 := HC.out.2.size
  have z2 : ∀ u x y, (((w2.setCell ⟨w.heap.size, 0, none⟩ u).setCell ⟨w.heap.size, 1, none⟩ x).setCell ⟨w.heap.size, 2, none⟩ y).cell? ⟨2, 0, none⟩ = some (.iface 161 (.pointer (some t.b))) := fun u x y => set3O gf (by simp at hgl; omega)
  obtain ⟨y0, y1, y2⟩ := set3S (u := .int .i64 0) (x := .int .u64 0) (y := .int .i64 0) r0 r1 r2
  have yB := set3B hB2 (Nat.le_refl _) (.int .i64 0) (.int .u64 0) (.int .i64 0)
  clear cR2 hgl hgl2
  go_wp2
  go_region_held3 (fun w' => w'.cell? ⟨R, 1, none⟩ = some (.int .i64 k) ∧ w'.cell? ⟨2, 0, none⟩ = some (.iface 161 (.pointer (some t.b))))
    (first | (simp only [World.cell?_drew, c1, gf, z1, z2, and_self]; done)) (fail)
  all_goals go_wp2
  all_goals
    generalize hW : (((w2.setCell ⟨w.heap.size, 0, none⟩ (.int .i64 0)).setCell ⟨w.heap.size, 1, none⟩ (.int .u64 0)).setCell ⟨w.heap.size, 2, none⟩ (.int .i64 0)) = WF at y0 y1 y2 yB ⊢
    refine bodyPost_ret (v := .tuple #[.agg #[.int .i64 0, .int .u64 0, .int .i64 0], faultL k t.b]) (by unfold faultL; simp [results, Tryd.results31, go_sem, y0, y1, y2]) rfl ?_
    refine ⟨faultL k t.b, ?_, ?_, only_drew (only_of R yB), ?_⟩
    · rw [getR_bad HL.out HR.out.2.2.2]; exact .bytes k
    · rw [getR_bad HL.out HR.out.2.2.2]; rfl
    · rw [getR_bad HL.out HR.out.2.2.2]; intro h; exact absurd h (by decide)

set_option maxRecDepth 100000 in
set_option maxHeartbeats 1000000 in
theorem next_ok (s : Sn) (t : SnL) (w0 : World) (hs : SentL s t w0) (R : Nat) (l : List UInt8) (k : Int) (hl : 10 ≤ l.length) (hr : (labOf l).right = true) (w : World) (hw : Below w0.heap.size w0 w) (hC : Cd w R l k) :
    Calls Tryd.prog 31 #[.pointer (some ⟨R, 0, none⟩)] w (NextPost t R l w) := by
  obtain ⟨x0, e0⟩ : ∃ x, dec 0 (l.take 1) = x := ⟨_, rfl⟩
  obtain ⟨x1, e1⟩ : ∃ x, dec 0 ((l.drop 1).take 1) = x := ⟨_, rfl⟩
  obtain ⟨x2, e2⟩ : ∃ x, dec 0 ((l.drop 2).take 8) = x := ⟨_, rfl⟩
  have eL : labOf l = ⟨x0, x2, x1⟩ := by unfold labOf; rw [e0, e1, e2]
  have hx0 : x0 < 256 := by
    have h := dec_lt (l.take 1)
    rw [e0, List.length_take, Nat.min_eq_left (by omega)] at h
    simpa using h
  have hx1 : x1 < 256 := by
    have h := dec_lt ((l.drop 1).take 1)
    rw [e1, List.length_take, List.length_drop, Nat.min_eq_left (by omega)] at h
    simpa using h
  have u0 : IntKind.i64.wrap (x0 : Int) = (x0 : Int) := wrapI x0 hx0
  have u1 : IntKind.i64.wrap (x1 : Int) = (x1 : Int) := wrapI x1 hx1
  have hf := labOf_fits l
  rw [eL] at hf
  have hr2 := hr
  rw [eL] at hr2
  have c0 := hC.c0
  have hRl := hC.lt
  have HC := Lib.hid (And.intro hC hw)
  have HS := Lib.hid hs
  have HL := Lib.hid hl
  have HR := Lib.hid (And.intro hr2 (And.intro hf (And.intro eL hr)))
  have HE := Lib.hid (And.intro e0 (And.intro e1 e2))
  have S1 := Lib.hid (hs.fld.below (Nat.le_refl _) hw)
  clear hC hs hl hw hf hr hr2 e0 e1 e2 eL hx0 hx1
  have q0 : ∀ o, (w.alloc o).cell? ⟨R, 0, none⟩ = some (.string (bs l)) := fun o => cell_later (Below.new w o) c0
  have p0 : ∀ o o', ((w.alloc o).alloc o').cell? ⟨R, 0, none⟩ = some (.string (bs l)) := fun o o' => cell_later (Below.new _ o') (q0 o)
  go_enter Tryd.func31, Tryd.ntmps31
  go_wp2
  go_region_held3 (fun w' => w'.cell? ⟨R, 0, none⟩ = some (.string (bs l)))
    (first | (simp only [World.cell?_drew, q0, p0]; done) | (with_reducible exact (hb.cell (p := ⟨R, 0, none⟩) (Nat.lt_succ_of_lt hRl)).trans (q0 _)))
    (first
    | (go_at_call 46; ((with_reducible refine (widths_at _).mono ?_); rintro e w' ⟨rfl, rfl⟩))
    | (go_at_call 45; ((with_reducible refine (unpackU_ok s l HL w _ S1).mono ?_); rintro e w1 ⟨g, o, cap, rfl, d0, d1, d2, hb⟩)))
  rw [HE.out.1] at d0
  rw [HE.out.2.1] at d1
  rw [HE.out.2.2] at d2
  have cR := Lib.hid ((HC.out.1.more (Below.new w _)).below hb (Nat.lt_succ_of_lt hRl))
  have hB1 : Below w.heap.size w w1 := (Below.new w _).trans (hb.mono (by omega))
  have r0 : w1.cell? ⟨w.heap.size, 0, none⟩ = some (.int .i64 0) := (hb.cell (p := ⟨w.heap.size, 0, none⟩) (by simp)).trans (by simp)
  have r1 : w1.cell? ⟨w.heap.size, 1, none⟩ = some (.int .u64 0) := (hb.cell (p := ⟨w.heap.size, 1, none⟩) (by simp)).trans (by simp)
  have r2 : w1.cell? ⟨w.heap.size, 2, none⟩ = some (.int .i64 0) := (hb.cell (p := ⟨w.heap.size, 2, none⟩) (by simp)).trans (by simp)
  have fr0 : w1.frozen? ⟨w.heap.size, 0, none⟩ = false := (hb.frozen (p := ⟨w.heap.size, 0, none⟩) (by simp)).trans (by simp)
  have fr1 : w1.frozen? ⟨w.heap.size, 1, none⟩ = false := (hb.frozen (p := ⟨w.heap.size, 1, none⟩) (by simp)).trans (by simp)
  have fr2 : w1.frozen? ⟨w.heap.size, 2, none⟩ = false := (hb.frozen (p := ⟨w.heap.size, 2, none⟩) (by simp)).trans (by simp)
  have hlt : w.heap.size < w1.heap.size := World.block_lt_of_cell? w1 _ r0
  have RR := Lib.hid (And.intro (And.intro r0 (And.intro r1 r2)) (And.intro fr0 (And.intro fr1 fr2)))
  clear hb c0 q0 p0 r0 r1 r2 fr0 fr1 fr2
  have m0 : ∀ ob, (w1.alloc ob).cell? ⟨g, o, none⟩ = some (.int .u64 (x0 : Int)) := fun ob => cell_later (Below.new w1 ob) d0
  have m1 : ∀ ob, (w1.alloc ob).cell? ⟨g, o + 1, none⟩ = some (.int .u64 (x1 : Int)) := fun ob => cell_later (Below.new w1 ob) d1
  have m2 : ∀ ob, (w1.alloc ob).cell? ⟨g, o + 2, none⟩ = some (.int .u64 (x2 : Int)) := fun ob => cell_later (Below.new w1 ob) d2
  go_wp2
  go_region_held3 (fun w' => w'.cell? ⟨g, o, none⟩ = some (.int .u64 (x0 : Int)) ∧ w'.cell? ⟨g, o + 1, none⟩ = some (.int .u64 (x1 : Int)) ∧ w'.cell? ⟨g, o + 2, none⟩ = some (.int .u64 (x2 : Int)))
    (first | (simp only [World.cell?_drew, d0, d1, d2, m0, m1, m2, and_self]; done)) (fail)
  clear m0 m1 m2 d0 d1 d2
  go_wp2_with fail
  refine (Lb.right_any ⟨x0, x2, x1⟩ HR.out.2.1 _).mono ?_
  rintro e w2 ⟨he, hb⟩
  rw [HR.out.1] at he
  subst he
  have a0 : w2.cell? ⟨w1.heap.size, 0, none⟩ = some (.int .i64 (x0 : Int)) := (hb.cell (p := ⟨w1.heap.size, 0, none⟩) (by simp)).trans (by simp)
  have a1 : w2.cell? ⟨w1.heap.size, 1, none⟩ = some (.int .u64 (x2 : Int)) := (hb.cell (p := ⟨w1.heap.size, 1, none⟩) (by simp)).trans (by simp)
  have a2 : w2.cell? ⟨w1.heap.size, 2, none⟩ = some (.int .i64 (x1 : Int)) := (hb.cell (p := ⟨w1.heap.size, 2, none⟩) (by simp)).trans (by simp)
  have hB12 : Below w1.heap.size w1 w2 := (below_drew (Below.new w1 _)).trans (hb.mono (by simp))
  have hB2 : Below w.heap.size w w2 := below_more hB1 hB12
  have r0 := cell_later hB12 RR.out.1.1
  have r1 := cell_later hB12 RR.out.1.2.1
  have r2 := cell_later hB12 RR.out.1.2.2
  have fr0 := (hB12.frozen (p := ⟨w.heap.size, 0, none⟩) hlt).trans RR.out.2.1
  have fr1 := (hB12.frozen (p := ⟨w.heap.size, 1, none⟩) hlt).trans RR.out.2.2.1
  have fr2 := (hB12.frozen (p := ⟨w.heap.size, 2, none⟩) hlt).trans RR.out.2.2.2
  have cR2 := cR.out.more hB12
  have c1 := cR2.c1
  clear hb
  have c0 := cR2.c0
  have f0 := cR2.f0
  have f1 := cR2.f1
  obtain ⟨j, hj⟩ : ∃ j, IntKind.i64.wrap (k + 1) = j := ⟨_, rfl⟩
  obtain ⟨W3, hW3⟩ : ∃ W3, (w2.setCell ⟨R, 0, none⟩ (.string (bs (l.drop 10)))).setCell ⟨R, 1, none⟩ (.int .i64 j) = W3 := ⟨_, rfl⟩
  have hne : R ≠ w1.heap.size := by omega
  have hne2 : R ≠ w.heap.size := by omega
  have cW : Cd W3 R (l.drop 10) j := hW3 ▸ cR2.set
  have st : ∀ {b o : Nat} {v : Value}, R ≠ b → w2.cell? ⟨b, o, none⟩ = some v → W3.cell? ⟨b, o, none⟩ = some v := fun h hv => hW3 ▸ Lb.setO (Lb.setO hv (Lb.ne_blk h)) (Lb.ne_blk h)
  have sf : ∀ {b o : Nat}, w2.frozen? ⟨b, o, none⟩ = false → W3.frozen? ⟨b, o, none⟩ = false := fun hv => hW3 ▸ Lb.setF (Lb.setF hv)
  have b0 := st hne a0
  have b1 := st hne a1
  have b2 := st hne a2
  have s0 := st hne2 r0
  have s1 := st hne2 r1
  have s2 := st hne2 r2
  have g0 := sf fr0
  have g1 := sf fr1
  have g2 := sf fr2
  have hgr : w2.grownBy W3 (some R) := by
    rw [← hW3]
    have ga := grownBy_setCell' w2 R (.string (bs (l.drop 10)))
    have gb : (w2.setCell ⟨R, 0, none⟩ (.string (bs (l.drop 10)))).grownBy ((w2.setCell ⟨R, 0, none⟩ (.string (bs (l.drop 10)))).setCell ⟨R, 1, none⟩ (.int .i64 j)) (some R) :=
      grown_set _ _ _ _
    exact only_trans ga gb
  have hB3 := only_trans (only_of R hB2) hgr
  obtain ⟨y0, y1, y2⟩ := set3S (u := .int .i64 (x0 : Int)) (x := .int .u64 (x2 : Int)) (y := .int .i64 (x1 : Int)) s0 s1 s2
  have yc : Cd (((W3.setCell ⟨w.heap.size, 0, none⟩ (.int .i64 (x0 : Int))).setCell ⟨w.heap.size, 1, none⟩ (.int .u64 (x2 : Int))).setCell ⟨w.heap.size, 2, none⟩ (.int .i64 (x1 : Int))) R (l.drop 10) j :=
    ⟨set3O cW.c0 (Ne.symm hne2), set3O cW.c1 (Ne.symm hne2), Lb.setF (Lb.setF (Lb.setF cW.f0)), Lb.setF (Lb.setF (Lb.setF cW.f1))⟩
  have hz3 := hgr.size
  have yB := only_below hB3 (set3B (Below.refl w.heap.size W3) (Nat.le_refl _) (.int .i64 (x0 : Int)) (.int .u64 (x2 : Int)) (.int .i64 (x1 : Int))) (Nat.le_refl _)
  have YC := Lib.hid (And.intro yc yB)
  clear st sf cW cR2 a0 a1 a2 r0 r1 r2 fr0 fr1 fr2 hgr yc yB
  go_wp2
  generalize (((W3.setCell ⟨w.heap.size, 0, none⟩ (.int .i64 (x0 : Int))).setCell ⟨w.heap.size, 1, none⟩ (.int .u64 (x2 : Int))).setCell ⟨w.heap.size, 2, none⟩ (.int .i64 (x1 : Int))) = WF at y0 y1 y2 YC ⊢
  refine bodyPost_ret (v := .tuple #[.agg #[.int .i64 (x0 : Int), .int .u64 (x2 : Int), .int .i64 (x1 : Int)], .nilIface]) (by simp [results, Tryd.results31, go_sem, y0, y1, y2]) rfl ?_
  refine ⟨.nilIface, ?_, ?_, YC.out.2, fun _ => ⟨j, YC.out.1⟩⟩
  · rw [getR_ok HL.out HR.out.2.2.2]; exact .ok
  · rw [getR_ok HL.out HR.out.2.2.2, HR.out.2.2.1]

theorem next_any (s : Sn) (t : SnL) (w0 : World) (hs : SentL s t w0) (R : Nat) (l : List UInt8) (k : Int) (w : World) (hw : Below w0.heap.size w0 w) (hC : Cd w R l k) :
    Calls Tryd.prog 31 #[.pointer (some ⟨R, 0, none⟩)] w (NextPost t R l w) := by
  by_cases h : l.length < 10
  · exact next_few s t w0 hs R l k h w hw hC
  · cases hr : (labOf l).right
    · exact next_bad s t w0 hs R l k (by omega) hr w hw hC
    · exact next_ok s t w0 hs R l k (by omega) hr w hw hC

end Go.Proofs.YtfpjbefhfkembaaDoor

/- A range over a function that writes cells of its own between two rounds, makes memory, hands structs, and tells of an error: a law beside the library's. -/
namespace Go.Proofs.YtfpjbefhfkembaaDoor
open Go.RowKit Go.Shelf Go.Proofs.Fld

/-- The iterator's contract: it takes its own steps St between the rounds, which whoever ranges abides; what whoever ranges keeps is G; H is sure ahead of each round. -/
def SeqStepsE {α : Type} (G : List α → World → Prop) (H : List α → Prop) (n : Nat) (P : Program) (g : Nat) (lb : Array Value) (encs : α → Array Value) (Ks : Nat → Prop) (St : World → World → Prop) (S Sp : List α → World → Prop) (w : World) : Prop :=
  ∀ (l : Nat) (J Jx : List α → World → Prop) (W : World), Below w.heap.size w W → (∀ s A B, J s A → St A B → J s B) → (∀ s A, J s A → G s A) →
    (∀ pre x W1, J pre W1 → H pre → YieldAt Fence.wide (n - 1) P l (encs x) W1 fun e W' => (e = .returned (.bool true) ∧ J (pre ++ [x]) W' ∧ KeepsKs Ks W1 W') ∨ (e = .returned (.bool false) ∧ Jx (pre ++ [x]) W' ∧ KeepsKs Ks W1 W')) →
    J [] W → CallsIn Fence.wide n P g (#[.func (.yield l) #[] #[]] ++ lb) W fun e W' => (∃ v, e = .returned v) ∧ ((∃ xs, S xs W' ∧ J xs W') ∨ (∃ pre, Sp pre W' ∧ Jx pre W'))

section
variable {α : Type} {P : Program} {n : Nat} {g : Operand} {ps : Array Tmp} {assign body : Code} {Q : Exit → Act → World → Prop} {a : Act} {w : World}

set_option maxHeartbeats 1000000 in
theorem wpIn_rangeStepsE {G : List α → World → Prop} {H : List α → Prop} (h1 : 1 ≤ n) {gf : Nat} {lb : Array Value} (hg : a.eval g = .func (.func gf) #[] lb) (eg : ∀ args w, (callFunc gf args).run P w = .ok (.enter gf args) w)
    {encs : α → Array Value} {Ks : Nat → Prop} {St : World → World → Prop} {S Sp : List α → World → Prop} {w0 : World} (hseq : SeqStepsE G H (n - 1) P gf lb encs Ks St S Sp w0) (hKs : ∀ k, Ks k → k < w.heap.size) (hSo : OwnFrom w.heap.size S) (hSpo : OwnFrom w.heap.size Sp) (hb0 : Below w0.heap.size w0 w) (hps : ∀ x, (encs x).size = ps.size)
    (hSt : ∀ (A B : World) (k : Nat) (o : Obj), St A B → A.heap[k]? = some o → o.isCells = false → B.heap[k]? = some o)
    (I : List α → World → Prop) (Ix : Code → List α → World → Prop) (hI : OwnFrom w.heap.size I) (hIx : ∀ c, OwnFrom w.heap.size (Ix c)) (hIS : ∀ s A B, I s A → St A B → I s B) (hIG : ∀ s A, I s A → G s A) (h0 : I [] w) (Ax : α → Act → World → Prop) (hAx : ∀ x a', OwnFrom w.heap.size (fun (_ : Unit) W => Ax x a' W))
    (hassign : ∀ (l : Nat) (pre : List α) (x : α) (W : World) (K : Act → World → Prop), I pre W → (∀ a' W', KeepsFrom w.heap.size W W' → KeepsKs Ks W W' → I pre W' → Ax x a' W' → K a' W') →
      assign.wpIn (Fence.wide.inRound l) (n - 1 - 1) P (Exit.then K (fun _ _ _ => False)) { tmps := (ps.zip (encs x)).foldl (fun t (p, v) => t.setIfInBounds p v) a.tmps, defers := [] } W)
    (hbody : ∀ (l : Nat) (pre : List α) (x : α) (a' : Act) (W : World), I pre W → H pre → Ax x a' W → body.wpIn (Fence.wide.inRound l) (n - 1 - 1) P (postS w.heap.size Ks I Ix (pre ++ [x]) W) a' W)
    (hdone : ∀ (D : Nat) (xs : List α) (W : World), w.heap.size ≤ D → S xs W → I xs W → W.heap[D]? = some (.deferred (some [])) → Q .normal { a with defers := mk D :: a.defers } W)
    (hstop : ∀ (D : Nat) (c : Code) (pre : List α) (W : World), w.heap.size ≤ D → Sp pre W → Ix c pre W → W.heap[D]? = some (.deferred (some [])) → c.wpIn Fence.wide n P Q { a with defers := mk D :: a.defers } W) :
    (Code.rangeFunc g ps assign body).wpIn Fence.wide n P Q a w := by
  refine wpIn_rangeFunc ?_
  intro fn hfn
  have hro : Fence.wide.round = none := rfl
  rw [hro]
  let L (st : LoopState) (pe : Option Code) : Obj := loopRec fn a.tmps ps assign body w.heap.size st pe
  obtain ⟨V, hV⟩ : ∃ V, (w.alloc (.deferred (some []))).alloc (L .ready none) = V := ⟨_, rfl⟩
  have vL : V.heap[w.heap.size + 1]? = some (L .ready none) := by
    have := World.alloc_heap_new (w.alloc (.deferred (some []))) (L .ready none)
    rw [World.size_alloc] at this
    rw [← hV]
    exact this
  have vD : V.heap[w.heap.size]? = some (.deferred (some [])) := by
    rw [← hV]
    exact (Below.heap_alloc _ _ _ (by simp)).trans (World.alloc_heap_new w _)
  have vB : Below w.heap.size w V := by
    rw [← hV]
    exact (Below.new w _).alloc (by simp) _
  refine ⟨w.heap.size + 1, [mk w.heap.size], V, { target := .fn (.func gf) lb, args := #[.func (.yield (w.heap.size + 1)) #[] #[]] }, V, gf, #[.func (.yield (w.heap.size + 1)) #[] #[]] ++ lb, V, ?_, ?_, ?_, ?_, fun _ => h1, ?_⟩
  · rw [← hV]
    exact run_enterLoop_outer _ _ _ _ _
  · simp only [resolve, hg]
    simp [go_sem]
  · intro _ _
    trivial
  · simp [invoke, go_sem, eg]
  refine (hseq (w.heap.size + 1) (fun pre W => I pre W ∧ W.heap[w.heap.size + 1]? = some (L .ready none) ∧ W.heap[w.heap.size]? = some (.deferred (some [])))
    (fun pre W => ∃ c, Ix c pre W ∧ W.heap[w.heap.size + 1]? = some (L .done (some c)) ∧ W.heap[w.heap.size]? = some (.deferred (some []))) V (hb0.trans (vB.mono hb0.size))
    (fun s A B hs hst => ⟨hIS s A B hs.1 hst, hSt A B _ _ hst hs.2.1 rfl, hSt A B _ _ hst hs.2.2 rfl⟩) (fun s A hj => hIG s A hj.1) ?_ ⟨by rw [← hV]; exact hI.alloc _ (hI.alloc _ h0), vL, vD⟩).mono ?_
  · rintro pre x W0 ⟨hi0, hl0, hd0⟩ hH
    refine ⟨fn, _, assign, body, run_yield hl0 (hps x), roundIn_of_wpIn hfn (hassign _ pre x W0 _ hi0 (fun a' W hkf hkk hi hax => ?_))⟩
    have hl := hkf.same _ _ (by omega) hl0 rfl
    have hd := hkf.same _ _ (Nat.le_refl _) hd0 rfl
    refine ⟨_, run_beginRound hl rfl, ?_⟩
    have hlt := (Array.getElem?_eq_some_iff.1 hl).1
    have hl2 : (W.putObj (w.heap.size + 1) (L .busy none)).heap[w.heap.size + 1]? = some (L .busy none) := World.putObj_heap_same hlt
    have hd2 : (W.putObj (w.heap.size + 1) (L .busy none)).heap[w.heap.size]? = some (.deferred (some [])) := (World.putObj_heap_other (by omega)).trans hd
    have hk2 : KeepsKs Ks W0 (W.putObj (w.heap.size + 1) (L .busy none)) := hkk.trans (KeepsKs.putObj (fun k hk => by have := hKs k hk; omega))
    refine wpIn_mono (hbody _ pre x a' _ (hI.putObj _ hi (by omega) hl rfl) hH (OwnFrom.putObj (s := ()) (hAx x a') _ hax (by omega) hl rfl)) ?_
    rintro e a3 W3 hp
    cases e with
    | normal =>
      obtain ⟨hr, hl3, hl4, hk4⟩ := endRound_at (P := P) (Nat.le_refl _) (Nat.lt_succ_self _) hl2 hd2 hp.1 none
      exact ⟨_, _, hr, .inl ⟨rfl, ⟨hI.putObj _ hp.2.2 (by omega) hl3 rfl, hl4, hk4⟩, (hk2.trans hp.2.1).trans (KeepsKs.putObj (fun k hk => by have := hKs k hk; omega))⟩⟩
    | ret =>
      obtain ⟨hr, hl3, hl4, hk4⟩ := endRound_at (P := P) (Nat.le_refl _) (Nat.lt_succ_self _) hl2 hd2 hp.1 (some .ret)
      exact ⟨_, _, hr, .inr ⟨rfl, ⟨.ret, (hIx _).putObj _ hp.2.2 (by omega) hl3 rfl, hl4, hk4⟩, (hk2.trans hp.2.1).trans (KeepsKs.putObj (fun k hk => by have := hKs k hk; omega))⟩⟩
    | exit id =>
      obtain ⟨hr, hl3, hl4, hk4⟩ := endRound_at (P := P) (Nat.le_refl _) (Nat.lt_succ_self _) hl2 hd2 hp.1 (some (.exit id))
      exact ⟨_, _, hr, .inr ⟨rfl, ⟨.exit id, (hIx _).putObj _ hp.2.2 (by omega) hl3 rfl, hl4, hk4⟩, (hk2.trans hp.2.1).trans (KeepsKs.putObj (fun k hk => by have := hKs k hk; omega))⟩⟩
    | goto t =>
      obtain ⟨hr, hl3, hl4, hk4⟩ := endRound_at (P := P) (Nat.le_refl _) (Nat.lt_succ_self _) hl2 hd2 hp.1 (some (.goto t))
      exact ⟨_, _, hr, .inr ⟨rfl, ⟨.goto t, (hIx _).putObj _ hp.2.2 (by omega) hl3 rfl, hl4, hk4⟩, (hk2.trans hp.2.1).trans (KeepsKs.putObj (fun k hk => by have := hKs k hk; omega))⟩⟩
    | panic ch => exact hp.elim
    | outgrown => exact hp.elim
  · rintro e W2 ⟨⟨v, rfl⟩, (⟨xs, hS, hi, hl, hd⟩ | ⟨pre, hSp, c, hi, hl, hd⟩)⟩
    · exact ⟨none, _, run_endLoop hl (by simp), hdone _ xs _ (Nat.le_refl _) (hSo.putObj _ hS (by omega) hl rfl) (hI.putObj _ hi (by omega) hl rfl) ((World.putObj_heap_other (by omega)).trans hd)⟩
    · exact ⟨some c, _, run_endLoop hl (by simp), hstop _ c pre _ (Nat.le_refl _) (hSpo.putObj _ hSp (by omega) hl rfl) ((hIx c).putObj _ hi (by omega) hl rfl) ((World.putObj_heap_other (by omega)).trans hd)⟩
end

end Go.Proofs.YtfpjbefhfkembaaDoor

/- The iterator over what next tells. -/
namespace Go.Proofs.YtfpjbefhfkembaaDoor
open Go.RowKit Go.Shelf Go.Proofs.Fld Go.Proofs.Cats Go.Proofs.Lcd

attribute [local go_sem] Oper.semAt_some

/-- What a round is handed: a label, beside what is wrong. -/
structure Item where
  a : Lab
  v : Value
  fit : a.fits
  is : v = .nilIface ∨ ∃ u, v = .iface 84 u
def itemL (x : Item) : Lab := x.a
/-- What whoever ranges keeps: it goes on behind no error, and what lay in w0 lies as it lay. -/
def ItemG (w0 : World) (s : List Item) (A : World) : Prop := (∀ x ∈ s, x.v = .nilIface) ∧ Below w0.heap.size w0 A
/-- The iterator's own step. -/
def StC (R : Nat) (A B : World) : Prop := A.grownBy B (some R) ∧ ∃ l k, Cd A R l k

theorem stC_others {R : Nat} (A B : World) (k : Nat) (o : Obj) (h : StC R A B) (ho : A.heap[k]? = some o) (hc : o.isCells = false) : B.heap[k]? = some o := by
  obtain ⟨hg, l, j, hl⟩ := h
  refine (hg.block k (Array.getElem?_eq_some_iff.1 ho).1 (fun e => ?_)).trans ho
  injection e with e
  subst e
  have h0 := hl.c0
  unfold World.cell? at h0
  cases o with
  | cells c t fz => cases hc
  | _ => simp [ho] at h0

theorem Cd.block {A B : World} {R : Nat} {l : List UInt8} {k : Int} (h : Cd A R l k) (hb : B.heap[R]? = A.heap[R]?) : Cd B R l k :=
  ⟨(World.cell?_of_block (a := ⟨R, 0, none⟩) hb).trans h.c0, (World.cell?_of_block (a := ⟨R, 1, none⟩) hb).trans h.c1, (World.frozen?_of_block (a := ⟨R, 0, none⟩) hb).trans h.f0, (World.frozen?_of_block (a := ⟨R, 1, none⟩) hb).trans h.f1⟩

def moreV (R : Nat) : Value := .func (.func 50) #[.pointer (some ⟨R, 0, none⟩)] #[]
def nextV (R : Nat) : Value := .func (.func 31) #[.pointer (some ⟨R, 0, none⟩)] #[]

set_option maxHeartbeats 1000000 in
theorem each_in (n : Nat) (R : Nat) (w : World) :
    CallsIn Fence.wide n Tryd.prog 49 #[.func (.func 50) #[.pointer (some ⟨R, 0, none⟩)] #[], .func (.func 31) #[.pointer (some ⟨R, 0, none⟩)] #[]] w fun e w' => e = .returned (.func (.func 68) #[] #[.pointer (some ⟨w.heap.size, 0, none⟩), .pointer (some ⟨w.heap.size + 1, 0, none⟩)]) ∧ w' = (w.alloc (.cells #[moreV R] 25)).alloc (.cells #[nextV R] 56) := by
  refine callsIn_of_wp Tryd.func49 rfl trivial ?_ rfl
  simp only [Tryd.ntmps49, List.size_toArray, List.length_cons, List.length_nil, Nat.reduceAdd, Nat.reduceSub, Array.replicate_succ, Array.replicate_zero, List.push_toArray, List.append_toArray, List.nil_append, List.cons_append]
  gi_wp2
  go_ret
  exact ⟨rfl, rfl⟩

theorem errL_nil {t : SnL} {v : Value} {c : Int} (h : ErrL t v c) (hv : v = .nilIface) : c = 0 := by
  cases h with
  | ok => rfl
  | none k => unfold faultL at hv; cases hv
  | few k => unfold faultL at hv; cases hv
  | bytes k => unfold faultL at hv; cases hv
  | order k _ => unfold faultL at hv; cases hv

set_option maxRecDepth 100000 in
set_option maxHeartbeats 2000000 in
theorem each1_in (n : Nat) (hn : 1 ≤ n) (s : Sn) (t : SnL) (w0 : World) (hs : SentL s t w0) (l B1 B2 R : Nat) (hB1 : B1 ≠ R) (hB2 : B2 ≠ R) (all : List UInt8) (J Jx : List Item → World → Prop) (hJ : ∀ s A B, J s A → StC R A B → J s B) (hG : ∀ s A, J s A → ItemG w0 s A)
    (hY : ∀ pre x W, J pre W → pre.length ≤ all.length → YieldAt Fence.wide (n - 1) Tryd.prog l #[.agg #[.int .i64 x.a.l, .int .u64 x.a.c, .int .i64 x.a.i], x.v] W fun e W' =>
      (e = .returned (.bool true) ∧ J (pre ++ [x]) W' ∧ KeepsKs (fun k => k = B1 ∨ k = B2 ∨ k = R) W W') ∨ (e = .returned (.bool false) ∧ Jx (pre ++ [x]) W' ∧ KeepsKs (fun k => k = B1 ∨ k = B2 ∨ k = R) W W'))
    (W : World) (hb1 : Boxed W B1 25 (moreV R)) (hb2 : Boxed W B2 56 (nextV R)) (k0 : Int) (hR : Cd W R all k0) (h0 : J [] W) :
    CallsIn Fence.wide n Tryd.prog 68 #[.func (.yield l) #[] #[], .pointer (some ⟨B1, 0, none⟩), .pointer (some ⟨B2, 0, none⟩)] W fun e W' => (∃ v, e = .returned v) ∧
      ((∃ ys, (listC all = 0 ∧ listL all = ys.map itemL) ∧ J ys W') ∨ (∃ pre, (∃ ys x, pre = ys ++ [x] ∧ (x.v ≠ .nilIface → listC all ≠ 0 ∧ ErrL t x.v (listC all))) ∧ Jx pre W')) := by
  refine callsIn_of_wp Tryd.func68 rfl trivial ?_ rfl
  simp only [Tryd.ntmps68, List.size_toArray, List.length_cons, List.length_nil, Nat.reduceAdd, Nat.reduceSub, Array.replicate_succ, Array.replicate_zero, List.push_toArray, List.append_toArray, List.nil_append, List.cons_append]
  gi_wp2
  gi_loopw [] (fun wr => ∃ (pre : List Item) (rest : List UInt8) (k : Int), (listC all = listC rest ∧ listL all = pre.map itemL ++ listL rest) ∧ J pre wr ∧ Boxed wr B1 25 (moreV R) ∧ Boxed wr B2 56 (nextV R) ∧ Cd wr R rest k)
    (fun wr => match wr.cell? ⟨R, 0, none⟩ with | some (.string s) => s.size | _ => 0)
  case atStart => exact ⟨[], all, k0, ⟨rfl, rfl⟩, h0, hb1, hb2, hR⟩
  case round =>
    obtain ⟨pre, rest, k, hx, hJs, b1, b2, hr⟩ := hrel
    have HX := Lib.hid hx
    have HS := Lib.hid hs
    have HY := Lib.hid hY
    have HJ := Lib.hid (And.intro hJs (And.intro hJ hG))
    clear hx hJs hJ hG hs hY
    have c1 := b1.cell
    have c2 := b2.cell
    unfold moreV at c1
    unfold nextV at c2
    cases rest with
    | nil =>
      gi_wp2_with (refine ⟨trivial, ?_⟩; gi_at_call 50; refine (callsIn_wide.2 (more_any R _ k wr hr)).mono ?_; rintro e w' ⟨rfl, rfl⟩)
      go_end0
      exact ⟨⟨_, rfl⟩, .inl ⟨pre, ⟨by rw [HX.out.1, listC_nil], by rw [HX.out.2, listL_nil, List.append_nil]⟩, HJ.out.1⟩⟩
    | cons b r =>
      have HB := Lib.hid (HJ.out.2.2 _ _ HJ.out.1).2
      obtain ⟨rest, hrest⟩ : ∃ rest, b :: r = rest := ⟨_, rfl⟩
      have hne : rest ≠ [] := by rw [← hrest]; simp
      have hem : (!rest.isEmpty) = true := by rw [← hrest]; rfl
      rw [hrest] at hr HX
      clear hrest
      have HN := Lib.hid hne
      clear hne
      gi_wp2_with (refine ⟨trivial, ?_⟩; gi_at_call 50; refine (callsIn_wide.2 (more_any R _ k wr hr)).mono ?_)
      rintro e w' ⟨he, rfl⟩
      rw [hem] at he
      subst he
      clear hem
      gi_wp2_with (refine ⟨trivial, ?_⟩; gi_at_call 31; refine (callsIn_wide.2 (next_any s t w0 HS.out R _ k wr HB.out hr)).mono ?_)
      rintro e w1 ⟨ev, hev, rfl, hg, hok⟩
      obtain ⟨a, ha⟩ : ∃ a, (getR rest).1 = a := ⟨_, rfl⟩
      rw [ha]
      have hfa : a.fits := ha ▸ getR_fits rest
      have his : ev = .nilIface ∨ ∃ u, ev = .iface 84 u := by
        by_cases hz : (getR rest).2.2 = 0
        · rw [hz] at hev; exact .inl (errL_zero hev)
        · exact .inr (errL_some hev hz)
      obtain ⟨it, hia, hiv⟩ : ∃ it : Item, it.a = a ∧ it.v = ev := ⟨⟨a, ev, hfa, his⟩, rfl, rfl⟩
      have HE := Lib.hid (And.intro hev (And.intro hok ha))
      have HI := Lib.hid (And.intro hia hiv)
      clear hev hok ha hfa his
      have hg2 : wr.grownBy (w1.alloc (.cells #[.int .i64 a.l, .int .u64 a.c, .int .i64 a.i] 24)) (some R) := only_below hg (Below.new w1 _) hg.size
      have d1 : Boxed (w1.alloc (.cells #[.int .i64 a.l, .int .u64 a.c, .int .i64 a.i] 24)) B1 25 (moreV R) := (b1.kept hg (fun e => hB1 (by injection e))).alloc _
      have d2 : Boxed (w1.alloc (.cells #[.int .i64 a.l, .int .u64 a.c, .int .i64 a.i] 24)) B2 56 (nextV R) := (b2.kept hg (fun e => hB2 (by injection e))).alloc _
      have hpl : pre.length ≤ all.length := by
        have h1 := list_len all.length all (Nat.le_refl _)
        rw [HX.out.2, List.length_append, List.length_map] at h1
        omega
      have hsR := hr.lt
      have hsz := hg.size
      obtain ⟨fn, tmps, assign, body, hy, hRn⟩ := HY.out pre it _ (HJ.out.2.1 _ _ _ HJ.out.1 ⟨hg2, rest, k, hr⟩) hpl
      have HD := Lib.hid (And.intro d1 d2)
      have hrc := hr.c0
      have HR := Lib.hid hrc
      rw [hia, hiv] at hy
      clear hia hiv b1 b2 c1 c2 hr hg2 d1 d2 hrc
      gi_wp2
      refine hRn.mono ?_
      rintro e W3 (⟨rfl, hJ3, hk3⟩ | ⟨rfl, hJx3, hk3⟩)
      · have hGx := (HJ.out.2.2 _ _ hJ3).1 it (by simp)
        rw [HI.out.2] at hGx
        have hz := errL_nil HE.out.1 hGx
        obtain ⟨k', hC1⟩ := HE.out.2.1 hz
        have hC3 : Cd W3 R (rest.drop 10) k' := (hC1.more (Below.new w1 _)).block (hk3 R (.inr (.inr rfl)))
        obtain ⟨h10, hrt, hgr⟩ := getR_zero hz
        have hla : labOf rest = a := by rw [← HE.out.2.2, hgr]
        have e1 : Boxed W3 B1 25 (moreV R) := (hk3 B1 (.inl rfl)).trans HD.out.1
        have e2 : Boxed W3 B2 56 (nextV R) := (hk3 B2 (.inr (.inl rfl))).trans HD.out.2
        have HF := Lib.hid (And.intro hz (And.intro h10 hla))
        clear hRn hy hk3 hz hla hgr hrt hGx h10
        gi_wp2
        go_roundw
        case rel =>
          refine ⟨pre ++ [it], rest.drop 10, k', ⟨by rw [HX.out.1, listC_ok HN.out HF.out.1], ?_⟩, hJ3, e1, e2, hC3⟩
          rw [HX.out.2, listL_ok HN.out HF.out.1, HF.out.2.2]
          rw [List.map_append, List.append_assoc, ← HI.out.1]
          rfl
        case measure =>
          rw [hC3.c0, HR.out]
          have := HF.out.2.1
          simp only [bs_size, List.length_drop]
          omega
      · clear hRn hy hk3
        gi_wp2
        refine bodyPost_ret (results_none rfl _ _ _) rfl ?_
        refine ⟨⟨_, rfl⟩, .inr ⟨pre ++ [it], ⟨pre, it, rfl, fun hne => ?_⟩, hJx3⟩⟩
        rw [HI.out.2] at hne ⊢
        have hne2 : (getR rest).2.2 ≠ 0 := fun h => by
          have := HE.out.1
          rw [h] at this
          exact hne (errL_zero this)
        rw [HX.out.1, listC_bad HN.out hne2]
        exact ⟨hne2, HE.out.1⟩

theorem each_steps (n : Nat) (hn : 1 ≤ n) (s : Sn) (t : SnL) (w0 : World) (hs : SentL s t w0) (B1 B2 R : Nat) (hB1 : B1 ≠ R) (hB2 : B2 ≠ R) (all : List UInt8) (w : World) (hb1 : Boxed w B1 25 (moreV R)) (hb2 : Boxed w B2 56 (nextV R)) (k0 : Int) (hR : Cd w R all k0) :
    SeqStepsE (ItemG w0) (fun pre => pre.length ≤ all.length) n Tryd.prog 68 #[.pointer (some ⟨B1, 0, none⟩), .pointer (some ⟨B2, 0, none⟩)] (fun x : Item => #[Value.agg #[.int .i64 x.a.l, .int .u64 x.a.c, .int .i64 x.a.i], x.v]) (fun k => k = B1 ∨ k = B2 ∨ k = R) (StC R)
      (fun ys _ => listC all = 0 ∧ listL all = ys.map itemL) (fun pre _ => ∃ ys x, pre = ys ++ [x] ∧ (x.v ≠ .nilIface → listC all ≠ 0 ∧ ErrL t x.v (listC all))) w := fun l J Jx W hW hJ hG hY h0 =>
  each1_in n hn s t w0 hs l B1 B2 R hB1 hB2 all J Jx hJ hG hY W ((hW.block B1 hb1.lt).trans hb1) ((hW.block B2 hb2.lt).trans hb2) k0 (hR.more hW) h0

end Go.Proofs.YtfpjbefhfkembaaDoor

/- Slices of labels that a call has made. -/
namespace Go.Proofs.YtfpjbefhfkembaaDoor
open Go.RowKit Go.Shelf Go.Proofs.Fld Go.Proofs.Cats

theorem infoLab : (Tryd.prog.info? 24).map (fun i => (i.zero, i.size, i.bytes)) = some (some (.agg #[.int .i64 0, .int .u64 0, .int .i64 0]), 3, 24) := by kernel_rfl
theorem rowG_slice {w : World} {base e size : Nat} {n : Nat} {v : Value} {xs : List Value} (h : w.ownsRow base e size v n xs) : ∃ a cap, v = .slice a n cap := by
  rcases h.2 with ⟨rfl, rfl⟩ | ⟨g, cap, cur, rfl, _⟩
  · exact ⟨none, 0, rfl⟩
  · exact ⟨_, cap, rfl⟩

/-- A label's three cells, a list's. -/
def cells3L (a : Lab) : List Value := [.int .i64 a.l, .int .u64 a.c, .int .i64 a.i]
def labCells : List Lab → List Value
  | [] => []
  | a :: r => cells3L a ++ labCells r
theorem labCells_append (l m : List Lab) : labCells (l ++ m) = labCells l ++ labCells m := by
  induction l with
  | nil => rfl
  | cons a r ih => simp [labCells, ih]
theorem labCells_length (l : List Lab) : (labCells l).length = l.length * 3 := by
  induction l with
  | nil => rfl
  | cons a r ih => simp only [labCells, cells3L, List.length_append, List.length_cons, List.length_nil, ih]; omega
theorem labCells_get (l : List Lab) (j : Nat) (x : Lab) (h : l[j]? = some x) : (labCells l)[j * 3]? = some (.int .i64 x.l) ∧ (labCells l)[j * 3 + 1]? = some (.int .u64 x.c) ∧ (labCells l)[j * 3 + 2]? = some (.int .i64 x.i) := by
  induction l generalizing j with
  | nil => simp at h
  | cons a r ih =>
    cases j with
    | zero =>
      simp at h
      subst h
      exact ⟨rfl, rfl, rfl⟩
    | succ j =>
      have hi := ih j (by simpa using h)
      have e : ∀ i, (labCells (a :: r))[(j + 1) * 3 + i]? = (labCells r)[j * 3 + i]? := fun i => by
        show (cells3L a ++ labCells r)[(j + 1) * 3 + i]? = _
        rw [List.getElem?_append_right (by simp [cells3L]; omega)]
        congr 1
        simp [cells3L]
        omega
      exact ⟨(e 0).trans hi.1, (e 1).trans hi.2.1, (e 2).trans hi.2.2⟩
theorem labCells_one (l : List Lab) : ∀ u ∈ labCells l, u.oneCell' = true := by
  induction l with
  | nil => intro u hu; cases hu
  | cons a r ih =>
    intro u hu
    rcases List.mem_append.1 hu with h | h
    · simp [cells3L] at h
      rcases h with rfl | rfl | rfl <;> rfl
    · exact ih u h
theorem add_at (b off j : Nat) : (⟨b, off, none⟩ : Addr).add j = ⟨b, off + j, none⟩ := by
  unfold Addr.add
  by_cases hj0 : j = 0
  · subst hj0; simp
  · simp [hj0]

/-- A row of labels of the call's own, read as a slice of labels. -/
theorem labs_row {W : World} {base : Nat} {v : Value} {zs : List Lab} (h : W.ownsRow base 24 3 v zs.length (labCells zs)) (hf : ∀ x ∈ zs, x.fits) : Lb.Labs W.heap.size W v zs := by
  rcases h.2 with ⟨rfl, h0⟩ | ⟨g, cap, cur, rfl, _, hg, _⟩
  · exact ⟨none, 0, by rw [h0], fun hz => absurd (List.eq_nil_of_length_eq_zero h0) hz⟩
  · refine ⟨some ⟨g, 0, none⟩, cap, rfl, fun _ => ⟨g, 0, rfl, (Array.getElem?_eq_some_iff.1 hg).1, fun j x hj => ⟨hf x (List.mem_of_getElem? hj), ?_⟩⟩⟩
    obtain ⟨h0, h1, h2⟩ := labCells_get zs j x hj
    have hc := World.ownsRow.cells h (g := g) rfl
    have k0 := hc _ _ h0
    have k1 := hc _ _ h1
    have k2 := hc _ _ h2
    rw [add_at] at k0 k1 k2
    exact ⟨k0, by rw [Nat.add_assoc]; exact k1, by rw [Nat.add_assoc]; exact k2⟩
/-- The cells of a slice of labels, for an append. -/
theorem labs_cells {W : World} {b off : Nat} {zs : List Lab} (h : ∀ j x, zs[j]? = some x → x.fits ∧ Lb.LabAt W b (off + j * 3) x) : ∀ j u, (labCells zs)[j]? = some u → W.cell? ((⟨b, off, none⟩ : Addr).add j) = some u := by
  induction zs generalizing off with
  | nil => intro j u hu; simp [labCells] at hu
  | cons a r ih =>
    intro j u hu
    obtain ⟨_, k0, k1, k2⟩ := h 0 a rfl
    match j, hu with
    | 0, hu => simp [labCells, cells3L] at hu; subst hu; rw [add_at]; simpa using k0
    | 1, hu => simp [labCells, cells3L] at hu; subst hu; rw [add_at]; simpa using k1
    | 2, hu => simp [labCells, cells3L] at hu; subst hu; rw [add_at]; simpa using k2
    | j + 3, hu =>
      have hu' : (labCells r)[j]? = some u := by simpa [labCells, cells3L] using hu
      have := ih (off := off + 3) (fun i x hx => by
        have := h (i + 1) x (by simpa using hx)
        rw [show off + 3 + i * 3 = off + (i + 1) * 3 by omega]
        exact this) j u hu'
      rw [add_at] at this ⊢
      rw [show off + (j + 3) = off + 3 + j by omega]
      exact this
theorem lab_new (W : World) (a : Lab) : ∀ j u, (cells3L a)[j]? = some u → (W.alloc (.cells #[.int .i64 a.l, .int .u64 a.c, .int .i64 a.i] 24)).cell? ((⟨W.heap.size, 0, none⟩ : Addr).add j) = some u := by
  intro j u hu
  rw [add_at, World.cell?_alloc_at _ _ _ _ rfl]
  simpa [cells3L] using hu

end Go.Proofs.YtfpjbefhfkembaaDoor

/- list: labels off what is left, to its end. -/
namespace Go.Proofs.YtfpjbefhfkembaaDoor
open Go.RowKit Go.Shelf Go.Proofs.Fld Go.Proofs.Cats Go.Proofs.Lcd

attribute [local go_sem] Oper.semAt_some

def itemsL (pre : List Item) : List Lab := pre.map itemL
theorem itemsL_snoc (pre : List Item) (x : Item) : itemsL (pre ++ [x]) = itemsL pre ++ [x.a] := by simp [itemsL, itemL]
theorem itemsL_length (pre : List Item) : (itemsL pre).length = pre.length := by simp [itemsL]

/-- What list tells. -/
def ListPost (t : SnL) (R : Nat) (all : List UInt8) (w : World) (e : Ending) (w' : World) : Prop :=
  ∃ v ev, ErrL t ev (listC all) ∧ e = .returned (.tuple #[v, ev]) ∧ w.grownBy w' (some R) ∧ Lb.Labs w'.heap.size w' v (getListR all).1

/-- list's word between two rounds. -/
def ListI (w : World) (R B4 B5 : Nat) (pre : List Item) (W : World) : Prop :=
  ((∀ x ∈ pre, x.v = .nilIface) ∧ ((∃ v, Boxed W B4 36 v ∧ W.ownsRow w.heap.size 24 3 v pre.length (labCells (itemsL pre)) ∧ True) ∧ Boxed W B5 46 .nilIface)) ∧ (w.grownBy W (some R) ∧ (Boxed W (B5 + 1) 25 (moreV R) ∧ Boxed W (B5 + 1 + 1) 56 (nextV R)))
/-- .. when a round has left. -/
def ListX (w : World) (R B5 : Nat) (c : Code) (pre : List Item) (W : World) : Prop :=
  ((c = .exit 0 ∧ (∃ ys x, pre = ys ++ [x] ∧ x.v ≠ .nilIface ∧ Boxed W B5 46 x.v))) ∧ w.grownBy W (some R)
theorem listX_own (w : World) (R B5 : Nat) (c : Code) {B : Nat} (hB : w.heap.size ≤ B) : OwnFrom B (ListX w R B5 c) := fun pre W W' row hs hg hr => by
  obtain ⟨⟨h1, ys, x, h2, h3, hk⟩, h4⟩ := hs
  exact ⟨⟨h1, ys, x, h2, h3, (Own.from (boxed_own (β := Unit) _ _ (fun _ => x.v)) B) () W W' row hk hg hr⟩, own_only (β := Unit) hB () W W' row h4 hg hr⟩
/-- What a round has at hand: the label, in memory. -/
def ListA (R B4 B5 : Nat) (x : Item) (a' : Act) (W : World) : Prop :=
  ∃ (b6 : Nat) (u8 u9 u10 u11 u12 u13 u14 u15 u16 u17 u18 u19 u20 u21 u22 u23 u24 : Value), (B5 < b6 ∧ Lb.LabAt W b6 0 x.a) ∧ a' = { tmps := #[.pointer (some ⟨R, 0, none⟩), undef, .slice none 0 0, .nilIface, .pointer (some ⟨B4, 0, none⟩), .pointer (some ⟨B5, 0, none⟩), .pointer (some ⟨b6, 0, none⟩), x.v, u8, u9, u10, u11, u12, u13, u14, u15, u16, u17, u18, u19, u20, u21, u22, u23, u24, undef, undef, undef, undef, undef, undef, undef, undef, undef, undef, undef, undef], defers := [] }

set_option maxRecDepth 100000 in
set_option maxHeartbeats 2000000 in
theorem list_in (n : Nat) (hn : 3 ≤ n) (s : Sn) (t : SnL) (w0 : World) (hs : SentL s t w0) (R : Nat) (hR0 : w0.heap.size ≤ R) (all : List UInt8) (hall : all.length ≤ 1048576) (k0 : Int) (w : World) (hw : Below w0.heap.size w0 w) (hC : Cd w R all k0) :
    CallsIn Fence.wide n Tryd.prog 36 #[.pointer (some ⟨R, 0, none⟩)] w (ListPost t R all w) := by
  have h1 : 1 ≤ n := by omega
  obtain ⟨i0, hi, hz0, hz1, hz2⟩ := info_parts infoLab
  have hRl := hC.lt
  have c0 := hC.c0
  have hw0 := hw.size
  have hsz := bs_size all
  have HS := Lib.hid (And.intro hs (And.intro hw hC))
  clear hs hw hC
  refine callsIn_of_wp_marks Tryd.func36 rfl trivial ?_ rfl
  simp only [Tryd.ntmps36, List.size_toArray, List.length_cons, List.length_nil, Nat.reduceAdd, Nat.reduceSub, Array.replicate_succ, Array.replicate_zero, List.push_toArray, List.append_toArray, List.nil_append, List.cons_append]
  gi_wp2
  refine wpIn_scope_wide ?_
  gi_wp2_with (first | (gi_at_make; refine wpListIn_make_own _ rfl _ _ 36 rfl w.heap.size 24 i0 (.agg #[.int .i64 0, .int .u64 0, .int .i64 0]) 3 Tryd.underlying36 hi hz0 hz1 _ _ _ (all.length / 10) rfl rfl (by omega) (by rw [hz2]; omega) (by unfold maxLen; omega) (Nat.le_refl _) ?_; intro w1 hrow0 hgrow0))
  refine wpIn_label ?_
  gi_wp2_with (refine ⟨trivial, ?_⟩; gi_at_call 49; refine (each_in (n - 1) R _).mono ?_; rintro e w' ⟨rfl, rfl⟩)
  have hB1 : Below w.heap.size w w1 := (Below.refl _ w).grown hgrow0 (Nat.le_refl _) (fun k e => by cases e)
  have z1 := hB1.size
  obtain ⟨sv, hsv⟩ : ∃ sv, Value.slice (some ⟨w.heap.size, 0, none⟩) 0 (all.length / 10) = sv := ⟨_, rfl⟩
  have b4 := Boxed.new w1 36 (.slice (some ⟨w.heap.size, 0, none⟩) 0 (all.length / 10))
  obtain ⟨W0, hW0⟩ : ∃ W0, ((((w1.alloc (.cells #[.slice (some ⟨w.heap.size, 0, none⟩) 0 (all.length / 10)] 36)).alloc (.cells #[.nilIface] 46)).alloc (.cells #[moreV R] 25)).alloc (.cells #[nextV R] 56)) = W0 := ⟨_, rfl⟩
  have b5 := Boxed.new (w1.alloc (.cells #[.slice (some ⟨w.heap.size, 0, none⟩) 0 (all.length / 10)] 36)) 46 .nilIface
  have b6 := Boxed.new ((w1.alloc (.cells #[.slice (some ⟨w.heap.size, 0, none⟩) 0 (all.length / 10)] 36)).alloc (.cells #[.nilIface] 46)) 25 (moreV R)
  have b7 := Boxed.new (((w1.alloc (.cells #[.slice (some ⟨w.heap.size, 0, none⟩) 0 (all.length / 10)] 36)).alloc (.cells #[.nilIface] 46)).alloc (.cells #[moreV R] 25)) 56 (nextV R)
  simp only [World.size_alloc] at b5 b6 b7
  have b4' := ((b4.alloc (.cells #[.nilIface] 46)).alloc (.cells #[moreV R] 25)).alloc (.cells #[nextV R] 56)
  have b5' := (b5.alloc (.cells #[moreV R] 25)).alloc (.cells #[nextV R] 56)
  have b6' := b6.alloc (.cells #[nextV R] 56)
  have row' := (((hrow0.alloc (.cells #[.slice (some ⟨w.heap.size, 0, none⟩) 0 (all.length / 10)] 36)).alloc (.cells #[.nilIface] 46)).alloc (.cells #[moreV R] 25)).alloc (.cells #[nextV R] 56)
  have hB2 : Below w.heap.size w W0 := by
    rw [← hW0]
    exact (((hB1.alloc z1 _).alloc (by simp; omega) _).alloc (by simp; omega) _).alloc (by simp; omega) _
  have hz0' : W0.heap.size = w1.heap.size + 1 + 1 + 1 + 1 := by rw [← hW0]; simp
  rw [hW0] at b4' b5' b6' b7 row'
  rw [hW0]
  have cW := Lib.hid (HS.out.2.2.more hB2)
  have HG := Lib.hid (And.intro HS.out.1 (And.intro HS.out.2.1 row'))
  clear b4 b5 b6 hW0 hrow0 hgrow0 row' hsv sv c0
  refine wpIn_rangeStepsE (G := ItemG w0) (H := fun pre => pre.length ≤ all.length) h1 (gf := 68) (lb := #[.pointer (some ⟨w1.heap.size + 1 + 1, 0, none⟩), .pointer (some ⟨w1.heap.size + 1 + 1 + 1, 0, none⟩)]) rfl (enters_of Tryd.func68 (by kernel_rfl) rfl)
    (each_steps (n - 1) (by omega) s t w0 HG.out.1 (w1.heap.size + 1 + 1) (w1.heap.size + 1 + 1 + 1) R (by omega) (by omega) all W0 b6' b7 k0 cW.out) (by rintro k (rfl | rfl | rfl) <;> omega) (ownFrom_pure _ _) (ownFrom_pure _ _) (Below.refl _ _) (fun _ => rfl) stC_others
    (ListI w R w1.heap.size (w1.heap.size + 1)) (ListX w R (w1.heap.size + 1)) ?hI (fun c => listX_own w R _ c (by omega)) ?abide ?keeps ?h0 (ListA R w1.heap.size (w1.heap.size + 1)) ?hAx ?assign ?body ?done ?stop
  case hI =>
    exact OwnFrom.and (OwnFrom.and (ownFrom_pure _ _) (OwnFrom.and (Own.from (holdsRow_own w.heap.size w1.heap.size 36 24 3 (fun pre : List Item => pre.length) (fun pre : List Item => labCells (itemsL pre)) (fun _ _ => True)) _) (Own.from (boxed_own _ _ _) _))) (OwnFrom.and (own_only (by omega)) (OwnFrom.and (Own.from (boxed_own _ _ _) _) (Own.from (boxed_own _ _ _) _)))
  case abide =>
    rintro pre A B ⟨⟨h1, ⟨v, x1, x2, _⟩, x3⟩, x4, x6, x7⟩ ⟨hg, _⟩
    exact ⟨⟨h1, ⟨v, x1.kept hg (fun e => by injection e; omega), x2.kept hg (Or.inr (fun e => by have := (x2.lt R e).1; omega)), trivial⟩, x3.kept hg (fun e => by injection e; omega)⟩, only_trans x4 hg, x6.kept hg (fun e => by injection e; omega), x7.kept hg (fun e => by injection e; omega)⟩
  case keeps =>
    rintro pre A ⟨⟨h1, _⟩, x4, _⟩
    exact ⟨h1, below_only HG.out.2.1 x4 (Nat.le_refl _) hR0⟩
  case h0 =>
    exact ⟨⟨fun _ h => (by cases h), ⟨_, b4', HG.out.2.2, trivial⟩, b5'⟩, only_of R hB2, b6', b7⟩
  case hAx =>
    rintro x a' _ A B row ⟨b6, u8, u9, u10, u11, u12, u13, u14, u15, u16, u17, u18, u19, u20, u21, u22, u23, u24, ⟨h5, hl⟩, rfl⟩ hg hr
    exact ⟨b6, u8, u9, u10, u11, u12, u13, u14, u15, u16, u17, u18, u19, u20, u21, u22, u23, u24, ⟨h5, cell_kept hl.1 hg (fun r e => (hr r e).2), cell_kept hl.2.1 hg (fun r e => (hr r e).2), cell_kept hl.2.2 hg (fun r e => (hr r e).2)⟩, rfl⟩
  case assign =>
    rintro l pre x W K ⟨⟨hg, ⟨v, x1, x2, _⟩, x3⟩, x4, x6, x7⟩ hK
    have x5 := x7.lt
    have h5 := x3.lt
    have HK := Lib.hid hK
    have HX := Lib.hid (And.intro hg (And.intro x1 (And.intro x2 (And.intro x3 (And.intro x4 (And.intro x6 x7))))))
    have z4 := x4.size
    clear hK hg x1 x2 x3 x4 x6 x7 b4' b5' b6' b7
    gi_wp2
    have hn := Below.new W (.cells #[.int .i64 x.a.l, .int .u64 x.a.c, .int .i64 x.a.i] 24)
    exact HK.out _ _ ((KeepsOthers.alloc _ _).from _) (fun k hk => hn.block k (by rcases hk with rfl | rfl | rfl <;> omega)) ⟨⟨HX.out.1, ⟨v, HX.out.2.1.alloc _, HX.out.2.2.1.alloc _, trivial⟩, HX.out.2.2.2.1.alloc _⟩, only_below HX.out.2.2.2.2.1 hn z4, HX.out.2.2.2.2.2.1.alloc _, HX.out.2.2.2.2.2.2.alloc _⟩ ⟨W.heap.size, _, _, _, _, _, _, _, _, _, _, _, _, _, _, _, _, _, ⟨h5, by simp, by simp, by simp⟩, rfl⟩
  case body =>
    rintro l pre x a' W ⟨⟨hg, ⟨v, x1, x2, _⟩, x3⟩, x4, x6, x7⟩ hpl ⟨b6, u8, u9, u10, u11, u12, u13, u14, u15, u16, u17, u18, u19, u20, u21, u22, u23, u24, ⟨h5, l0, l1, l2⟩, rfl⟩
    have x5 := x7.lt
    have c4 := x1.cell
    have c5 := x3.cell
    have f5 := x3.frozen
    have z4 := x4.size
    have HX := Lib.hid (And.intro hg (And.intro x3 x4))
    have HY := Lib.hid (And.intro x6 x7)
    clear b4' b5' b6' b7 x6 x7
    rcases x.is with hv | ⟨u, hv⟩
    · have HV := Lib.hid hv
      have hnl : pre.length ≤ 1048576 := Nat.le_trans hpl hall
      clear hpl
      obtain ⟨va, vc, rfl⟩ := rowG_slice x2
      have HN := Lib.hid (lab_new W x.a)
      clear hg x3 x4
      gi_wp2_with (gi_at_builtin; go_loud (refine wpListIn_append_own _ rfl _ _ 36 rfl w.heap.size 24 i0 (.agg #[.int .i64 0, .int .u64 0, .int .i64 0]) 3 24 Tryd.underlying36 hi hz0 hz1 hz2 rfl (by decide) _ pre.length (labCells (itemsL pre)) rfl (x2.alloc (.cells #[.int .i64 x.a.l, .int .u64 x.a.c, .int .i64 x.a.i] 24)) ⟨W.heap.size, 0, none⟩ 1 1 (cells3L x.a) rfl rfl HN.out (by simp [cells3L, Value.oneCell']) (by unfold maxLen; omega) (by omega) (by simp; omega) ?_; intro v' w5 hown' hgrow _; obtain ⟨g', cap', rfl⟩ := ownsRow_succ hown'; obtain ⟨hv1, hv2, hr2, hk2, hb2⟩ := x1.appended (by decide) x2 (by omega) (by omega) hown' hgrow; have hc1 := hv1.cell; have hf1 := hv1.frozen))
      have hgx : ∀ k, k = w1.heap.size + 1 ∨ k = w1.heap.size + 1 + 1 ∨ k = w1.heap.size + 1 + 1 + 1 ∨ k = R → (w5.setCell ⟨w1.heap.size, 0, none⟩ (.slice (some ⟨g', 0, none⟩) (pre.length + 1) cap')).heap[k]? = W.heap[k]? := fun k hk => by
        have hkl : k < W.heap.size := by rcases hk with rfl | rfl | rfl | rfl <;> omega
        have hko : some k ≠ Value.ownBlock (.slice va pre.length vc) := by
          rcases hk with rfl | rfl | rfl | rfl
          · exact HX.out.2.1.not_row (by decide) x2
          · exact HY.out.1.not_row (by decide) x2
          · exact HY.out.2.not_row (by decide) x2
          · intro e; have := (x2.lt _ e.symm).1; omega
        refine ((grown_set w5 w1.heap.size 0 _).block k (by have := hgrow.size; simp at this; omega) (fun e => by injection e with e; rcases hk with rfl | rfl | rfl | rfl <;> omega)).trans ?_
        exact (hgrow.block k (by simp; omega) hko).trans (Below.heap_alloc _ _ _ hkl)
      refine ⟨hk2.from _, fun k hk => hgx k (.inr hk), ⟨⟨?_, ⟨_, hv2, ?_, trivial⟩, (hgx _ (.inl rfl)).trans HX.out.2.1⟩, only_below HX.out.2.2 hb2 (Nat.le_refl _), ?_⟩⟩
      · intro y hy
        rcases List.mem_append.1 hy with h | h
        · exact HX.out.1 y h
        · rw [List.mem_singleton.1 h]; exact HV.out
      · rw [itemsL_snoc, labCells_append, List.length_append]
        exact hr2
      · exact ⟨(hgx _ (.inr (.inl rfl))).trans HY.out.1, (hgx _ (.inr (.inr (.inl rfl)))).trans HY.out.2⟩
    · have HV := Lib.hid hv
      gi_wp2
      refine ⟨(KeepsOthers.setCell _ _ _).from _, fun k hk => ?_, ⟨rfl, pre, x, rfl, by rw [HV.out]; simp, by rw [HV.out]; exact HX.out.2.1.set _⟩, only_below HX.out.2.2 ((Below.refl w.heap.size W).setCell (p := ⟨w1.heap.size + 1, 0, none⟩) (by simp; omega) _) (Nat.le_refl _)⟩
      exact (grown_set W (w1.heap.size + 1) 0 _).block k (by rcases hk with rfl | rfl | rfl <;> omega) (fun e => by injection e with e; rcases hk with rfl | rfl | rfl <;> omega)
  case done =>
    rintro D ys W hD ⟨hz, hl⟩ ⟨⟨hg, ⟨v, x1, x2, _⟩, x3⟩, x4, _⟩ hK
    have c4 := x1.cell
    have c5 := x3.cell
    have HX := Lib.hid (And.intro hz (And.intro hl (And.intro x2 (And.intro x4 hK))))
    clear b4' b5' b6' b7 hz hl x1 x3
    obtain ⟨va, vc, rfl⟩ := rowG_slice x2
    clear x2 x4 hK
    gi_wp2
    rw [Exit.noGoto_ret]
    refine ⟨by simp, .inl ⟨_, _, rfl, run_takeDeferred HX.out.2.2.2.2, ?_⟩⟩
    have hrow : (W.putObj D (.deferred none)).ownsRow w.heap.size 24 3 (.slice va ys.length vc) ys.length (labCells (itemsL ys)) := own_row (β := Unit) () W _ (some D) HX.out.2.2.1 (grownBy_putObj' W D _) (fun r e => by cases e; exact ⟨_, HX.out.2.2.2.2, rfl⟩)
    have honly : w.grownBy (W.putObj D (.deferred none)) (some R) := own_only (β := Unit) (B := w.heap.size) (Nat.le_refl _) () W _ (some D) HX.out.2.2.2.1 (grownBy_putObj' W D _) (fun r e => by cases e; exact ⟨by omega, _, HX.out.2.2.2.2, rfl⟩)
    refine ⟨_, results_tmp2 rfl _ _ _, .slice va ys.length vc, .nilIface, ?_, rfl, honly, ?_⟩
    · rw [HX.out.1]; exact .ok
    · rw [getListR_ok HX.out.1, HX.out.2.1]
      refine labs_row (by rw [List.length_map]; exact hrow) (fun x hx => ?_)
      obtain ⟨y, _, rfl⟩ := List.mem_map.1 hx
      exact y.fit
  case stop =>
    rintro D c pre W hD ⟨ys, x, hp, hx⟩ ⟨⟨rfl, ys', x', hp', hne, hE⟩, x4⟩ hK
    obtain ⟨_, e2⟩ := List.append_inj' (hp.symm.trans hp') rfl
    obtain rfl : x = x' := by simpa using e2
    obtain ⟨u, hv⟩ : ∃ u, x.v = .iface 84 u := x.is.resolve_left hne
    have hx2 := hx hne
    have c5 := hE.cell
    rw [hv] at hx2 c5
    have HX := Lib.hid (And.intro hx2 (And.intro x4 hK))
    clear b4' b5' b6' b7 hx hx2 hE hne hp hp' e2 hK
    gi_wp2
    refine wpIn_wide.2 ?_
    go_region_held3 (fun w' => w'.cell? ⟨w1.heap.size + 1, 0, none⟩ = some (.iface 84 u)) (go_keep) (fail)
    gi_wp2
    rw [Exit.noGoto_ret]
    refine ⟨by simp, .inl ⟨_, _, rfl, run_takeDeferred (w := W.drew) HX.out.2.2, ?_⟩⟩
    have honly : w.grownBy (W.drew.putObj D (.deferred none)) (some R) := own_only (β := Unit) (B := w.heap.size) (Nat.le_refl _) () W.drew _ (some D) (only_drew HX.out.2.1) (grownBy_putObj' W.drew D _) (fun r e => by cases e; exact ⟨by omega, _, HX.out.2.2, rfl⟩)
    refine ⟨_, results_tmp2 rfl _ _ _, .slice none 0 0, .iface 84 u, HX.out.1.2, rfl, honly, ?_⟩
    rw [getListR_no HX.out.1.1]
    exact ⟨none, 0, rfl, fun h => absurd rfl h⟩

end Go.Proofs.YtfpjbefhfkembaaDoor
