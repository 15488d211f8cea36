/- Merged texts: LcRef, LcRef2, LcRef3 -/
import Derived.Test.YtfpjbefhfkembaaDoorLcC
import Derived.Test.YtfpjbefhfkembaaDoorLabA
import Derived.Test.YtfpjbefhfkembaaDoorFldD
/- The document's own Put, Get. -/
namespace Go.Proofs.YtfpjbefhfkembaaDoor
open Go.RowKit Go.Shelf Go.Proofs.Fld Go.Proofs.Cats Go.Proofs.Lcd

set_option maxRecDepth 100000 in
set_option maxHeartbeats 1000000 in
theorem refPut_lab (l i c : Nat) (hl : l < 256) (hi : i < 256) (hc : c < 18446744073709551616) (hr : Hid (Lab.right ⟨l, c, i⟩ = true)) (w : World) :
    Calls Tryd.prog 11 #[.agg #[.int .i64 (l : Int), .int .u64 (c : Int), .int .i64 (i : Int)]] w (SC (enc 1 l ++ (enc 1 i ++ enc 8 c), 0) w) := by
  have HB := Lib.hid (And.intro hl (And.intro hi hc))
  have u1 := wrapU l hl
  have u2 := wrapU i hi
  clear hl hi hc
  go_enter Tryd.func11, Tryd.ntmps11
  go_wp2_with fail
  refine (Lb.refRight_any ⟨l, c, i⟩ _).mono ?_
  rintro e w1 ⟨he, hb⟩
  rw [hr.out] at he
  subst he
  have c0 : w1.cell? ⟨w.heap.size, 0, none⟩ = some (.int .i64 (l : Int)) := cell_later hb (by simp)
  have c1 : w1.cell? ⟨w.heap.size, 1, none⟩ = some (.int .u64 (c : Int)) := cell_later hb (by simp)
  have c2 : w1.cell? ⟨w.heap.size, 2, none⟩ = some (.int .i64 (i : Int)) := cell_later hb (by simp)
  have q0 : ∀ o, (w1.alloc o).cell? ⟨w.heap.size, 0, none⟩ = some (.int .i64 (l : Int)) := fun o => cell_later (Below.new w1 o) c0
  have q1 : ∀ o, (w1.alloc o).cell? ⟨w.heap.size, 1, none⟩ = some (.int .u64 (c : Int)) := fun o => cell_later (Below.new w1 o) c1
  have q2 : ∀ o, (w1.alloc o).cell? ⟨w.heap.size, 2, none⟩ = some (.int .i64 (i : Int)) := fun o => cell_later (Below.new w1 o) c2
  have hB1 := below_more (Below.new w _) hb
  have hB2 : Below w1.heap.size w1 ((w1.alloc (.cells #[.int .i64 1, .int .i64 1, .int .i64 8] 3)).alloc (.cells #[.int .u64 (l : Int), .int .u64 (i : Int), .int .u64 (c : Int)] 22)) := (Below.new w1 _).alloc (by simp) _
  have hp := refPack_any [1, 1, 8] [l, i, c] (by simp) (by
    intro x hx
    have := HB.out
    simp at hx
    omega) (some ⟨w1.heap.size, 0, none⟩) (some ⟨w1.heap.size + 1, 0, none⟩) 3 3 ((w1.alloc (.cells #[.int .i64 1, .int .i64 1, .int .i64 8] 3)).alloc (.cells #[.int .u64 (l : Int), .int .u64 (i : Int), .int .u64 (c : Int)] 22))
    (slI3 (by simp; omega) (by go_simp) (by go_simp) (by go_simp)) (slI3 (by simp) (by go_simp) (by go_simp) (by go_simp))
  rw [packRes_lab HB.out.1 HB.out.2.1 HB.out.2.2] at hp
  have HP := Lib.hid hp
  clear hp hb
  go_wp2_with (go_at_call 29; refine HP.out.mono ?_)
  rintro e w2 ⟨rfl, b2⟩
  go_wp2
  go_ret2
  exact ⟨rfl, below_more hB1 (below_more hB2 b2)⟩

set_option maxHeartbeats 1000000 in
theorem refPutL_no (a : Lab) (hr : Hid (a.right = false)) (w : World) : Calls Tryd.prog 11 #[.agg #[.int .i64 a.l, .int .u64 a.c, .int .i64 a.i]] w (SC ([], 20) w) := by
  go_enter Tryd.func11, Tryd.ntmps11
  go_wp2_with fail
  refine (Lb.refRight_any a _).mono ?_
  rintro e w1 ⟨he, hb⟩
  rw [hr.out] at he
  subst he
  go_wp2
  go_ret2
  exact ⟨rfl, below_more (Below.new w _) hb⟩

theorem refPutL_any (a : Lab) (ha : a.fits) (w : World) : Calls Tryd.prog 11 #[.agg #[.int .i64 a.l, .int .u64 a.c, .int .i64 a.i]] w (SC (putR a) w) := by
  cases h : a.right
  · rw [putR_no h]
    exact refPutL_no a (Lib.hid h) w
  · rw [putR_ok h]
    obtain ⟨l, c, i⟩ := a
    obtain ⟨l', i', h1, h2, h3, h4⟩ := right_nat h
    simp only at h1 h2
    subst h1 h2
    have := refPut_lab l' i' c h3 h4 ha (Lib.hid h) w
    simpa only [labB, Int.toNat_natCast] using this

theorem refUnpack_few (l : List UInt8) (hl : Hid (l.length < 10)) (w : World) (o : Obj) :
    Calls Tryd.prog 32 #[.slice (some ⟨w.heap.size + 1, 0, none⟩) 3 3, .string (bs l)] ((w.alloc o).alloc (.cells #[.int .i64 1, .int .i64 1, .int .i64 8] 3)) fun e w' => ∃ (a : Option Addr) (cap : Nat), e = .returned (.tuple #[.slice a 0 cap, .string (bs []), .int .i64 30]) ∧ Below (w.heap.size + 1) (w.alloc o) w' := by
  have h := refUnpack_any [1, 1, 8] (by simp) l (some ⟨w.heap.size + 1, 0, none⟩) 3 ((w.alloc o).alloc (.cells #[.int .i64 1, .int .i64 1, .int .i64 8] 3)) (slI3 (by simp) (by go_simp) (by go_simp) (by go_simp))
  have e : unpackRes [1, 1, 8] l = ([], [], 30) := by
    unfold unpackRes
    rw [numsC_lab, if_pos hl.out]
    rfl
  rw [e] at h
  have hB2 : Below (w.alloc o).heap.size (w.alloc o) ((w.alloc o).alloc (.cells #[.int .i64 1, .int .i64 1, .int .i64 8] 3)) := Below.new _ _
  exact h.mono fun e w' ⟨a, cap, he, _, hb⟩ => ⟨a, cap, he, by have := below_more hB2 hb; rwa [World.size_alloc] at this⟩
theorem refUnpack_ok (l : List UInt8) (hl : Hid (10 ≤ l.length)) (w : World) (o : Obj) :
    Calls Tryd.prog 32 #[.slice (some ⟨w.heap.size + 1, 0, none⟩) 3 3, .string (bs l)] ((w.alloc o).alloc (.cells #[.int .i64 1, .int .i64 1, .int .i64 8] 3)) fun e w' => ∃ (g o' cap : Nat), e = .returned (.tuple #[.slice (some ⟨g, o', none⟩) 3 cap, .string (bs (l.drop 10)), .int .i64 0]) ∧
      w'.cell? ⟨g, o', none⟩ = some (.int .u64 (dec 0 (l.take 1) : Nat)) ∧ w'.cell? ⟨g, o' + 1, none⟩ = some (.int .u64 (dec 0 ((l.drop 1).take 1) : Nat)) ∧ w'.cell? ⟨g, o' + 2, none⟩ = some (.int .u64 (dec 0 ((l.drop 2).take 8) : Nat)) ∧ Below (w.heap.size + 1) (w.alloc o) w' := by
  have h := refUnpack_any [1, 1, 8] (by simp) l (some ⟨w.heap.size + 1, 0, none⟩) 3 ((w.alloc o).alloc (.cells #[.int .i64 1, .int .i64 1, .int .i64 8] 3)) (slI3 (by simp) (by go_simp) (by go_simp) (by go_simp))
  have e : unpackRes [1, 1, 8] l = ([dec 0 (l.take 1), dec 0 ((l.drop 1).take 1), dec 0 ((l.drop 2).take 8)], l.drop 10, 0) := by
    have hl := hl.out
    have hz : numsC [1, 1, 8] l = 0 := by rw [numsC_lab, if_neg (show ¬ l.length < 10 by omega)]
    unfold unpackRes
    rw [if_pos hz, numsL_lab, numsR_lab]
  rw [e] at h
  have hB2 : Below (w.alloc o).heap.size (w.alloc o) ((w.alloc o).alloc (.cells #[.int .i64 1, .int .i64 1, .int .i64 8] 3)) := Below.new _ _
  refine h.mono fun e w' ⟨a, cap, he, hsl, hb⟩ => ?_
  obtain ⟨g, o, rfl, _, h0, h1, h2⟩ := slI3_inv hsl
  exact ⟨g, o, cap, he, h0, h1, h2, by have := below_more hB2 hb; rwa [World.size_alloc] at this⟩

set_option maxRecDepth 100000 in
set_option maxHeartbeats 1000000 in
theorem refGet_few (l : List UInt8) (hl : Hid (l.length < 10)) (w : World) : Calls Tryd.prog 14 #[.string (bs l)] w (GLPost (getR l) w) := by
  go_enter Tryd.func14, Tryd.ntmps14
  go_wp2_with (go_at_call 32; refine (refUnpack_few l hl w _).mono ?_)
  rintro e w1 ⟨a, cap, rfl, hb⟩
  have r0 : w1.cell? ⟨w.heap.size, 0, none⟩ = some (.int .i64 0) := (hb.cell (p := ⟨w.heap.size, 0, none⟩) (by simp)).trans (by simp)
  have fr0 : w1.frozen? ⟨w.heap.size, 0, none⟩ = false := (hb.frozen (p := ⟨w.heap.size, 0, none⟩) (by simp)).trans (by simp)
  have r1 : w1.cell? ⟨w.heap.size, 1, none⟩ = some (.int .u64 0) := (hb.cell (p := ⟨w.heap.size, 1, none⟩) (by simp)).trans (by simp)
  have fr1 : w1.frozen? ⟨w.heap.size, 1, none⟩ = false := (hb.frozen (p := ⟨w.heap.size, 1, none⟩) (by simp)).trans (by simp)
  have r2 : w1.cell? ⟨w.heap.size, 2, none⟩ = some (.int .i64 0) := (hb.cell (p := ⟨w.heap.size, 2, none⟩) (by simp)).trans (by simp)
  have fr2 : w1.frozen? ⟨w.heap.size, 2, none⟩ = false := (hb.frozen (p := ⟨w.heap.size, 2, none⟩) (by simp)).trans (by simp)
  have hB1 : Below w.heap.size w w1 := (Below.new w _).trans (hb.mono (by omega))
  obtain ⟨y0, y1, y2⟩ := set3S (u := .int .i64 0) (x := .int .u64 0) (y := .int .i64 0) r0 r1 r2
  have yB := set3B hB1 (Nat.le_refl _) (.int .i64 0) (.int .u64 0) (.int .i64 0)
  clear hb
  go_wp2
  generalize (((w1.setCell ⟨w.heap.size, 0, none⟩ (.int .i64 0)).setCell ⟨w.heap.size, 1, none⟩ (.int .u64 0)).setCell ⟨w.heap.size, 2, none⟩ (.int .i64 0)) = WF at y0 y1 y2 yB ⊢
  refine bodyPost_ret (v := .tuple #[.agg #[.int .i64 0, .int .u64 0, .int .i64 0], .string (bs []), .int .i64 30]) (by simp [results, Tryd.results14, go_sem, y0, y1, y2]; rfl) rfl ?_
  refine ⟨?_, yB⟩
  rw [getR_few hl.out]
  rfl

set_option maxRecDepth 100000 in
set_option maxHeartbeats 1000000 in
theorem refGet_bad (l : List UInt8) (hl : 10 ≤ l.length) (hr : (labOf l).right = false) (w : World) : Calls Tryd.prog 14 #[.string (bs l)] w (GLPost (getR l) w) := by
  obtain ⟨x0, e0⟩ : ∃ x, dec 0 (l.take 1) = x := ⟨_, rfl⟩
  obtain ⟨x1, e1⟩ : ∃ x, dec 0 ((l.drop 1).take 1) = x := ⟨_, rfl⟩
  obtain ⟨x2, e2⟩ : ∃ x, dec 0 ((l.drop 2).take 8) = x := ⟨_, rfl⟩
  have eL : labOf l = ⟨x0, x2, x1⟩ := by unfold labOf; rw [e0, e1, e2]
  have hx0 : x0 < 256 := by
    have h := dec_lt (l.take 1)
    rw [e0, List.length_take, Nat.min_eq_left (by omega)] at h
    simpa using h
  have hx1 : x1 < 256 := by
    have h := dec_lt ((l.drop 1).take 1)
    rw [e1, List.length_take, List.length_drop, Nat.min_eq_left (by omega)] at h
    simpa using h
  have u0 : IntKind.i64.wrap (x0 : Int) = (x0 : Int) := wrapI x0 hx0
  have u1 : IntKind.i64.wrap (x1 : Int) = (x1 : Int) := wrapI x1 hx1
  have hr2 := hr
  rw [eL] at hr2
  have HL := Lib.hid hl
  have HR := Lib.hid (And.intro hr2 (And.intro eL hr))
  have HE := Lib.hid (And.intro e0 (And.intro e1 e2))
  clear hl hr hr2 e0 e1 e2 eL hx0 hx1
  go_enter Tryd.func14, Tryd.ntmps14
  go_wp2_with (go_at_call 32; refine (refUnpack_ok l HL w _).mono ?_)
  rintro e w1 ⟨g, o, cap, rfl, d0, d1, d2, hb⟩
  rw [HE.out.1] at d0
  rw [HE.out.2.1] at d1
  rw [HE.out.2.2] at d2
  have r0 : w1.cell? ⟨w.heap.size, 0, none⟩ = some (.int .i64 0) := (hb.cell (p := ⟨w.heap.size, 0, none⟩) (by simp)).trans (by simp)
  have fr0 : w1.frozen? ⟨w.heap.size, 0, none⟩ = false := (hb.frozen (p := ⟨w.heap.size, 0, none⟩) (by simp)).trans (by simp)
  have r1 : w1.cell? ⟨w.heap.size, 1, none⟩ = some (.int .u64 0) := (hb.cell (p := ⟨w.heap.size, 1, none⟩) (by simp)).trans (by simp)
  have fr1 : w1.frozen? ⟨w.heap.size, 1, none⟩ = false := (hb.frozen (p := ⟨w.heap.size, 1, none⟩) (by simp)).trans (by simp)
  have r2 : w1.cell? ⟨w.heap.size, 2, none⟩ = some (.int .i64 0) := (hb.cell (p := ⟨w.heap.size, 2, none⟩) (by simp)).trans (by simp)
  have fr2 : w1.frozen? ⟨w.heap.size, 2, none⟩ = false := (hb.frozen (p := ⟨w.heap.size, 2, none⟩) (by simp)).trans (by simp)
  have hB1 : Below w.heap.size w w1 := (Below.new w _).trans (hb.mono (by omega))
  have hlt : w.heap.size < w1.heap.size := World.block_lt_of_cell? w1 _ r0
  have RR := Lib.hid (And.intro (And.intro r0 (And.intro r1 r2)) (And.intro fr0 (And.intro fr1 fr2)))
  clear hb r0 r1 r2 fr0 fr1 fr2
  have m0 : ∀ ob, (w1.alloc ob).cell? ⟨g, o, none⟩ = some (.int .u64 (x0 : Int)) := fun ob => cell_later (Below.new w1 ob) d0
  have m1 : ∀ ob, (w1.alloc ob).cell? ⟨g, o + 1, none⟩ = some (.int .u64 (x1 : Int)) := fun ob => cell_later (Below.new w1 ob) d1
  have m2 : ∀ ob, (w1.alloc ob).cell? ⟨g, o + 2, none⟩ = some (.int .u64 (x2 : Int)) := fun ob => cell_later (Below.new w1 ob) d2
  go_wp2
  go_region_held3 (fun w' => w'.cell? ⟨g, o, none⟩ = some (.int .u64 (x0 : Int)) ∧ w'.cell? ⟨g, o + 1, none⟩ = some (.int .u64 (x1 : Int)) ∧ w'.cell? ⟨g, o + 2, none⟩ = some (.int .u64 (x2 : Int)))
    (first | (simp only [World.cell?_drew, d0, d1, d2, m0, m1, m2, and_self]; done)) (fail)
  clear m0 m1 m2 d0 d1 d2
  go_wp2_with fail
  refine (Lb.refRight_any ⟨x0, x2, x1⟩ _).mono ?_
  rintro e w2 ⟨he, hb⟩
  rw [HR.out.1] at he
  subst he
  have a0 : w2.cell? ⟨w1.heap.size, 0, none⟩ = some (.int .i64 (x0 : Int)) := (hb.cell (p := ⟨w1.heap.size, 0, none⟩) (by simp)).trans (by simp)
  have a1 : w2.cell? ⟨w1.heap.size, 1, none⟩ = some (.int .u64 (x2 : Int)) := (hb.cell (p := ⟨w1.heap.size, 1, none⟩) (by simp)).trans (by simp)
  have a2 : w2.cell? ⟨w1.heap.size, 2, none⟩ = some (.int .i64 (x1 : Int)) := (hb.cell (p := ⟨w1.heap.size, 2, none⟩) (by simp)).trans (by simp)
  have hB12 : Below w1.heap.size w1 w2 := (below_drew (Below.new w1 _)).trans (hb.mono (by simp))
  have hB2 : Below w.heap.size w w2 := below_more hB1 hB12
  have r0 := cell_later hB12 RR.out.1.1
  have r1 := cell_later hB12 RR.out.1.2.1
  have r2 := cell_later hB12 RR.out.1.2.2
  have fr0 := (hB12.frozen (p := ⟨w.heap.size, 0, none⟩) hlt).trans RR.out.2.1
  have fr1 := (hB12.frozen (p := ⟨w.heap.size, 1, none⟩) hlt).trans RR.out.2.2.1
  have fr2 := (hB12.frozen (p := ⟨w.heap.size, 2, none⟩) hlt).trans RR.out.2.2.2
  clear hb
  obtain ⟨y0, y1, y2⟩ := set3S (u := .int .i64 0) (x := .int .u64 0) (y := .int .i64 0) r0 r1 r2
  have yB := set3B hB2 (Nat.le_refl _) (.int .i64 0) (.int .u64 0) (.int .i64 0)
  go_wp2
  generalize (((w2.setCell ⟨w.heap.size, 0, none⟩ (.int .i64 0)).setCell ⟨w.heap.size, 1, none⟩ (.int .u64 0)).setCell ⟨w.heap.size, 2, none⟩ (.int .i64 0)) = WF at y0 y1 y2 yB ⊢
  refine bodyPost_ret (v := .tuple #[.agg #[.int .i64 0, .int .u64 0, .int .i64 0], .string (bs []), .int .i64 40]) (by simp [results, Tryd.results14, go_sem, y0, y1, y2]; rfl) rfl ?_
  refine ⟨?_, yB⟩
  rw [getR_bad HL.out HR.out.2.2]
  rfl

set_option maxRecDepth 100000 in
set_option maxHeartbeats 1000000 in
theorem refGetL_ok (l : List UInt8) (hl : 10 ≤ l.length) (hr : (labOf l).right = true) (w : World) : Calls Tryd.prog 14 #[.string (bs l)] w (GLPost (getR l) w) := by
  obtain ⟨x0, e0⟩ : ∃ x, dec 0 (l.take 1) = x := ⟨_, rfl⟩
  obtain ⟨x1, e1⟩ : ∃ x, dec 0 ((l.drop 1).take 1) = x := ⟨_, rfl⟩
  obtain ⟨x2, e2⟩ : ∃ x, dec 0 ((l.drop 2).take 8) = x := ⟨_, rfl⟩
  have eL : labOf l = ⟨x0, x2, x1⟩ := by unfold labOf; rw [e0, e1, e2]
  have hx0 : x0 < 256 := by
    have h := dec_lt (l.take 1)
    rw [e0, List.length_take, Nat.min_eq_left (by omega)] at h
    simpa using h
  have hx1 : x1 < 256 := by
    have h := dec_lt ((l.drop 1).take 1)
    rw [e1, List.length_take, List.length_drop, Nat.min_eq_left (by omega)] at h
    simpa using h
  have u0 : IntKind.i64.wrap (x0 : Int) = (x0 : Int) := wrapI x0 hx0
  have u1 : IntKind.i64.wrap (x1 : Int) = (x1 : Int) := wrapI x1 hx1
  have hr2 := hr
  rw [eL] at hr2
  have HL := Lib.hid hl
  have HR := Lib.hid (And.intro hr2 (And.intro eL hr))
  have HE := Lib.hid (And.intro e0 (And.intro e1 e2))
  clear hl hr hr2 e0 e1 e2 eL hx0 hx1
  go_enter Tryd.func14, Tryd.ntmps14
  go_wp2_with (go_at_call 32; refine (refUnpack_ok l HL w _).mono ?_)
  rintro e w1 ⟨g, o, cap, rfl, d0, d1, d2, hb⟩
  rw [HE.out.1] at d0
  rw [HE.out.2.1] at d1
  rw [HE.out.2.2] at d2
  have r0 : w1.cell? ⟨w.heap.size, 0, none⟩ = some (.int .i64 0) := (hb.cell (p := ⟨w.heap.size, 0, none⟩) (by simp)).trans (by simp)
  have fr0 : w1.frozen? ⟨w.heap.size, 0, none⟩ = false := (hb.frozen (p := ⟨w.heap.size, 0, none⟩) (by simp)).trans (by simp)
  have r1 : w1.cell? ⟨w.heap.size, 1, none⟩ = some (.int .u64 0) := (hb.cell (p := ⟨w.heap.size, 1, none⟩) (by simp)).trans (by simp)
  have fr1 : w1.frozen? ⟨w.heap.size, 1, none⟩ = false := (hb.frozen (p := ⟨w.heap.size, 1, none⟩) (by simp)).trans (by simp)
  have r2 : w1.cell? ⟨w.heap.size, 2, none⟩ = some (.int .i64 0) := (hb.cell (p := ⟨w.heap.size, 2, none⟩) (by simp)).trans (by simp)
  have fr2 : w1.frozen? ⟨w.heap.size, 2, none⟩ = false := (hb.frozen (p := ⟨w.heap.size, 2, none⟩) (by simp)).trans (by simp)
  have hB1 : Below w.heap.size w w1 := (Below.new w _).trans (hb.mono (by omega))
  have hlt : w.heap.size < w1.heap.size := World.block_lt_of_cell? w1 _ r0
  have RR := Lib.hid (And.intro (And.intro r0 (And.intro r1 r2)) (And.intro fr0 (And.intro fr1 fr2)))
  clear hb r0 r1 r2 fr0 fr1 fr2
  have m0 : ∀ ob, (w1.alloc ob).cell? ⟨g, o, none⟩ = some (.int .u64 (x0 : Int)) := fun ob => cell_later (Below.new w1 ob) d0
  have m1 : ∀ ob, (w1.alloc ob).cell? ⟨g, o + 1, none⟩ = some (.int .u64 (x1 : Int)) := fun ob => cell_later (Below.new w1 ob) d1
  have m2 : ∀ ob, (w1.alloc ob).cell? ⟨g, o + 2, none⟩ = some (.int .u64 (x2 : Int)) := fun ob => cell_later (Below.new w1 ob) d2
  go_wp2
  go_region_held3 (fun w' => w'.cell? ⟨g, o, none⟩ = some (.int .u64 (x0 : Int)) ∧ w'.cell? ⟨g, o + 1, none⟩ = some (.int .u64 (x1 : Int)) ∧ w'.cell? ⟨g, o + 2, none⟩ = some (.int .u64 (x2 : Int)))
    (first | (simp only [World.cell?_drew, d0, d1, d2, m0, m1, m2, and_self]; done)) (fail)
  clear m0 m1 m2 d0 d1 d2
  go_wp2_with fail
  refine (Lb.refRight_any ⟨x0, x2, x1⟩ _).mono ?_
  rintro e w2 ⟨he, hb⟩
  rw [HR.out.1] at he
  subst he
  have a0 : w2.cell? ⟨w1.heap.size, 0, none⟩ = some (.int .i64 (x0 : Int)) := (hb.cell (p := ⟨w1.heap.size, 0, none⟩) (by simp)).trans (by simp)
  have a1 : w2.cell? ⟨w1.heap.size, 1, none⟩ = some (.int .u64 (x2 : Int)) := (hb.cell (p := ⟨w1.heap.size, 1, none⟩) (by simp)).trans (by simp)
  have a2 : w2.cell? ⟨w1.heap.size, 2, none⟩ = some (.int .i64 (x1 : Int)) := (hb.cell (p := ⟨w1.heap.size, 2, none⟩) (by simp)).trans (by simp)
  have hB12 : Below w1.heap.size w1 w2 := (below_drew (Below.new w1 _)).trans (hb.mono (by simp))
  have hB2 : Below w.heap.size w w2 := below_more hB1 hB12
  have r0 := cell_later hB12 RR.out.1.1
  have r1 := cell_later hB12 RR.out.1.2.1
  have r2 := cell_later hB12 RR.out.1.2.2
  have fr0 := (hB12.frozen (p := ⟨w.heap.size, 0, none⟩) hlt).trans RR.out.2.1
  have fr1 := (hB12.frozen (p := ⟨w.heap.size, 1, none⟩) hlt).trans RR.out.2.2.1
  have fr2 := (hB12.frozen (p := ⟨w.heap.size, 2, none⟩) hlt).trans RR.out.2.2.2
  clear hb
  obtain ⟨y0, y1, y2⟩ := set3S (u := .int .i64 (x0 : Int)) (x := .int .u64 (x2 : Int)) (y := .int .i64 (x1 : Int)) r0 r1 r2
  have yB := set3B hB2 (Nat.le_refl _) (.int .i64 (x0 : Int)) (.int .u64 (x2 : Int)) (.int .i64 (x1 : Int))
  go_wp2
  generalize (((w2.setCell ⟨w.heap.size, 0, none⟩ (.int .i64 (x0 : Int))).setCell ⟨w.heap.size, 1, none⟩ (.int .u64 (x2 : Int))).setCell ⟨w.heap.size, 2, none⟩ (.int .i64 (x1 : Int))) = WF at y0 y1 y2 yB ⊢
  refine bodyPost_ret (v := .tuple #[.agg #[.int .i64 (x0 : Int), .int .u64 (x2 : Int), .int .i64 (x1 : Int)], .string (bs (l.drop 10)), .int .i64 0]) (by simp [results, Tryd.results14, go_sem, y0, y1, y2]) rfl ?_
  refine ⟨?_, yB⟩
  rw [getR_ok HL.out HR.out.2.2, HR.out.2.1]

theorem refGetL_any (l : List UInt8) (w : World) : Calls Tryd.prog 14 #[.string (bs l)] w (GLPost (getR l) w) := by
  by_cases h : l.length < 10
  · exact refGet_few l (Lib.hid h) w
  · cases hr : (labOf l).right
    · exact refGet_bad l (by omega) hr w
    · exact refGetL_ok l (by omega) hr w

end Go.Proofs.YtfpjbefhfkembaaDoor

/- The document's own PutRange, GetRange. -/
namespace Go.Proofs.YtfpjbefhfkembaaDoor
open Go.RowKit Go.Shelf Go.Proofs.Fld Go.Proofs.Cats Go.Proofs.Lcd

set_option maxRecDepth 100000 in
set_option maxHeartbeats 1000000 in
theorem refPR_1 (a b : Lab) (ha : a.fits) (hb : b.fits) (h1 : a.right = false) (h2 : True) (w : World) (_hg : Lb.ErrT w) : Calls Tryd.prog 16 #[.agg #[.int .i64 a.l, .int .u64 a.c, .int .i64 a.i], .agg #[.int .i64 b.l, .int .u64 b.c, .int .i64 b.i]] w (SC (putRangeR a b) w) := by
  have hB : Below w.heap.size w ((w.alloc (.cells #[.int .i64 a.l, .int .u64 a.c, .int .i64 a.i] 24)).alloc (.cells #[.int .i64 b.l, .int .u64 b.c, .int .i64 b.i] 24)) := (Below.new w _).alloc (by simp) _
  have H1 := Lib.hid h1
  have H2 := Lib.hid h2
  clear h1 h2
  go_enter Tryd.func16, Tryd.ntmps16
  go_wp2_with (go_at_call 11; refine (refPutL_any a ha _).mono ?_)
  rintro e w1 ⟨he, b1⟩
  have he1 : e = .returned (.tuple #[.string (bs []), .int .i64 20]) := by rw [he, putR_no H1.out]
  subst he1
  clear he
  have c0 : w1.cell? ⟨w.heap.size, 0, none⟩ = some (.int .i64 a.l) := cell_later b1 (by go_simp)
  have c1 : w1.cell? ⟨w.heap.size, 1, none⟩ = some (.int .u64 a.c) := cell_later b1 (by go_simp)
  have c2 : w1.cell? ⟨w.heap.size, 2, none⟩ = some (.int .i64 a.i) := cell_later b1 (by go_simp)
  have d0 : w1.cell? ⟨w.heap.size + 1, 0, none⟩ = some (.int .i64 b.l) := cell_later b1 (by go_simp)
  have d1 : w1.cell? ⟨w.heap.size + 1, 1, none⟩ = some (.int .u64 b.c) := cell_later b1 (by go_simp)
  have d2 : w1.cell? ⟨w.heap.size + 1, 2, none⟩ = some (.int .i64 b.i) := cell_later b1 (by go_simp)
  have b2 := below_more hB b1
  go_wp2_with (go_at_call 11; refine (refPutL_any b hb w1).mono ?_)
  rintro e w2 ⟨he, b3⟩
  obtain ⟨q, hq⟩ : ∃ q, putR b = q := ⟨_, rfl⟩
  rw [hq] at he
  subst he
  clear hq
  go_wp2
  go_ret2
  refine ⟨?_, below_more b2 b3⟩
  unfold putRangeR
  rw [if_neg (by rw [H1.out]; simp)]
  rfl

set_option maxRecDepth 100000 in
set_option maxHeartbeats 1000000 in
theorem refPR_2 (a b : Lab) (ha : a.fits) (hb : b.fits) (h1 : a.right = true) (h2 : b.right = false) (w : World) (_hg : Lb.ErrT w) : Calls Tryd.prog 16 #[.agg #[.int .i64 a.l, .int .u64 a.c, .int .i64 a.i], .agg #[.int .i64 b.l, .int .u64 b.c, .int .i64 b.i]] w (SC (putRangeR a b) w) := by
  have hB : Below w.heap.size w ((w.alloc (.cells #[.int .i64 a.l, .int .u64 a.c, .int .i64 a.i] 24)).alloc (.cells #[.int .i64 b.l, .int .u64 b.c, .int .i64 b.i] 24)) := (Below.new w _).alloc (by simp) _
  have H1 := Lib.hid h1
  have H2 := Lib.hid h2
  clear h1 h2
  go_enter Tryd.func16, Tryd.ntmps16
  go_wp2_with (go_at_call 11; refine (refPutL_any a ha _).mono ?_)
  rintro e w1 ⟨he, b1⟩
  have he1 : e = .returned (.tuple #[.string (bs (labB a)), .int .i64 0]) := by rw [he, putR_ok H1.out]
  subst he1
  clear he
  have c0 : w1.cell? ⟨w.heap.size, 0, none⟩ = some (.int .i64 a.l) := cell_later b1 (by go_simp)
  have c1 : w1.cell? ⟨w.heap.size, 1, none⟩ = some (.int .u64 a.c) := cell_later b1 (by go_simp)
  have c2 : w1.cell? ⟨w.heap.size, 2, none⟩ = some (.int .i64 a.i) := cell_later b1 (by go_simp)
  have d0 : w1.cell? ⟨w.heap.size + 1, 0, none⟩ = some (.int .i64 b.l) := cell_later b1 (by go_simp)
  have d1 : w1.cell? ⟨w.heap.size + 1, 1, none⟩ = some (.int .u64 b.c) := cell_later b1 (by go_simp)
  have d2 : w1.cell? ⟨w.heap.size + 1, 2, none⟩ = some (.int .i64 b.i) := cell_later b1 (by go_simp)
  have b2 := below_more hB b1
  go_wp2_with (go_at_call 11; refine (refPutL_any b hb w1).mono ?_)
  rintro e w2 ⟨he, b3⟩
  have he2 : e = .returned (.tuple #[.string (bs []), .int .i64 20]) := by rw [he, putR_no H2.out]
  subst he2
  clear he
  go_wp2
  go_ret2
  refine ⟨?_, below_more b2 b3⟩
  unfold putRangeR
  rw [if_neg (by rw [H2.out]; simp)]
  rfl

set_option maxRecDepth 100000 in
set_option maxHeartbeats 1000000 in
theorem refPR_3 (a b : Lab) (ha : a.fits) (hb : b.fits) (h1 : a.right = true) (h2 : b.right = true) (w : World) (hg : Lb.ErrT w) : Calls Tryd.prog 16 #[.agg #[.int .i64 a.l, .int .u64 a.c, .int .i64 a.i], .agg #[.int .i64 b.l, .int .u64 b.c, .int .i64 b.i]] w (SC (putRangeR a b) w) := by
  have hB : Below w.heap.size w ((w.alloc (.cells #[.int .i64 a.l, .int .u64 a.c, .int .i64 a.i] 24)).alloc (.cells #[.int .i64 b.l, .int .u64 b.c, .int .i64 b.i] 24)) := (Below.new w _).alloc (by simp) _
  have H1 := Lib.hid h1
  have H2 := Lib.hid h2
  clear h1 h2
  go_enter Tryd.func16, Tryd.ntmps16
  go_wp2_with (go_at_call 11; refine (refPutL_any a ha _).mono ?_)
  rintro e w1 ⟨he, b1⟩
  have he1 : e = .returned (.tuple #[.string (bs (labB a)), .int .i64 0]) := by rw [he, putR_ok H1.out]
  subst he1
  clear he
  have c0 : w1.cell? ⟨w.heap.size, 0, none⟩ = some (.int .i64 a.l) := cell_later b1 (by go_simp)
  have c1 : w1.cell? ⟨w.heap.size, 1, none⟩ = some (.int .u64 a.c) := cell_later b1 (by go_simp)
  have c2 : w1.cell? ⟨w.heap.size, 2, none⟩ = some (.int .i64 a.i) := cell_later b1 (by go_simp)
  have d0 : w1.cell? ⟨w.heap.size + 1, 0, none⟩ = some (.int .i64 b.l) := cell_later b1 (by go_simp)
  have d1 : w1.cell? ⟨w.heap.size + 1, 1, none⟩ = some (.int .u64 b.c) := cell_later b1 (by go_simp)
  have d2 : w1.cell? ⟨w.heap.size + 1, 2, none⟩ = some (.int .i64 b.i) := cell_later b1 (by go_simp)
  have b2 := below_more hB b1
  go_wp2_with (go_at_call 11; refine (refPutL_any b hb w1).mono ?_)
  rintro e w2 ⟨he, b3⟩
  have he2 : e = .returned (.tuple #[.string (bs (labB b)), .int .i64 0]) := by rw [he, putR_ok H2.out]
  subst he2
  clear he
  have b4 := below_more b2 b3
  replace c0 := cell_later b3 c0
  replace c1 := cell_later b3 c1
  replace c2 := cell_later b3 c2
  replace d0 := cell_later b3 d0
  replace d1 := cell_later b3 d1
  replace d2 := cell_later b3 d2
  have za : (bs (labB a)).size = 10 := by rw [bs_size, labB_length]
  have zb : (bs (labB b)).size = 10 := by rw [bs_size, labB_length]
  have hap := bs_append (labB a) (labB b)
  cases hu : a.under b
  · have HU := Lib.hid hu
    clear hu
    go_wp2_with (go_at_call 34; refine (Lb.refUnder_any a b ha hb w2 (hg.more b4)).mono ?_)
    rintro e w3 ⟨he, b5⟩
    rw [HU.out] at he
    subst he
    go_wp2
    go_ret2
    refine ⟨?_, below_more b4 b5⟩
    unfold putRangeR
    rw [if_pos (by rw [H1.out, H2.out]; rfl), if_neg (by rw [HU.out]; decide)]
    rfl
  · have HU := Lib.hid hu
    clear hu
    go_wp2_with (go_at_call 34; refine (Lb.refUnder_any a b ha hb w2 (hg.more b4)).mono ?_)
    rintro e w3 ⟨he, b5⟩
    rw [HU.out] at he
    subst he
    go_wp2
    go_ret2
    refine ⟨?_, below_more b4 b5⟩
    unfold putRangeR
    rw [if_pos (by rw [H1.out, H2.out]; rfl), if_pos HU.out]
    rfl

theorem refPutRange_any (a b : Lab) (ha : a.fits) (hb : b.fits) (w : World) (hg : Lb.ErrT w) : Calls Tryd.prog 16 #[.agg #[.int .i64 a.l, .int .u64 a.c, .int .i64 a.i], .agg #[.int .i64 b.l, .int .u64 b.c, .int .i64 b.i]] w (SC (putRangeR a b) w) := by
  cases h1 : a.right
  · exact refPR_1 a b ha hb h1 trivial w hg
  · cases h2 : b.right
    · exact refPR_2 a b ha hb h1 h2 w hg
    · exact refPR_3 a b ha hb h1 h2 w hg

set_option maxRecDepth 100000 in
set_option maxHeartbeats 2000000 in
theorem refGR_1 (l : List UInt8) (h1 : (getR l).2.2 ≠ 0) (w : World) (_hg : Lb.ErrT w) : Calls Tryd.prog 18 #[.string (bs l)] w (GRPost (getRangeR l) w) := by
  have hn1 := Below.new (w.alloc (.cells #[.int .i64 0, .int .u64 0, .int .i64 0] 24)) (.cells #[.int .i64 0, .int .u64 0, .int .i64 0] 24)
  have hB := below_more (Below.new w (.cells #[.int .i64 0, .int .u64 0, .int .i64 0] 24)) hn1
  have triA := (tri_new w 24 (.int .i64 0) (.int .u64 0) (.int .i64 0)).below hn1
  have triB := tri_new (w.alloc (.cells #[.int .i64 0, .int .u64 0, .int .i64 0] 24)) 24 (.int .i64 0) (.int .u64 0) (.int .i64 0)
  rw [World.size_alloc] at triB
  have H1 := Lib.hid h1
  clear h1
  clear hn1
  go_enter Tryd.func18, Tryd.ntmps18
  go_wp2_with (go_at_call 14; refine (refGetL_any l _).mono ?_)
  rintro e w1 ⟨he, hb⟩
  have hb1 := below_more hB hb
  have triA1 := triA.below hb
  have triB1 := triB.below hb
  obtain ⟨c, hc⟩ : ∃ c, (getR l).2.2 = c := ⟨_, rfl⟩
  have he2 : e = .returned (.tuple #[.agg #[.int .i64 0, .int .u64 0, .int .i64 0], .string (bs []), .int .i64 c]) := by rw [he, getR_err H1.out, hc]; rfl
  subst he2
  have hcn : (c != 0) = true := by rw [← hc]; simpa using H1.out
  have HC := Lib.hid hc
  have hn2 := Below.new w1 (.cells #[.int .i64 0, .int .u64 0, .int .i64 0] 24)
  have tA := triA1.below hn2
  have tB := triB1.below hn2
  have hbW := below_more hb1 hn2
  clear he hc triA triB triA1 triB1 hn2 hb
  have hne : w.heap.size ≠ w.heap.size + 1 := by omega
  have tB2 := tB.set (u0 := .int .i64 0) (u1 := .int .u64 0) (u2 := .int .i64 0) hne
  obtain ⟨x0, x1, x2⟩ := set3S (u := .int .i64 0) (x := .int .u64 0) (y := .int .i64 0) tA.c0 tA.c1 tA.c2
  have yB := set3B (set3B hbW (Nat.le_refl _) (.int .i64 0) (.int .u64 0) (.int .i64 0)) (b := w.heap.size + 1) (by omega) (.int .i64 0) (.int .u64 0) (.int .i64 0)
  obtain ⟨y3, y4, y5⟩ := set3S (u := .int .i64 0) (x := .int .u64 0) (y := .int .i64 0) tB2.c0 tB2.c1 tB2.c2
  have y0 := set3O (b := w.heap.size + 1) (u := .int .i64 0) (x := .int .u64 0) (y := .int .i64 0) x0 (by omega)
  have y1 := set3O (b := w.heap.size + 1) (u := .int .i64 0) (x := .int .u64 0) (y := .int .i64 0) x1 (by omega)
  have y2 := set3O (b := w.heap.size + 1) (u := .int .i64 0) (x := .int .u64 0) (y := .int .i64 0) x2 (by omega)
  have c0 := tA.c0
  have c1 := tA.c1
  have c2 := tA.c2
  have f0 := tA.f0
  have f1 := tA.f1
  have f2 := tA.f2
  have e0 := tB.c0
  have e1 := tB.c1
  have e2 := tB.c2
  have g0 := tB.f0
  have g1 := tB.f1
  have g2 := tB.f2
  have m0 := tB2.c0
  have m1 := tB2.c1
  have m2 := tB2.c2
  have n0 := tB2.f0
  have n1 := tB2.f1
  have n2 := tB2.f2
  clear tA tB tB2 x0 x1 x2
  go_wp2
  generalize (((((((w1.alloc (.cells #[.int .i64 0, .int .u64 0, .int .i64 0] 24)).setCell ⟨w.heap.size, 0, none⟩ (.int .i64 0)).setCell ⟨w.heap.size, 1, none⟩ (.int .u64 0)).setCell ⟨w.heap.size, 2, none⟩ (.int .i64 0)).setCell ⟨w.heap.size + 1, 0, none⟩ (.int .i64 0)).setCell ⟨w.heap.size + 1, 1, none⟩ (.int .u64 0)).setCell ⟨w.heap.size + 1, 2, none⟩ (.int .i64 0)) = WF at y0 y1 y2 y3 y4 y5 yB ⊢
  refine bodyPost_ret (v := .tuple #[.agg #[.int .i64 0, .int .u64 0, .int .i64 0], .agg #[.int .i64 0, .int .u64 0, .int .i64 0], .string (bs []), .int .i64 c]) (by simp [results, Tryd.results18, go_sem, y0, y1, y2, y3, y4, y5]; rfl) rfl ?_
  refine ⟨?_, yB⟩
  rw [rangeR_1 H1.out, HC.out]
  rfl

set_option maxRecDepth 100000 in
set_option maxHeartbeats 2000000 in
theorem refGR_2 (l : List UInt8) (h1 : (getR l).2.2 = 0) (h2 : (getR (getR l).2.1).2.2 ≠ 0) (w : World) (_hg : Lb.ErrT w) : Calls Tryd.prog 18 #[.string (bs l)] w (GRPost (getRangeR l) w) := by
  have hn1 := Below.new (w.alloc (.cells #[.int .i64 0, .int .u64 0, .int .i64 0] 24)) (.cells #[.int .i64 0, .int .u64 0, .int .i64 0] 24)
  have hB := below_more (Below.new w (.cells #[.int .i64 0, .int .u64 0, .int .i64 0] 24)) hn1
  have triA := (tri_new w 24 (.int .i64 0) (.int .u64 0) (.int .i64 0)).below hn1
  have triB := tri_new (w.alloc (.cells #[.int .i64 0, .int .u64 0, .int .i64 0] 24)) 24 (.int .i64 0) (.int .u64 0) (.int .i64 0)
  rw [World.size_alloc] at triB
  have H1 := Lib.hid h1
  have H2 := Lib.hid h2
  clear h1 h2
  clear hn1
  go_enter Tryd.func18, Tryd.ntmps18
  go_wp2_with (go_at_call 14; refine (refGetL_any l _).mono ?_)
  rintro e w1 ⟨he, hb⟩
  have hb1 := below_more hB hb
  have triA1 := triA.below hb
  have triB1 := triB.below hb
  obtain ⟨a, hae⟩ : ∃ a, (getR l).1 = a := ⟨_, rfl⟩
  obtain ⟨r, hre⟩ : ∃ r, (getR l).2.1 = r := ⟨_, rfl⟩
  have he2 : e = .returned (.tuple #[.agg #[.int .i64 a.l, .int .u64 a.c, .int .i64 a.i], .string (bs r), .int .i64 0]) := by rw [he, hae, hre, H1.out]
  subst he2
  have hn2 := Below.new w1 (.cells #[.int .i64 a.l, .int .u64 a.c, .int .i64 a.i] 24)
  have tl := tri_new w1 24 (.int .i64 a.l) (.int .u64 a.c) (.int .i64 a.i)
  have hb2 := below_more hb1 hn2
  have HT := Lib.hid (And.intro (triA1.below hn2) (And.intro (triB1.below hn2) tl))
  have HA := Lib.hid (And.intro hae (And.intro hre (show a.fits from hae ▸ getR_fits l)))
  have hl1 := World.block_lt_of_cell? _ _ tl.c0
  clear he triA triB triA1 triB1 hn2 hb tl hae hre
  go_wp2_with (go_at_call 14; refine (refGetL_any r _).mono ?_)
  rintro e w2 ⟨he, hb⟩
  have hb3 := below_more hb2 hb
  have tA1 := HT.out.1.below hb
  have tB1 := HT.out.2.1.below hb
  have tl1 := HT.out.2.2.below hb
  have hr2 : (getR r).2.2 ≠ 0 := by rw [← HA.out.2.1]; exact H2.out
  obtain ⟨c, hc⟩ : ∃ c, (getR r).2.2 = c := ⟨_, rfl⟩
  have he2 : e = .returned (.tuple #[.agg #[.int .i64 0, .int .u64 0, .int .i64 0], .string (bs []), .int .i64 c]) := by rw [he, getR_err hr2, hc]; rfl
  subst he2
  have hcn : (c != 0) = true := by rw [← hc]; simpa using hr2
  have HC := Lib.hid hc
  have hn3 := Below.new w2 (.cells #[.int .i64 0, .int .u64 0, .int .i64 0] 24)
  have tA := tA1.below hn3
  have tB := tB1.below hn3
  have hbW := below_more hb3 hn3
  clear he hc tA1 tB1 tl1 hn3 hb hr2
  have hne : w.heap.size ≠ w.heap.size + 1 := by omega
  have tB2 := tB.set (u0 := .int .i64 0) (u1 := .int .u64 0) (u2 := .int .i64 0) hne
  obtain ⟨x0, x1, x2⟩ := set3S (u := .int .i64 0) (x := .int .u64 0) (y := .int .i64 0) tA.c0 tA.c1 tA.c2
  have yB := set3B (set3B hbW (Nat.le_refl _) (.int .i64 0) (.int .u64 0) (.int .i64 0)) (b := w.heap.size + 1) (by omega) (.int .i64 0) (.int .u64 0) (.int .i64 0)
  obtain ⟨y3, y4, y5⟩ := set3S (u := .int .i64 0) (x := .int .u64 0) (y := .int .i64 0) tB2.c0 tB2.c1 tB2.c2
  have y0 := set3O (b := w.heap.size + 1) (u := .int .i64 0) (x := .int .u64 0) (y := .int .i64 0) x0 (by omega)
  have y1 := set3O (b := w.heap.size + 1) (u := .int .i64 0) (x := .int .u64 0) (y := .int .i64 0) x1 (by omega)
  have y2 := set3O (b := w.heap.size + 1) (u := .int .i64 0) (x := .int .u64 0) (y := .int .i64 0) x2 (by omega)
  have c0 := tA.c0
  have c1 := tA.c1
  have c2 := tA.c2
  have f0 := tA.f0
  have f1 := tA.f1
  have f2 := tA.f2
  have e0 := tB.c0
  have e1 := tB.c1
  have e2 := tB.c2
  have g0 := tB.f0
  have g1 := tB.f1
  have g2 := tB.f2
  have m0 := tB2.c0
  have m1 := tB2.c1
  have m2 := tB2.c2
  have n0 := tB2.f0
  have n1 := tB2.f1
  have n2 := tB2.f2
  clear tA tB tB2 x0 x1 x2
  go_wp2
  generalize (((((((w2.alloc (.cells #[.int .i64 0, .int .u64 0, .int .i64 0] 24)).setCell ⟨w.heap.size, 0, none⟩ (.int .i64 0)).setCell ⟨w.heap.size, 1, none⟩ (.int .u64 0)).setCell ⟨w.heap.size, 2, none⟩ (.int .i64 0)).setCell ⟨w.heap.size + 1, 0, none⟩ (.int .i64 0)).setCell ⟨w.heap.size + 1, 1, none⟩ (.int .u64 0)).setCell ⟨w.heap.size + 1, 2, none⟩ (.int .i64 0)) = WF at y0 y1 y2 y3 y4 y5 yB ⊢
  refine bodyPost_ret (v := .tuple #[.agg #[.int .i64 0, .int .u64 0, .int .i64 0], .agg #[.int .i64 0, .int .u64 0, .int .i64 0], .string (bs []), .int .i64 c]) (by simp [results, Tryd.results18, go_sem, y0, y1, y2, y3, y4, y5]; rfl) rfl ?_
  refine ⟨?_, yB⟩
  rw [rangeR_2 H1.out H2.out, HA.out.2.1, HC.out]
  rfl

set_option maxRecDepth 100000 in
set_option maxHeartbeats 2000000 in
theorem refGR_3 (l : List UInt8) (h1 : (getR l).2.2 = 0) (h2 : (getR (getR l).2.1).2.2 = 0) (h3 : (getR l).1.under (getR (getR l).2.1).1 = false) (w : World) (hg : Lb.ErrT w) : Calls Tryd.prog 18 #[.string (bs l)] w (GRPost (getRangeR l) w) := by
  have hn1 := Below.new (w.alloc (.cells #[.int .i64 0, .int .u64 0, .int .i64 0] 24)) (.cells #[.int .i64 0, .int .u64 0, .int .i64 0] 24)
  have hB := below_more (Below.new w (.cells #[.int .i64 0, .int .u64 0, .int .i64 0] 24)) hn1
  have triA := (tri_new w 24 (.int .i64 0) (.int .u64 0) (.int .i64 0)).below hn1
  have triB := tri_new (w.alloc (.cells #[.int .i64 0, .int .u64 0, .int .i64 0] 24)) 24 (.int .i64 0) (.int .u64 0) (.int .i64 0)
  rw [World.size_alloc] at triB
  have H1 := Lib.hid h1
  have H2 := Lib.hid h2
  have H3 := Lib.hid h3
  clear h1 h2 h3
  clear hn1
  go_enter Tryd.func18, Tryd.ntmps18
  go_wp2_with (go_at_call 14; refine (refGetL_any l _).mono ?_)
  rintro e w1 ⟨he, hb⟩
  have hb1 := below_more hB hb
  have triA1 := triA.below hb
  have triB1 := triB.below hb
  obtain ⟨a, hae⟩ : ∃ a, (getR l).1 = a := ⟨_, rfl⟩
  obtain ⟨r, hre⟩ : ∃ r, (getR l).2.1 = r := ⟨_, rfl⟩
  have he2 : e = .returned (.tuple #[.agg #[.int .i64 a.l, .int .u64 a.c, .int .i64 a.i], .string (bs r), .int .i64 0]) := by rw [he, hae, hre, H1.out]
  subst he2
  have hn2 := Below.new w1 (.cells #[.int .i64 a.l, .int .u64 a.c, .int .i64 a.i] 24)
  have tl := tri_new w1 24 (.int .i64 a.l) (.int .u64 a.c) (.int .i64 a.i)
  have hb2 := below_more hb1 hn2
  have HT := Lib.hid (And.intro (triA1.below hn2) (And.intro (triB1.below hn2) tl))
  have HA := Lib.hid (And.intro hae (And.intro hre (show a.fits from hae ▸ getR_fits l)))
  have hl1 := World.block_lt_of_cell? _ _ tl.c0
  clear he triA triB triA1 triB1 hn2 hb tl hae hre
  go_wp2_with (go_at_call 14; refine (refGetL_any r _).mono ?_)
  rintro e w2 ⟨he, hb⟩
  have hb3 := below_more hb2 hb
  have tA1 := HT.out.1.below hb
  have tB1 := HT.out.2.1.below hb
  have tl1 := HT.out.2.2.below hb
  obtain ⟨b, hbe⟩ : ∃ b, (getR r).1 = b := ⟨_, rfl⟩
  obtain ⟨q, hqe⟩ : ∃ q, (getR r).2.1 = q := ⟨_, rfl⟩
  have hr2 : (getR r).2.2 = 0 := by rw [← HA.out.2.1]; exact H2.out
  have he2 : e = .returned (.tuple #[.agg #[.int .i64 b.l, .int .u64 b.c, .int .i64 b.i], .string (bs q), .int .i64 0]) := by rw [he, hbe, hqe, hr2]
  subst he2
  have hn3 := Below.new w2 (.cells #[.int .i64 b.l, .int .u64 b.c, .int .i64 b.i] 24)
  have tm := tri_new w2 24 (.int .i64 b.l) (.int .u64 b.c) (.int .i64 b.i)
  have hb4 := below_more hb3 hn3
  have tl2 := tl1.below hn3
  have HT2 := Lib.hid (And.intro (And.intro (tA1.below hn3) (tB1.below hn3)) (And.intro tl2 tm))
  have HB := Lib.hid (And.intro hbe (And.intro hqe (And.intro (show b.fits from hbe ▸ getR_fits r) hr2)))
  have hl2 := World.block_lt_of_cell? _ _ tl1.c0
  have l0 := tl2.c0
  have l1 := tl2.c1
  have l2 := tl2.c2
  have hE := hg.more hb4
  clear he tA1 tB1 tl1 hn3 hb tm hbe hqe hr2 tl2
  go_wp2_with (go_at_call 34; refine (Lb.refUnder_any a b HA.out.2.2 HB.out.2.2.1 _ hE).mono ?_)
  rintro e w3 ⟨he, hb⟩
  have hun := H3.out
  rw [HA.out.1, HA.out.2.1, HB.out.1] at hun
  rw [hun] at he
  subst he
  have tA := HT2.out.1.1.below hb
  have tB := HT2.out.1.2.below hb
  have hbW := below_more hb4 hb
  replace l0 := cell_later hb l0
  replace l1 := cell_later hb l1
  replace l2 := cell_later hb l2
  have l3 := cell_later hb HT2.out.2.2.c0
  have l4 := cell_later hb HT2.out.2.2.c1
  have l5 := cell_later hb HT2.out.2.2.c2
  clear hb hun hE
  have hne : w.heap.size ≠ w.heap.size + 1 := by omega
  have tB2 := tB.set (u0 := .int .i64 0) (u1 := .int .u64 0) (u2 := .int .i64 0) hne
  obtain ⟨x0, x1, x2⟩ := set3S (u := .int .i64 0) (x := .int .u64 0) (y := .int .i64 0) tA.c0 tA.c1 tA.c2
  have yB := set3B (set3B hbW (Nat.le_refl _) (.int .i64 0) (.int .u64 0) (.int .i64 0)) (b := w.heap.size + 1) (by omega) (.int .i64 0) (.int .u64 0) (.int .i64 0)
  obtain ⟨y3, y4, y5⟩ := set3S (u := .int .i64 0) (x := .int .u64 0) (y := .int .i64 0) tB2.c0 tB2.c1 tB2.c2
  have y0 := set3O (b := w.heap.size + 1) (u := .int .i64 0) (x := .int .u64 0) (y := .int .i64 0) x0 (by omega)
  have y1 := set3O (b := w.heap.size + 1) (u := .int .i64 0) (x := .int .u64 0) (y := .int .i64 0) x1 (by omega)
  have y2 := set3O (b := w.heap.size + 1) (u := .int .i64 0) (x := .int .u64 0) (y := .int .i64 0) x2 (by omega)
  have c0 := tA.c0
  have c1 := tA.c1
  have c2 := tA.c2
  have f0 := tA.f0
  have f1 := tA.f1
  have f2 := tA.f2
  have e0 := tB.c0
  have e1 := tB.c1
  have e2 := tB.c2
  have g0 := tB.f0
  have g1 := tB.f1
  have g2 := tB.f2
  have m0 := tB2.c0
  have m1 := tB2.c1
  have m2 := tB2.c2
  have n0 := tB2.f0
  have n1 := tB2.f1
  have n2 := tB2.f2
  clear tA tB tB2 x0 x1 x2
  go_wp2
  generalize ((((((w3.setCell ⟨w.heap.size, 0, none⟩ (.int .i64 0)).setCell ⟨w.heap.size, 1, none⟩ (.int .u64 0)).setCell ⟨w.heap.size, 2, none⟩ (.int .i64 0)).setCell ⟨w.heap.size + 1, 0, none⟩ (.int .i64 0)).setCell ⟨w.heap.size + 1, 1, none⟩ (.int .u64 0)).setCell ⟨w.heap.size + 1, 2, none⟩ (.int .i64 0)) = WF at y0 y1 y2 y3 y4 y5 yB ⊢
  refine bodyPost_ret (v := .tuple #[.agg #[.int .i64 0, .int .u64 0, .int .i64 0], .agg #[.int .i64 0, .int .u64 0, .int .i64 0], .string (bs []), .int .i64 40]) (by simp [results, Tryd.results18, go_sem, y0, y1, y2, y3, y4, y5]; rfl) rfl ?_
  refine ⟨?_, yB⟩
  rw [rangeR_3 H1.out H2.out H3.out]
  rfl

set_option maxRecDepth 100000 in
set_option maxHeartbeats 2000000 in
theorem refGR_4 (l : List UInt8) (h1 : (getR l).2.2 = 0) (h2 : (getR (getR l).2.1).2.2 = 0) (h3 : (getR l).1.under (getR (getR l).2.1).1 = true) (w : World) (hg : Lb.ErrT w) : Calls Tryd.prog 18 #[.string (bs l)] w (GRPost (getRangeR l) w) := by
  have hn1 := Below.new (w.alloc (.cells #[.int .i64 0, .int .u64 0, .int .i64 0] 24)) (.cells #[.int .i64 0, .int .u64 0, .int .i64 0] 24)
  have hB := below_more (Below.new w (.cells #[.int .i64 0, .int .u64 0, .int .i64 0] 24)) hn1
  have triA := (tri_new w 24 (.int .i64 0) (.int .u64 0) (.int .i64 0)).below hn1
  have triB := tri_new (w.alloc (.cells #[.int .i64 0, .int .u64 0, .int .i64 0] 24)) 24 (.int .i64 0) (.int .u64 0) (.int .i64 0)
  rw [World.size_alloc] at triB
  have H1 := Lib.hid h1
  have H2 := Lib.hid h2
  have H3 := Lib.hid h3
  clear h1 h2 h3
  have hz1 := hB.size
  simp only [World.size_alloc] at hz1
  clear hn1
  go_enter Tryd.func18, Tryd.ntmps18
  go_wp2_with (go_at_call 14; refine (refGetL_any l _).mono ?_)
  rintro e w1 ⟨he, hb⟩
  have hb1 := below_more hB hb
  have triA1 := triA.below hb
  have triB1 := triB.below hb
  have hzw := hb.size
  simp only [World.size_alloc] at hzw
  obtain ⟨a, hae⟩ : ∃ a, (getR l).1 = a := ⟨_, rfl⟩
  obtain ⟨r, hre⟩ : ∃ r, (getR l).2.1 = r := ⟨_, rfl⟩
  have he2 : e = .returned (.tuple #[.agg #[.int .i64 a.l, .int .u64 a.c, .int .i64 a.i], .string (bs r), .int .i64 0]) := by rw [he, hae, hre, H1.out]
  subst he2
  have hn2 := Below.new w1 (.cells #[.int .i64 a.l, .int .u64 a.c, .int .i64 a.i] 24)
  have tl := tri_new w1 24 (.int .i64 a.l) (.int .u64 a.c) (.int .i64 a.i)
  have hb2 := below_more hb1 hn2
  have HT := Lib.hid (And.intro (triA1.below hn2) (And.intro (triB1.below hn2) tl))
  have HA := Lib.hid (And.intro hae (And.intro hre (show a.fits from hae ▸ getR_fits l)))
  have hl1 := World.block_lt_of_cell? _ _ tl.c0
  clear he triA triB triA1 triB1 hn2 hb tl hae hre
  go_wp2_with (go_at_call 14; refine (refGetL_any r _).mono ?_)
  rintro e w2 ⟨he, hb⟩
  have hb3 := below_more hb2 hb
  have tA1 := HT.out.1.below hb
  have tB1 := HT.out.2.1.below hb
  have tl1 := HT.out.2.2.below hb
  have hzv := hb.size
  simp only [World.size_alloc] at hzv
  obtain ⟨b, hbe⟩ : ∃ b, (getR r).1 = b := ⟨_, rfl⟩
  obtain ⟨q, hqe⟩ : ∃ q, (getR r).2.1 = q := ⟨_, rfl⟩
  have hr2 : (getR r).2.2 = 0 := by rw [← HA.out.2.1]; exact H2.out
  have he2 : e = .returned (.tuple #[.agg #[.int .i64 b.l, .int .u64 b.c, .int .i64 b.i], .string (bs q), .int .i64 0]) := by rw [he, hbe, hqe, hr2]
  subst he2
  have hn3 := Below.new w2 (.cells #[.int .i64 b.l, .int .u64 b.c, .int .i64 b.i] 24)
  have tm := tri_new w2 24 (.int .i64 b.l) (.int .u64 b.c) (.int .i64 b.i)
  have hb4 := below_more hb3 hn3
  have tl2 := tl1.below hn3
  have HT2 := Lib.hid (And.intro (And.intro (tA1.below hn3) (tB1.below hn3)) (And.intro tl2 tm))
  have HB := Lib.hid (And.intro hbe (And.intro hqe (And.intro (show b.fits from hbe ▸ getR_fits r) hr2)))
  have hl2 := World.block_lt_of_cell? _ _ tl1.c0
  have l0 := tl2.c0
  have l1 := tl2.c1
  have l2 := tl2.c2
  have hE := hg.more hb4
  clear he tA1 tB1 tl1 hn3 hb tm hbe hqe hr2 tl2
  go_wp2_with (go_at_call 34; refine (Lb.refUnder_any a b HA.out.2.2 HB.out.2.2.1 _ hE).mono ?_)
  rintro e w3 ⟨he, hb⟩
  have hun := H3.out
  rw [HA.out.1, HA.out.2.1, HB.out.1] at hun
  rw [hun] at he
  subst he
  have tA := HT2.out.1.1.below hb
  have tB := HT2.out.1.2.below hb
  have hbW := below_more hb4 hb
  replace l0 := cell_later hb l0
  replace l1 := cell_later hb l1
  replace l2 := cell_later hb l2
  have l3 := cell_later hb HT2.out.2.2.c0
  have l4 := cell_later hb HT2.out.2.2.c1
  have l5 := cell_later hb HT2.out.2.2.c2
  clear hb hun hE
  have z0 : ∀ u x y, (((w3.setCell ⟨w.heap.size, 0, none⟩ u).setCell ⟨w.heap.size, 1, none⟩ x).setCell ⟨w.heap.size, 2, none⟩ y).cell? ⟨w1.heap.size, 0, none⟩ = some (.int .i64 a.l) := fun u x y => set3O l0 (by omega)
  have z1 : ∀ u x y, (((w3.setCell ⟨w.heap.size, 0, none⟩ u).setCell ⟨w.heap.size, 1, none⟩ x).setCell ⟨w.heap.size, 2, none⟩ y).cell? ⟨w1.heap.size, 1, none⟩ = some (.int .u64 a.c) := fun u x y => set3O l1 (by omega)
  have z2 : ∀ u x y, (((w3.setCell ⟨w.heap.size, 0, none⟩ u).setCell ⟨w.heap.size, 1, none⟩ x).setCell ⟨w.heap.size, 2, none⟩ y).cell? ⟨w1.heap.size, 2, none⟩ = some (.int .i64 a.i) := fun u x y => set3O l2 (by omega)
  have z3 : ∀ u x y, (((w3.setCell ⟨w.heap.size, 0, none⟩ u).setCell ⟨w.heap.size, 1, none⟩ x).setCell ⟨w.heap.size, 2, none⟩ y).cell? ⟨w2.heap.size, 0, none⟩ = some (.int .i64 b.l) := fun u x y => set3O l3 (by omega)
  have z4 : ∀ u x y, (((w3.setCell ⟨w.heap.size, 0, none⟩ u).setCell ⟨w.heap.size, 1, none⟩ x).setCell ⟨w.heap.size, 2, none⟩ y).cell? ⟨w2.heap.size, 1, none⟩ = some (.int .u64 b.c) := fun u x y => set3O l4 (by omega)
  have z5 : ∀ u x y, (((w3.setCell ⟨w.heap.size, 0, none⟩ u).setCell ⟨w.heap.size, 1, none⟩ x).setCell ⟨w.heap.size, 2, none⟩ y).cell? ⟨w2.heap.size, 2, none⟩ = some (.int .i64 b.i) := fun u x y => set3O l5 (by omega)
  have q0 : ∀ u x y u' x' y', ((((((w3.setCell ⟨w.heap.size, 0, none⟩ u).setCell ⟨w.heap.size, 1, none⟩ x).setCell ⟨w.heap.size, 2, none⟩ y).setCell ⟨w.heap.size + 1, 0, none⟩ u').setCell ⟨w.heap.size + 1, 1, none⟩ x').setCell ⟨w.heap.size + 1, 2, none⟩ y').cell? ⟨w1.heap.size, 0, none⟩ = some (.int .i64 a.l) := fun u x y u' x' y' => set3O (z0 u x y) (by omega)
  have q1 : ∀ u x y u' x' y', ((((((w3.setCell ⟨w.heap.size, 0, none⟩ u).setCell ⟨w.heap.size, 1, none⟩ x).setCell ⟨w.heap.size, 2, none⟩ y).setCell ⟨w.heap.size + 1, 0, none⟩ u').setCell ⟨w.heap.size + 1, 1, none⟩ x').setCell ⟨w.heap.size + 1, 2, none⟩ y').cell? ⟨w1.heap.size, 1, none⟩ = some (.int .u64 a.c) := fun u x y u' x' y' => set3O (z1 u x y) (by omega)
  have q2 : ∀ u x y u' x' y', ((((((w3.setCell ⟨w.heap.size, 0, none⟩ u).setCell ⟨w.heap.size, 1, none⟩ x).setCell ⟨w.heap.size, 2, none⟩ y).setCell ⟨w.heap.size + 1, 0, none⟩ u').setCell ⟨w.heap.size + 1, 1, none⟩ x').setCell ⟨w.heap.size + 1, 2, none⟩ y').cell? ⟨w1.heap.size, 2, none⟩ = some (.int .i64 a.i) := fun u x y u' x' y' => set3O (z2 u x y) (by omega)
  have q3 : ∀ u x y u' x' y', ((((((w3.setCell ⟨w.heap.size, 0, none⟩ u).setCell ⟨w.heap.size, 1, none⟩ x).setCell ⟨w.heap.size, 2, none⟩ y).setCell ⟨w.heap.size + 1, 0, none⟩ u').setCell ⟨w.heap.size + 1, 1, none⟩ x').setCell ⟨w.heap.size + 1, 2, none⟩ y').cell? ⟨w2.heap.size, 0, none⟩ = some (.int .i64 b.l) := fun u x y u' x' y' => set3O (z3 u x y) (by omega)
  have q4 : ∀ u x y u' x' y', ((((((w3.setCell ⟨w.heap.size, 0, none⟩ u).setCell ⟨w.heap.size, 1, none⟩ x).setCell ⟨w.heap.size, 2, none⟩ y).setCell ⟨w.heap.size + 1, 0, none⟩ u').setCell ⟨w.heap.size + 1, 1, none⟩ x').setCell ⟨w.heap.size + 1, 2, none⟩ y').cell? ⟨w2.heap.size, 1, none⟩ = some (.int .u64 b.c) := fun u x y u' x' y' => set3O (z4 u x y) (by omega)
  have q5 : ∀ u x y u' x' y', ((((((w3.setCell ⟨w.heap.size, 0, none⟩ u).setCell ⟨w.heap.size, 1, none⟩ x).setCell ⟨w.heap.size, 2, none⟩ y).setCell ⟨w.heap.size + 1, 0, none⟩ u').setCell ⟨w.heap.size + 1, 1, none⟩ x').setCell ⟨w.heap.size + 1, 2, none⟩ y').cell? ⟨w2.heap.size, 2, none⟩ = some (.int .i64 b.i) := fun u x y u' x' y' => set3O (z5 u x y) (by omega)
  have hne : w.heap.size ≠ w.heap.size + 1 := by omega
  have tB2 := tB.set (u0 := .int .i64 a.l) (u1 := .int .u64 a.c) (u2 := .int .i64 a.i) hne
  obtain ⟨x0, x1, x2⟩ := set3S (u := .int .i64 a.l) (x := .int .u64 a.c) (y := .int .i64 a.i) tA.c0 tA.c1 tA.c2
  have yB := set3B (set3B hbW (Nat.le_refl _) (.int .i64 a.l) (.int .u64 a.c) (.int .i64 a.i)) (b := w.heap.size + 1) (by omega) (.int .i64 b.l) (.int .u64 b.c) (.int .i64 b.i)
  obtain ⟨y3, y4, y5⟩ := set3S (u := .int .i64 b.l) (x := .int .u64 b.c) (y := .int .i64 b.i) tB2.c0 tB2.c1 tB2.c2
  have y0 := set3O (b := w.heap.size + 1) (u := .int .i64 b.l) (x := .int .u64 b.c) (y := .int .i64 b.i) x0 (by omega)
  have y1 := set3O (b := w.heap.size + 1) (u := .int .i64 b.l) (x := .int .u64 b.c) (y := .int .i64 b.i) x1 (by omega)
  have y2 := set3O (b := w.heap.size + 1) (u := .int .i64 b.l) (x := .int .u64 b.c) (y := .int .i64 b.i) x2 (by omega)
  have c0 := tA.c0
  have c1 := tA.c1
  have c2 := tA.c2
  have f0 := tA.f0
  have f1 := tA.f1
  have f2 := tA.f2
  have e0 := tB.c0
  have e1 := tB.c1
  have e2 := tB.c2
  have g0 := tB.f0
  have g1 := tB.f1
  have g2 := tB.f2
  have m0 := tB2.c0
  have m1 := tB2.c1
  have m2 := tB2.c2
  have n0 := tB2.f0
  have n1 := tB2.f1
  have n2 := tB2.f2
  clear tA tB tB2 x0 x1 x2
  go_wp2
  go_region_held3 (fun w' => w'.cell? ⟨w1.heap.size, 0, none⟩ = some (.int .i64 a.l) ∧ w'.cell? ⟨w1.heap.size, 1, none⟩ = some (.int .u64 a.c) ∧ w'.cell? ⟨w1.heap.size, 2, none⟩ = some (.int .i64 a.i) ∧ w'.cell? ⟨w2.heap.size, 0, none⟩ = some (.int .i64 b.l) ∧ w'.cell? ⟨w2.heap.size, 1, none⟩ = some (.int .u64 b.c) ∧ w'.cell? ⟨w2.heap.size, 2, none⟩ = some (.int .i64 b.i))
    (first | (simp only [World.cell?_drew, l0, l1, l2, l3, l4, l5, z0, z1, z2, z3, z4, z5, q0, q1, q2, q3, q4, q5, and_self]; done)) (fail)
  all_goals go_wp2
  all_goals
    generalize ((((((w3.setCell ⟨w.heap.size, 0, none⟩ (.int .i64 a.l)).setCell ⟨w.heap.size, 1, none⟩ (.int .u64 a.c)).setCell ⟨w.heap.size, 2, none⟩ (.int .i64 a.i)).setCell ⟨w.heap.size + 1, 0, none⟩ (.int .i64 b.l)).setCell ⟨w.heap.size + 1, 1, none⟩ (.int .u64 b.c)).setCell ⟨w.heap.size + 1, 2, none⟩ (.int .i64 b.i)) = WF at y0 y1 y2 y3 y4 y5 yB ⊢
    refine bodyPost_ret (v := .tuple #[.agg #[.int .i64 a.l, .int .u64 a.c, .int .i64 a.i], .agg #[.int .i64 b.l, .int .u64 b.c, .int .i64 b.i], .string (bs q), .int .i64 0]) (by simp [results, Tryd.results18, go_sem, y0, y1, y2, y3, y4, y5]) rfl ?_
    refine ⟨?_, below_drew yB⟩
    rw [rangeR_4 H1.out H2.out H3.out, HA.out.2.1, HB.out.1, HB.out.2.1, HA.out.1]

theorem refGetRange_any (l : List UInt8) (w : World) (hg : Lb.ErrT w) : Calls Tryd.prog 18 #[.string (bs l)] w (GRPost (getRangeR l) w) := by
  by_cases h1 : (getR l).2.2 = 0
  · by_cases h2 : (getR (getR l).2.1).2.2 = 0
    · cases h3 : (getR l).1.under (getR (getR l).2.1).1
      · exact refGR_3 l h1 h2 h3 w hg
      · exact refGR_4 l h1 h2 h3 w hg
    · exact refGR_2 l h1 h2 w hg
  · exact refGR_1 l h1 w hg

end Go.Proofs.YtfpjbefhfkembaaDoor

/- The document's own PutList, GetList, Labels. -/
namespace Go.Proofs.YtfpjbefhfkembaaDoor
open Go.RowKit Go.Shelf Go.Proofs.Fld Go.Proofs.Cats Go.Proofs.Lcd

theorem listB_take (zs : List Lab) (k : Nat) (x : Lab) (h : zs[k]? = some x) : listB (zs.take (k + 1)) = listB (zs.take k) ++ labB x := by
  rw [Lb.take_next zs k x h, listB_append]
  simp [listB]
theorem all_take (zs : List Lab) (k : Nat) (x : Lab) (h : zs[k]? = some x) (hx : x.right = false) : zs.all Lab.right = false := by
  rw [List.all_eq_false]
  exact ⟨x, List.mem_of_getElem? h, by rw [hx]; decide⟩

set_option maxRecDepth 100000 in
set_option maxHeartbeats 2000000 in
theorem refPutList_any (a : Option Addr) (cap : Nat) (zs : List Lab) (hz : zs.length ≤ 1048576) (w : World) (hI : Lb.Labs w.heap.size w (.slice a zs.length cap) zs) :
    Calls Tryd.prog 20 #[.slice a zs.length cap] w (SC (putListR zs) w) := by
  have HI := Lib.hid hI
  clear hI
  go_enter Tryd.func20, Tryd.ntmps20
  go_wp2
  go_loopw [4, 5] (fun sv i wr => ∃ k : Nat, k ≤ zs.length ∧ i = .int .i64 (k : Int) ∧ sv = .string (bs (listB (zs.take k))) ∧ (zs.take k).all Lab.right = true ∧ Below w.heap.size w wr) (fun _ i _ => zs.length - (intOf i).toNat)
  case atStart => exact ⟨0, by omega, rfl, rfl, rfl, Below.refl _ _⟩
  case round =>
    obtain ⟨k, hk, rfl, rfl, hall, hb⟩ := hrel
    have HA := Lib.hid hall
    clear hall
    by_cases hlt : k < zs.length
    · obtain ⟨x, hx⟩ : ∃ x, zs[k]? = some x := ⟨_, List.getElem?_eq_getElem hlt⟩
      obtain ⟨ao, cp, e1, hcs⟩ := HI.out.below hb
      obtain ⟨rfl, _, rfl⟩ := Value.slice.inj e1
      obtain ⟨b, off, rfl, hbl, hc⟩ := hcs (fun h => by rw [h] at hlt; simp at hlt)
      obtain ⟨hfit, q0, q1, q2⟩ := hc k x hx
      have HX := Lib.hid hx
      clear hx hc hcs e1
      have HG := Lib.hid (refPutL_any x hfit wr)
      have hlen : (listB (zs.take k)).length = 10 * (zs.take k).length := listB_length _
      rw [List.length_take, Nat.min_eq_left hk] at hlen
      cases hr : x.right
      · have HR := Lib.hid hr
        clear hr
        go_wp2_with (go_at_call 11; refine HG.out.mono ?_)
        rintro e w1 ⟨he, b1⟩
        have he2 : e = .returned (.tuple #[.string (bs []), .int .i64 20]) := by rw [he, putR_no HR.out]
        subst he2
        clear he
        go_wp2
        go_ret2
        rw [putListR_no (all_take zs k x HX.out HR.out)]
        exact ⟨rfl, below_more hb b1⟩
      · have HR := Lib.hid hr
        clear hr
        go_wp2_with (go_at_call 11; refine HG.out.mono ?_)
        rintro e w1 ⟨he, b1⟩
        have he2 : e = .returned (.tuple #[.string (bs (labB x)), .int .i64 0]) := by rw [he, putR_ok HR.out]
        subst he2
        clear he q0 q1 q2
        have za : (bs (listB (zs.take k))).size = 10 * k := by rw [bs_size, hlen]
        have zb : (bs (labB x)).size = 10 := by rw [bs_size, labB_length]
        have hap := bs_append (listB (zs.take k)) (labB x)
        have hb2 := below_more hb b1
        clear hlen
        go_wp2
        go_roundw
        case rel =>
          refine ⟨k + 1, by omega, by go_num, by rw [listB_take zs k x HX.out], ?_, hb2⟩
          rw [Lb.take_next zs k x HX.out, List.all_append, HA.out, Bool.true_and, List.all_cons, HR.out]
          rfl
        case measure => simp [intOf]; omega
    · obtain rfl : k = zs.length := by omega
      have hall := HA.out
      rw [List.take_of_length_le (Nat.le_refl _)] at hall
      rw [List.take_of_length_le (Nat.le_refl _)]
      have HL := Lib.hid hall
      clear hall
      go_wp2
      go_ret2
      rw [putListR_ok HL.out]
      exact ⟨rfl, hb⟩

set_option maxRecDepth 100000 in
set_option maxHeartbeats 2000000 in
theorem refGetList_any (l : List UInt8) (hl : l.length ≤ 1048576) (w : World) : Calls Tryd.prog 22 #[.string (bs l)] w (LLPost (getListR l) w) := by
  obtain ⟨i0, hi, hz0, hz1, hz2⟩ := info_parts infoLab
  go_enter Tryd.func22, Tryd.ntmps22
  go_wp2
  go_loopw [0, 4] (fun sv v wr => ∃ (rest : List UInt8) (acc : List Lab), sv = .string (bs rest) ∧ wr.ownsRow w.heap.size 24 3 v acc.length (labCells acc) ∧ Below w.heap.size w wr ∧ listC l = listC rest ∧ listL l = acc ++ listL rest ∧ (∀ x ∈ acc, x.fits)) (fun sv _ _ => match sv with | .string s => s.size | _ => 0)
  case atStart => exact ⟨l, [], rfl, World.ownsRow_nil _ _ _ _, Below.refl _ _, rfl, rfl, fun _ h => by cases h⟩
  case round =>
    obtain ⟨rest, acc, rfl, hown, hb, hc, hL, hf⟩ := hrel
    have hal : acc.length ≤ 1048576 := by
      have h1 := list_len l.length l (Nat.le_refl _)
      rw [hL, List.length_append] at h1
      omega
    have HI := Lib.hid (And.intro hc (And.intro hL hf))
    clear hc hL hf
    obtain ⟨va, vc, rfl⟩ := rowG_slice hown
    by_cases hne : rest = []
    · subst hne
      have hq : (bs []).toList.isEmpty = true := by rw [bs_toList]; rfl
      have HO := Lib.hid hown
      clear hown
      go_wp2
      go_ret2
      have h0 : listC l = 0 := by rw [HI.out.1, listC_nil]
      have h1 : listL l = acc := by rw [HI.out.2.1, listL_nil, List.append_nil]
      rw [getListR_ok h0, h1]
      exact ⟨va, vc, rfl, labs_row HO.out HI.out.2.2, hb⟩
    · have hq : (bs rest).toList.isEmpty = false := by
        rw [bs_toList]
        cases rest with
        | nil => exact absurd rfl hne
        | cons b r => rfl
      have HN := Lib.hid hne
      have HG := Lib.hid (refGetL_any rest wr)
      clear hne
      by_cases hz : (getR rest).2.2 = 0
      · obtain ⟨x, hx⟩ : ∃ x, (getR rest).1 = x := ⟨_, rfl⟩
        obtain ⟨r, hr⟩ : ∃ r, (getR rest).2.1 = r := ⟨_, rfl⟩
        have hrd : rest.drop 10 = r := by rw [← hr, (getR_zero hz).2.2]
        have hxl : labOf rest = x := by rw [← hx, (getR_zero hz).2.2]
        have h10 := (getR_zero hz).1
        have HE := Lib.hid (And.intro (And.intro hx hr) (And.intro hrd (And.intro hxl (And.intro hz h10))))
        clear hx hr hrd hxl hz h10
        go_wp2_with (go_at_call 14; refine HG.out.mono ?_)
        rintro e w1 ⟨he, b1⟩
        have he2 : e = .returned (.tuple #[.agg #[.int .i64 x.l, .int .u64 x.c, .int .i64 x.i], .string (bs r), .int .i64 0]) := by rw [he, HE.out.1.1, HE.out.1.2, HE.out.2.2.2.1]
        subst he2
        clear he
        have hown1 := (hown.kept (Lb.below_grown b1) (by cases h : (Value.slice va acc.length vc).ownBlock <;> simp)).alloc (.cells #[.int .i64 x.l, .int .u64 x.c, .int .i64 x.i] 24)
        have hb1 := (below_more hb b1).alloc (below_more hb b1).size (.cells #[.int .i64 x.l, .int .u64 x.c, .int .i64 x.i] 24)
        have hsz1 := (below_more hb b1).size
        have hnw := lab_new (w1.alloc (.cells #[.int .i64 x.l, .int .u64 x.c, .int .i64 x.i] 24)) x
        rw [World.size_alloc] at hnw
        have HN2 := Lib.hid hnw
        clear hown hb b1 hnw
        go_wp2_with (at_builtin; refine wpList_append_own _ rfl _ _ 36 rfl w.heap.size 24 i0 (.agg #[.int .i64 0, .int .u64 0, .int .i64 0]) 3 24 Tryd.underlying36 hi hz0 hz1 hz2 rfl (by decide) _ acc.length (labCells acc) rfl (hown1.alloc _) ⟨w1.heap.size + 1, 0, none⟩ 1 1 (cells3L x) rfl rfl HN2.out (by simp [cells3L, Value.oneCell']) (by unfold maxLen; omega) (by omega) (by simp; omega) ?_; intro v' w2 hown' hgrow _)
        have hB1 := (hb1.alloc (by simp; omega) (.cells #[.int .i64 x.l, .int .u64 x.c, .int .i64 x.i] 24)).grown hgrow (by simp; omega) (fun k hk => (hown1.lt k hk).1)
        clear hown1 hgrow hb1
        go_wp2
        go_roundw
        case rel =>
          refine ⟨r, acc ++ [x], rfl, ?_, hB1, ?_, ?_, ?_⟩
          · rw [List.length_append, labCells_append]
            exact hown'
          · rw [HI.out.1, listC_ok HN.out HE.out.2.2.2.1, HE.out.2.1]
          · rw [HI.out.2.1, listL_ok HN.out HE.out.2.2.2.1, HE.out.2.1, HE.out.2.2.1]
            simp
          · intro y hy
            rcases List.mem_append.1 hy with h | h
            · exact HI.out.2.2 y h
            · rw [List.mem_singleton.1 h, ← HE.out.1.1]; exact getR_fits rest
        case measure =>
          have := HE.out.2.2.2.2
          simp only [bs_size, ← HE.out.2.1, List.length_drop]
          omega
      · obtain ⟨c, hc⟩ : ∃ c, (getR rest).2.2 = c := ⟨_, rfl⟩
        have hcn : (c != 0) = true := by rw [← hc]; simpa using hz
        have hu : listC l = c := by rw [HI.out.1, listC_bad HN.out hz, hc]
        have hcz : c ≠ 0 := hc ▸ hz
        have HE := Lib.hid (And.intro hc (And.intro hz (And.intro hu hcz)))
        clear hc hz hu hcz
        go_wp2_with (go_at_call 14; refine HG.out.mono ?_)
        rintro e w1 ⟨he, b1⟩
        have he2 : e = .returned (.tuple #[.agg #[.int .i64 0, .int .u64 0, .int .i64 0], .string (bs []), .int .i64 c]) := by rw [he, getR_err HE.out.2.1, HE.out.1]; rfl
        subst he2
        clear he
        have hb1 := (below_more hb b1).alloc (below_more hb b1).size (.cells #[.int .i64 0, .int .u64 0, .int .i64 0] 24)
        go_wp2
        go_ret2
        rw [getListR_no (by rw [HE.out.2.2.1]; exact HE.out.2.2.2), HE.out.2.2.1]
        exact ⟨none, 0, rfl, ⟨none, 0, rfl, fun h => absurd rfl h⟩, hb1⟩

set_option maxRecDepth 100000 in
set_option maxHeartbeats 2000000 in
theorem refLabels_any (zs : List Lab) (hz : zs.length ≤ 1048576) (aa ab : Option Addr) (ca cb : Nat) (w : World) (hA : Lb.Labs w.heap.size w (.slice aa zs.length ca) zs) (hB : Lb.Labs w.heap.size w (.slice ab zs.length cb) zs) :
    Calls Tryd.prog 23 #[.slice aa zs.length ca, .slice ab zs.length cb] w fun e w' => e = .returned (.bool true) ∧ Below w.heap.size w w' := by
  have HH := Lib.hid (And.intro hA hB)
  clear hA hB
  go_enter Tryd.func23, Tryd.ntmps23
  go_wp2
  go_loopw [5] (fun i wr => ∃ j : Nat, j ≤ zs.length ∧ i = .int .i64 (j : Int) ∧ Below w.heap.size w wr) (fun i _ => zs.length - (intOf i).toNat)
  case atStart => exact ⟨0, by omega, rfl, Below.refl _ _⟩
  case round =>
    obtain ⟨j, hj, rfl, hb⟩ := hrel
    by_cases hlt : j < zs.length
    · obtain ⟨x, hx⟩ : ∃ x, zs[j]? = some x := ⟨_, List.getElem?_eq_getElem hlt⟩
      have hnz : zs ≠ [] := fun h => by rw [h] at hlt; simp at hlt
      obtain ⟨ao, cp, e1, hcs⟩ := HH.out.1.below hb
      obtain ⟨rfl, _, rfl⟩ := Value.slice.inj e1
      obtain ⟨b, off, rfl, hbl, hc⟩ := hcs hnz
      obtain ⟨_, q0, q1, q2⟩ := hc j x hx
      obtain ⟨ao2, cp2, e2, hcs2⟩ := HH.out.2.below hb
      obtain ⟨rfl, _, rfl⟩ := Value.slice.inj e2
      obtain ⟨b2, off2, rfl, hbl2, hc2⟩ := hcs2 hnz
      obtain ⟨_, p0, p1, p2⟩ := hc2 j x hx
      have t1 := Lb.eqInL x x
      rw [show x.same x = true from (Lab.same_iff x x).2 rfl] at t1
      clear hx hc hc2 hcs hcs2 e1 e2 hnz
      go_wp2
      go_region
      all_goals
        go_wp2
        go_roundw
        case rel => exact ⟨j + 1, by omega, by go_num, below_drew hb⟩
        case measure => simp [intOf]; omega
    · obtain rfl : j = zs.length := by omega
      go_wp2
      go_ret
      exact ⟨rfl, hb⟩

end Go.Proofs.YtfpjbefhfkembaaDoor
