/- What a fold tells: joins. -/
import Derived.Test.YtafghaceahchhaaDoorLabFoldJ
import Derived.Test.YtafghaceahchhaaDoorLabAsHit
namespace Go.Proofs.YtafghaceahchhaaDoor
open Go.RowKit Go.Proofs.Cats Go.Shelf

/-- errors.errorType holds error's own type. -/
def ErrT (w : World) : Prop := w.cell? ⟨0, 0, none⟩ = some (.iface 75 (.agg #[.pointer (some ⟨1, 44, none⟩)]))
theorem ErrT.lt {w : World} (h : ErrT w) : 0 < w.heap.size := World.block_lt_of_cell? w _ h
theorem ErrT.below {n : Nat} {A B : World} (h : ErrT A) (hn : 0 < n) (hb : Below n A B) : ErrT B := (hb.cell (p := ⟨0, 0, none⟩) hn).trans h
theorem ErrT.more {A B : World} (h : ErrT A) (hb : Below A.heap.size A B) : ErrT B := h.below h.lt hb
theorem as_nil_any (t : Value) (w : World) : Calls Tryd.prog 38 #[.nilIface, t] w fun e w' => e = .returned (.bool false) ∧ Below w.heap.size w w' :=
  (as_nil t w).mono fun _ _ ⟨he, hw⟩ => ⟨he, hw ▸ Below.refl _ _⟩
def toldE (zs : List Lab) : Int := if zs.all Lab.right then 0 else 20
theorem toldE_yes (zs : List Lab) (h : zs.all Lab.right = true) : toldE zs = 0 := by unfold toldE; rw [h]; rfl
theorem toldE_no (zs : List Lab) (h : zs.all Lab.right = false) : toldE zs = 20 := by unfold toldE; rw [h]; rfl
/-- What is told of some labels. -/
def toldJ (s : Lab) (zs : List Lab) : Lab := if zs.all Lab.right then madeJ s zs else Lab.zero
theorem toldJ_yes (s : Lab) (zs : List Lab) (h : zs.all Lab.right = true) : toldJ s zs = madeJ s zs := by unfold toldJ; rw [h]; rfl
theorem toldJ_no (s : Lab) (zs : List Lab) (h : zs.all Lab.right = false) : toldJ s zs = Lab.zero := by unfold toldJ; rw [h]; rfl

theorem ofJ_any (s : Lab) (hs : s.fits) (a : Option Addr) (len cap : Nat) (zs : List Lab) (hreach : zs.length * 24 ≤ 140737488351232) (w : World) (hI : Labs w.heap.size w (.slice a len cap) zs) :
    Calls Tryd.prog 37 #[.agg #[.int .i64 s.l, .int .u64 s.c, .int .i64 s.i, .func (.func 36) #[] #[]], .slice a len cap] w (OfJP s zs w) :=
  (callsIn_wide (n := 3)).1 (ofJ_in 3 (by omega) s hs a len cap zs hreach w hI)

set_option maxRecDepth 100000 in
set_option maxHeartbeats 1000000 in
theorem toldJ_any (s : Lab) (hs : s.fits) (a : Option Addr) (len cap : Nat) (zs : List Lab) (hreach : zs.length * 24 ≤ 140737488351232) (w : World) (hI : Labs w.heap.size w (.slice a len cap) zs) (hg : ErrT w) :
    Calls Tryd.prog 29 #[.agg #[.int .i64 s.l, .int .u64 s.c, .int .i64 s.i, .func (.func 36) #[] #[]], .slice a len cap] w fun e w' =>
      e = .returned (.tuple #[.agg #[.int .i64 (toldJ s zs).l, .int .u64 (toldJ s zs).c, .int .i64 (toldJ s zs).i], .int .i64 (toldE zs)]) ∧ Below w.heap.size w w' := by
  have hB2 : Below w.heap.size w ((w.alloc (.cells #[.int .i64 s.l, .int .u64 s.c, .int .i64 s.i, .func (.func 36) #[] #[]] 39)).alloc (.cells #[.int .i64 0, .int .u64 0, .int .i64 0] 24)) := (Below.new _ _).alloc (by simp) _
  have HG := Lib.hid (hg.below hg.lt hB2)
  have HI := Lib.hid ((hI.below hB2).mono (show w.heap.size ≤ ((w.alloc (.cells #[.int .i64 s.l, .int .u64 s.c, .int .i64 s.i, .func (.func 36) #[] #[]] 39)).alloc (.cells #[.int .i64 0, .int .u64 0, .int .i64 0] 24)).heap.size by simp; omega))
  clear hI hg
  cases hz : zs.all Lab.right
  · rw [toldJ_no s zs hz, toldE_no zs hz]
    have C := Lib.hid (ofJ_any s hs a len cap zs hreach _ HI.out)
    have HZ := Lib.hid hz
    clear hz HI
    go_enter Tryd.func29, Tryd.ntmps29
    go_wp2_with fail
    refine C.out.mono ?_
    rintro e w1 ⟨⟨hz, rfl⟩ | ⟨hz, m, x, hx, rfl⟩, hb1⟩
    · exact absurd hz (by rw [HZ.out]; simp)
    have hxe := errL_no x hx
    have r0 : w1.cell? ⟨w.heap.size + 1, 0, none⟩ = some (.int .i64 0) := cell_later hb1 (by simp)
    have r1 : w1.cell? ⟨w.heap.size + 1, 1, none⟩ = some (.int .u64 0) := cell_later hb1 (by simp)
    have r2 : w1.cell? ⟨w.heap.size + 1, 2, none⟩ = some (.int .i64 0) := cell_later hb1 (by simp)
    have f0 : w1.frozen? ⟨w.heap.size + 1, 0, none⟩ = false := (hb1.frozen (p := ⟨w.heap.size + 1, 0, none⟩) (by simp)).trans (by simp)
    have f1 : w1.frozen? ⟨w.heap.size + 1, 1, none⟩ = false := (hb1.frozen (p := ⟨w.heap.size + 1, 1, none⟩) (by simp)).trans (by simp)
    have f2 : w1.frozen? ⟨w.heap.size + 1, 2, none⟩ = false := (hb1.frozen (p := ⟨w.heap.size + 1, 2, none⟩) (by simp)).trans (by simp)
    have hsz : w.heap.size + 1 < w1.heap.size := by have := hb1.size; simp at this; omega
    have HB := Lib.hid (below_more hB2 hb1)
    have t0 : ((w1.alloc (.cells #[.int .i64 m.l, .int .u64 m.c, .int .i64 m.i] 24)).alloc (.cells #[.int .i64 0, .int .u64 0, .int .i64 0] 52)).cell? ⟨w1.heap.size + 1, 0, none⟩ = some (.int .i64 0) := by simp
    have t1 : ((w1.alloc (.cells #[.int .i64 m.l, .int .u64 m.c, .int .i64 m.i] 24)).alloc (.cells #[.int .i64 0, .int .u64 0, .int .i64 0] 52)).cell? ⟨w1.heap.size + 1, 1, none⟩ = some (.int .u64 0) := by simp
    have t2 : ((w1.alloc (.cells #[.int .i64 m.l, .int .u64 m.c, .int .i64 m.i] 24)).alloc (.cells #[.int .i64 0, .int .u64 0, .int .i64 0] 52)).cell? ⟨w1.heap.size + 1, 2, none⟩ = some (.int .i64 0) := by simp
    have hB4 : Below w1.heap.size w1 ((w1.alloc (.cells #[.int .i64 m.l, .int .u64 m.c, .int .i64 m.i] 24)).alloc (.cells #[.int .i64 0, .int .u64 0, .int .i64 0] 52)) := (Below.new _ _).alloc (by simp) _
    have CA := Lib.hid (as_hit x.l x.c x.i (w1.heap.size + 1) _ _ _ _ ((HG.out.more hb1).more hB4) t0 t1 t2 (by simp) (by simp) (by simp))
    have HE := Lib.hid hxe
    have H4 := Lib.hid hB4
    have HR := Lib.hid (And.intro r0 (And.intro r1 (And.intro r2 (And.intro f0 (And.intro f1 f2)))))
    clear hz hx hb1 HG C t0 t1 t2 hB4 r0 r1 r2 f0 f1 f2
    go_wp2_with fail
    refine CA.out.mono ?_
    rintro e w2 ⟨rfl, hb2⟩
    obtain ⟨r0, r1, r2, f0, f1, f2⟩ := HR.out
    have q0 := (hb2.cell (p := ⟨w.heap.size + 1, 0, none⟩) (by simp; omega)).trans ((H4.out.cell (p := ⟨w.heap.size + 1, 0, none⟩) hsz).trans r0)
    have q1 := (hb2.cell (p := ⟨w.heap.size + 1, 1, none⟩) (by simp; omega)).trans ((H4.out.cell (p := ⟨w.heap.size + 1, 1, none⟩) hsz).trans r1)
    have q2 := (hb2.cell (p := ⟨w.heap.size + 1, 2, none⟩) (by simp; omega)).trans ((H4.out.cell (p := ⟨w.heap.size + 1, 2, none⟩) hsz).trans r2)
    have p0 := (hb2.frozen (p := ⟨w.heap.size + 1, 0, none⟩) (by simp; omega)).trans ((H4.out.frozen (p := ⟨w.heap.size + 1, 0, none⟩) hsz).trans f0)
    have p1 := (hb2.frozen (p := ⟨w.heap.size + 1, 1, none⟩) (by simp; omega)).trans ((H4.out.frozen (p := ⟨w.heap.size + 1, 1, none⟩) hsz).trans f1)
    have p2 := (hb2.frozen (p := ⟨w.heap.size + 1, 2, none⟩) (by simp; omega)).trans ((H4.out.frozen (p := ⟨w.heap.size + 1, 2, none⟩) hsz).trans f2)
    have H5 := Lib.hid ((HB.out.trans ((H4.out).mono (by omega))).trans (hb2.mono (by omega)))
    clear HR CA H4 hb2 r0 r1 r2 f0 f1 f2
    go_wp2
    refine bodyPost_ret (v := .tuple #[.agg #[.int .i64 0, .int .u64 0, .int .i64 0], .int .i64 20]) ?_ rfl ⟨rfl, ((H5.out.setCell (p := ⟨w.heap.size + 1, 0, none⟩) (by simp) _).setCell (p := ⟨w.heap.size + 1, 1, none⟩) (by simp) _).setCell (p := ⟨w.heap.size + 1, 2, none⟩) (by simp) _⟩
    have c0 := setO (x := .int .i64 0) (b := ⟨w.heap.size + 1, 2, none⟩) (setO (x := .int .u64 0) (b := ⟨w.heap.size + 1, 1, none⟩) (setS (.int .i64 0) q0) (ne_off (by omega))) (ne_off (by omega))
    have c1 := setO (x := .int .i64 0) (b := ⟨w.heap.size + 1, 2, none⟩) (setS (.int .u64 0) (setO (x := .int .i64 0) (b := ⟨w.heap.size + 1, 0, none⟩) q1 (ne_off (by omega)))) (ne_off (by omega))
    have c2 := setS (.int .i64 0) (setO (x := .int .u64 0) (b := ⟨w.heap.size + 1, 1, none⟩) (setO (x := .int .i64 0) (b := ⟨w.heap.size + 1, 0, none⟩) q2 (ne_off (by omega))) (ne_off (by omega)))
    generalize ((w2.setCell ⟨w.heap.size + 1, 0, none⟩ (.int .i64 0)).setCell ⟨w.heap.size + 1, 1, none⟩ (.int .u64 0)).setCell ⟨w.heap.size + 1, 2, none⟩ (.int .i64 0) = WF at c0 c1 c2 ⊢
    simp [results, Tryd.results29, go_sem, c0, c1, c2]
  · rw [toldJ_yes s zs hz, toldE_yes zs hz]
    have C := Lib.hid (ofJ_any s hs a len cap zs hreach _ HI.out)
    have HZ := Lib.hid hz
    clear hz HI
    go_enter Tryd.func29, Tryd.ntmps29
    go_wp2_with fail
    refine C.out.mono ?_
    rintro e w1 ⟨⟨hz, rfl⟩ | ⟨hz, m, x, hx, rfl⟩, hb1⟩
    rotate_left
    · exact absurd hz (by rw [HZ.out]; simp)
    have r0 : w1.cell? ⟨w.heap.size + 1, 0, none⟩ = some (.int .i64 0) := cell_later hb1 (by simp)
    have r1 : w1.cell? ⟨w.heap.size + 1, 1, none⟩ = some (.int .u64 0) := cell_later hb1 (by simp)
    have r2 : w1.cell? ⟨w.heap.size + 1, 2, none⟩ = some (.int .i64 0) := cell_later hb1 (by simp)
    have f0 : w1.frozen? ⟨w.heap.size + 1, 0, none⟩ = false := (hb1.frozen (p := ⟨w.heap.size + 1, 0, none⟩) (by simp)).trans (by simp)
    have f1 : w1.frozen? ⟨w.heap.size + 1, 1, none⟩ = false := (hb1.frozen (p := ⟨w.heap.size + 1, 1, none⟩) (by simp)).trans (by simp)
    have f2 : w1.frozen? ⟨w.heap.size + 1, 2, none⟩ = false := (hb1.frozen (p := ⟨w.heap.size + 1, 2, none⟩) (by simp)).trans (by simp)
    have hsz : w.heap.size + 1 < w1.heap.size := by have := hb1.size; simp at this; omega
    have HB := Lib.hid (below_more hB2 hb1)
    have hB4 : Below w1.heap.size w1 ((w1.alloc (.cells #[.int .i64 (madeJ s zs).l, .int .u64 (madeJ s zs).c, .int .i64 (madeJ s zs).i] 24)).alloc (.cells #[.int .i64 0, .int .u64 0, .int .i64 0] 52)) := (Below.new _ _).alloc (by simp) _
    have t0 : ((w1.alloc (.cells #[.int .i64 (madeJ s zs).l, .int .u64 (madeJ s zs).c, .int .i64 (madeJ s zs).i] 24)).alloc (.cells #[.int .i64 0, .int .u64 0, .int .i64 0] 52)).cell? ⟨w1.heap.size, 0, none⟩ = some (.int .i64 (madeJ s zs).l) := by simp
    have t1 : ((w1.alloc (.cells #[.int .i64 (madeJ s zs).l, .int .u64 (madeJ s zs).c, .int .i64 (madeJ s zs).i] 24)).alloc (.cells #[.int .i64 0, .int .u64 0, .int .i64 0] 52)).cell? ⟨w1.heap.size, 1, none⟩ = some (.int .u64 (madeJ s zs).c) := by simp
    have t2 : ((w1.alloc (.cells #[.int .i64 (madeJ s zs).l, .int .u64 (madeJ s zs).c, .int .i64 (madeJ s zs).i] 24)).alloc (.cells #[.int .i64 0, .int .u64 0, .int .i64 0] 52)).cell? ⟨w1.heap.size, 2, none⟩ = some (.int .i64 (madeJ s zs).i) := by simp
    have CA := Lib.hid (as_nil_any (.iface 54 (.pointer (some ⟨w1.heap.size + 1, 0, none⟩))) ((w1.alloc (.cells #[.int .i64 (madeJ s zs).l, .int .u64 (madeJ s zs).c, .int .i64 (madeJ s zs).i] 24)).alloc (.cells #[.int .i64 0, .int .u64 0, .int .i64 0] 52)))
    have H4 := Lib.hid hB4
    have HR := Lib.hid (And.intro r0 (And.intro r1 (And.intro r2 (And.intro f0 (And.intro f1 f2)))))
    have HM := Lib.hid (And.intro t0 (And.intro t1 t2))
    clear hz hb1 HG C t0 t1 t2 hB4 r0 r1 r2 f0 f1 f2
    go_wp2_with fail
    refine CA.out.mono ?_
    rintro e w2 ⟨rfl, hb2⟩
    obtain ⟨r0, r1, r2, f0, f1, f2⟩ := HR.out
    obtain ⟨t0, t1, t2⟩ := HM.out
    have u0 := cell_later hb2 t0
    have u1 := cell_later hb2 t1
    have u2 := cell_later hb2 t2
    have q0 := (hb2.cell (p := ⟨w.heap.size + 1, 0, none⟩) (by simp; omega)).trans ((H4.out.cell (p := ⟨w.heap.size + 1, 0, none⟩) hsz).trans r0)
    have q1 := (hb2.cell (p := ⟨w.heap.size + 1, 1, none⟩) (by simp; omega)).trans ((H4.out.cell (p := ⟨w.heap.size + 1, 1, none⟩) hsz).trans r1)
    have q2 := (hb2.cell (p := ⟨w.heap.size + 1, 2, none⟩) (by simp; omega)).trans ((H4.out.cell (p := ⟨w.heap.size + 1, 2, none⟩) hsz).trans r2)
    have p0 := (hb2.frozen (p := ⟨w.heap.size + 1, 0, none⟩) (by simp; omega)).trans ((H4.out.frozen (p := ⟨w.heap.size + 1, 0, none⟩) hsz).trans f0)
    have p1 := (hb2.frozen (p := ⟨w.heap.size + 1, 1, none⟩) (by simp; omega)).trans ((H4.out.frozen (p := ⟨w.heap.size + 1, 1, none⟩) hsz).trans f1)
    have p2 := (hb2.frozen (p := ⟨w.heap.size + 1, 2, none⟩) (by simp; omega)).trans ((H4.out.frozen (p := ⟨w.heap.size + 1, 2, none⟩) hsz).trans f2)
    have H5 := Lib.hid ((HB.out.trans ((H4.out).mono (by omega))).trans (hb2.mono (by simp; omega)))
    clear HR CA H4 HM hb2 r0 r1 r2 f0 f1 f2 t0 t1 t2
    go_wp2
    refine bodyPost_ret (v := .tuple #[.agg #[.int .i64 (madeJ s zs).l, .int .u64 (madeJ s zs).c, .int .i64 (madeJ s zs).i], .int .i64 0]) ?_ rfl ⟨rfl, ((H5.out.setCell (p := ⟨w.heap.size + 1, 0, none⟩) (by simp) _).setCell (p := ⟨w.heap.size + 1, 1, none⟩) (by simp) _).setCell (p := ⟨w.heap.size + 1, 2, none⟩) (by simp) _⟩
    have c0 := setO (x := .int .i64 (madeJ s zs).i) (b := ⟨w.heap.size + 1, 2, none⟩) (setO (x := .int .u64 (madeJ s zs).c) (b := ⟨w.heap.size + 1, 1, none⟩) (setS (.int .i64 (madeJ s zs).l) q0) (ne_off (by omega))) (ne_off (by omega))
    have c1 := setO (x := .int .i64 (madeJ s zs).i) (b := ⟨w.heap.size + 1, 2, none⟩) (setS (.int .u64 (madeJ s zs).c) (setO (x := .int .i64 (madeJ s zs).l) (b := ⟨w.heap.size + 1, 0, none⟩) q1 (ne_off (by omega)))) (ne_off (by omega))
    have c2 := setS (.int .i64 (madeJ s zs).i) (setO (x := .int .u64 (madeJ s zs).c) (b := ⟨w.heap.size + 1, 1, none⟩) (setO (x := .int .i64 (madeJ s zs).l) (b := ⟨w.heap.size + 1, 0, none⟩) q2 (ne_off (by omega))) (ne_off (by omega)))
    generalize ((w2.setCell ⟨w.heap.size + 1, 0, none⟩ (.int .i64 (madeJ s zs).l)).setCell ⟨w.heap.size + 1, 1, none⟩ (.int .u64 (madeJ s zs).c)).setCell ⟨w.heap.size + 1, 2, none⟩ (.int .i64 (madeJ s zs).i) = WF at c0 c1 c2 ⊢
    simp [results, Tryd.results29, go_sem, c0, c1, c2]

end Go.Proofs.YtafghaceahchhaaDoor
