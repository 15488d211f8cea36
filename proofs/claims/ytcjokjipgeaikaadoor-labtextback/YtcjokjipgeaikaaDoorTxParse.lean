/- What the listed variables hold; Parse. -/
import Derived.Test.YtcjokjipgeaikaaDoorTxLabel
import Derived.Test.YtcjokjipgeaikaaDoorTxAs
import Derived.Lib.LaidTab
namespace Go.Proofs.YtcjokjipgeaikaaDoor
open Go.RowKit Go.Shelf Go.Proofs.Fld Go.Proofs.Tx Go.Proofs.Cats

theorem gTab : Tryd.prog.globalNamed "internal/strconv.uint64pow10" = some 1 := by kernel_rfl
/-- What the listed variables hold. -/
structure Env (ga : Addr) (w : World) : Prop where
  gl : Ct.Glob ga w
  ct : w.cell? ⟨0, 0, none⟩ = some (.iface 103 (.agg #[.pointer (some ⟨6, 45, none⟩)]))
  tab : Lib.TabIs Tryd.prog w "internal/strconv.uint64pow10" .u64 Lib.pow10Tab
theorem tab_lt {w : World} (h : Lib.TabIs Tryd.prog w "internal/strconv.uint64pow10" .u64 Lib.pow10Tab) : 1 < w.heap.size := by
  have hc := h.cell gTab 0 (by simp [Lib.pow10Tab])
  exact World.block_lt_of_cell? w _ hc
theorem tab_kept {w w' : World} (h : Lib.TabIs Tryd.prog w "internal/strconv.uint64pow10" .u64 Lib.pow10Tab) (hb : w'.heap[1]? = w.heap[1]?) : Lib.TabIs Tryd.prog w' "internal/strconv.uint64pow10" .u64 Lib.pow10Tab := by
  unfold Lib.TabIs World.var? at h ⊢
  rw [gTab] at h ⊢
  simp only [Option.bind_some] at h ⊢
  rw [hb]
  exact h
theorem Env.more {ga : Addr} {w w' : World} (h : Env ga w) (hb : Below w.heap.size w w') : Env ga w' :=
  ⟨h.gl.below h.gl.lt hb, (hb.cell (p := ⟨0, 0, none⟩) (World.block_lt_of_cell? w _ h.ct)).trans h.ct, tab_kept h.tab (hb.block _ (tab_lt h.tab))⟩
theorem Env.new {ga : Addr} {w : World} (h : Env ga w) (o : Obj) : Env ga (w.alloc o) := h.more (Below.new w o)

def ParsePost (s : List UInt8) (w : World) (e : Ending) (w' : World) : Prop :=
  e = .returned (.tuple #[.agg #[.int .i64 (parseL s).l, .int .u64 ((parseL s).c : Int), .int .i64 (parseL s).i], .int .i64 (parseP s : Int), .int .i64 (parseE s)]) ∧ Below w.heap.size w w'

set_option maxRecDepth 100000 in
set_option maxHeartbeats 4000000 in
theorem parse_any (ga : Addr) (s : List UInt8) (hs : s.length ≤ 4611686018427387904) (w : World) (hE : Env ga w) :
    Calls Tryd.prog 13 #[.string (bs s)] w (ParsePost s w) := by
  have HE := Lib.hid hE
  have hgl := hE.gl.lt
  clear hE
  have b0 := Below.new w (.cells #[.int .i64 0, .int .u64 0, .int .i64 0] 24)
  have hz0 : Lb3 (w.alloc (.cells #[.int .i64 0, .int .u64 0, .int .i64 0] 24)) w.heap.size Lab.zero := World.alloc_heap_new w _
  have rx := Rx.new (w.alloc (.cells #[.int .i64 0, .int .u64 0, .int .i64 0] 24)) s
  have b1 := Below.new (w.alloc (.cells #[.int .i64 0, .int .u64 0, .int .i64 0] 24)) (.cells #[.string (bs s), .int .i64 0] 61)
  rw [World.size_alloc] at rx
  have HL := Lib.hid (label_any (w.heap.size + 1) s.length ga s (Nat.le_refl _) hs (by omega) _ rx (HE.out.more (below_more b0 b1)).gl)
  have HB1 := Lib.hid (below_more b0 b1)
  have HZ1 := Lib.hid (hz0.block (b1.block _ hz0.lt))
  clear b0 b1 rx hz0
  go_enter Tryd.func13, Tryd.ntmps13
  go_wp2_with fail
  refine (read_any s _).mono ?_
  rintro e w' ⟨rfl, rfl⟩
  rw [World.size_alloc]
  go_wp2_with fail
  refine HL.out.mono ?_
  rintro e w1 ⟨he, hr, ho⟩
  have hb1 : Below w.heap.size w w1 := only_inner HB1.out (by omega) ho
  have hz1 : Lb3 w1 w.heap.size Lab.zero := HZ1.out.block (ho.block _ HZ1.out.lt (fun e => by injection e with e; omega))
  clear hr ho HL HB1 HZ1
  obtain ⟨⟨o, r⟩, hx⟩ : ∃ x, lab s = x := ⟨_, rfl⟩
  rw [hx] at he
  have HX := Lib.hid hx
  clear hx
  have c0 := hz1.c0
  have c1 := hz1.c1
  have c2 := hz1.c2
  have f0 := hz1.fr 0
  have f1 := hz1.fr 1
  have f2 := hz1.fr 2
  have HB := Lib.hid hb1
  have HZ := Lib.hid hz1
  have hlt := hz1.lt
  clear hb1 hz1
  cases o with
  | none =>
    replace he : e = .returned (.tuple #[.agg #[.int .i64 0, .int .u64 0, .int .i64 0], .iface 51 (.agg #[.int .i64 ((s.length - r.length : Nat) : Int)])]) := he
    subst he
    obtain ⟨V, hV⟩ : ∃ V, (w1.alloc (.cells #[.int .i64 0, .int .u64 0, .int .i64 0] 24)).alloc (.cells #[.int .i64 0] 51) = V := ⟨_, rfl⟩
    have hbV : Below w1.heap.size w1 V := by
      rw [← hV]
      exact below_more (Below.new _ _) (Below.new _ _)
    have bF : Boxed V (w1.heap.size + 1) 51 (.int .i64 0) := by
      rw [← hV]
      have := Boxed.new (w1.alloc (.cells #[.int .i64 0, .int .u64 0, .int .i64 0] 24)) 51 (.int .i64 0)
      rw [World.size_alloc] at this
      exact this
    have HA := Lib.hid (as_hit ((s.length - r.length : Nat) : Int) (w1.heap.size + 1) (.int .i64 0) V ((HE.out.more (below_more HB.out hbV)).ct) bF.cell bF.frozen)
    have HBV := Lib.hid (below_more HB.out hbV)
    have HZV := Lib.hid (HZ.out.block (hbV.block _ hlt))
    clear hbV bF
    go_wp2_with fail
    refine HA.out.mono ?_
    rintro e w2 ⟨rfl, hc, hbt⟩
    have hz2 := HZV.out.block (hbt.block _ (by omega))
    have hB2 := HBV.out.trans (hbt.mono (by omega))
    have k0 := hz2.c0
    have k1 := hz2.c1
    have k2 := hz2.c2
    have g0 := hz2.fr 0
    have g1 := hz2.fr 1
    have g2 := hz2.fr 2
    have HB2 := Lib.hid hB2
    have HZ2 := Lib.hid hz2
    have zc : ∀ u x y, (((w2.setCell ⟨w.heap.size, 0, none⟩ u).setCell ⟨w.heap.size, 1, none⟩ x).setCell ⟨w.heap.size, 2, none⟩ y).cell? ⟨w1.heap.size + 1, 0, none⟩ = some (.int .i64 ((s.length - r.length : Nat) : Int)) := fun u x y =>
      (World.cell?_setCell_other _ _ _ _ (fun h => by have := congrArg Addr.block h; simp at this; omega)).trans ((World.cell?_setCell_other _ _ _ _ (fun h => by have := congrArg Addr.block h; simp at this; omega)).trans ((World.cell?_setCell_other _ _ _ _ (fun h => by have := congrArg Addr.block h; simp at this; omega)).trans hc))
    clear hbt hB2 hz2 HA HBV HZV hV c0 c1 c2 f0 f1 f2
    go_wp2
    go_region
    all_goals
      go_wp2
      have hz2 : Lb3 (((w2.setCell ⟨w.heap.size, 0, none⟩ (.int .i64 0)).setCell ⟨w.heap.size, 1, none⟩ (.int .u64 0)).setCell ⟨w.heap.size, 2, none⟩ (.int .i64 0)) w.heap.size Lab.zero := ((HZ2.out.set0 0).set1 0).set2 0
      have hb2 : Below w.heap.size w (((w2.setCell ⟨w.heap.size, 0, none⟩ (.int .i64 0)).setCell ⟨w.heap.size, 1, none⟩ (.int .u64 0)).setCell ⟨w.heap.size, 2, none⟩ (.int .i64 0)) :=
        ((HB2.out.setCell (p := ⟨w.heap.size, 0, none⟩) (Nat.le_refl _) _).setCell (p := ⟨w.heap.size, 1, none⟩) (Nat.le_refl _) _).setCell (p := ⟨w.heap.size, 2, none⟩) (Nat.le_refl _) _
      generalize ((w2.setCell ⟨w.heap.size, 0, none⟩ (.int .i64 0)).setCell ⟨w.heap.size, 1, none⟩ (.int .u64 0)).setCell ⟨w.heap.size, 2, none⟩ (.int .i64 0) = U at *
      have q0 := hz2.c0
      have q1 := hz2.c1
      have q2 := hz2.c2
      refine bodyPost_ret (v := .tuple #[.agg #[.int .i64 0, .int .u64 0, .int .i64 0], .int .i64 ((s.length - r.length : Nat) : Int), .int .i64 50]) (by simp [results, Tryd.results13, go_sem, q0, q1, q2, Lab.zero]) rfl ?_
      refine ⟨?_, ⟨hb2.os, hb2.tape, hb2.output, hb2.size, hb2.block⟩⟩
      unfold parseL parseP parseE
      rw [HX.out]
      rfl
  | some x =>
    replace he : e = .returned (.tuple #[.agg #[.int .i64 x.l, .int .u64 (x.c : Int), .int .i64 x.i], .nilIface]) := he
    subst he
    obtain ⟨V, hV⟩ : ∃ V, (w1.alloc (.cells #[.int .i64 x.l, .int .u64 (x.c : Int), .int .i64 x.i] 24)).alloc (.cells #[.int .i64 0] 51) = V := ⟨_, rfl⟩
    have hbV : Below w1.heap.size w1 V := by
      rw [← hV]
      exact below_more (Below.new _ _) (Below.new _ _)
    have hxV : Lb3 V w1.heap.size x := by
      rw [← hV]
      exact (Below.heap_alloc _ _ _ (by simp)).trans (World.alloc_heap_new w1 _)
    have HBV := Lib.hid (below_more HB.out hbV)
    have hzV := HZ.out.block (hbV.block _ hlt)
    have HZV := Lib.hid hzV
    have k0 := hzV.c0
    have k1 := hzV.c1
    have k2 := hzV.c2
    have g0 := hzV.fr 0
    have g1 := hzV.fr 1
    have g2 := hzV.fr 2
    have x0 := hxV.c0
    have x1 := hxV.c1
    have x2 := hxV.c2
    clear hbV hxV hzV c0 c1 c2 f0 f1 f2
    go_wp2_with fail
    refine (as_nil _ _).mono ?_
    rintro e w' ⟨rfl, rfl⟩
    go_wp2
    have hz2 : Lb3 (((V.setCell ⟨w.heap.size, 0, none⟩ (.int .i64 x.l)).setCell ⟨w.heap.size, 1, none⟩ (.int .u64 (x.c : Int))).setCell ⟨w.heap.size, 2, none⟩ (.int .i64 x.i)) w.heap.size x := ((HZV.out.set0 x.l).set1 x.c).set2 x.i
    have hb2 : Below w.heap.size w (((V.setCell ⟨w.heap.size, 0, none⟩ (.int .i64 x.l)).setCell ⟨w.heap.size, 1, none⟩ (.int .u64 (x.c : Int))).setCell ⟨w.heap.size, 2, none⟩ (.int .i64 x.i)) :=
      ((HBV.out.setCell (p := ⟨w.heap.size, 0, none⟩) (Nat.le_refl _) _).setCell (p := ⟨w.heap.size, 1, none⟩) (Nat.le_refl _) _).setCell (p := ⟨w.heap.size, 2, none⟩) (Nat.le_refl _) _
    generalize ((V.setCell ⟨w.heap.size, 0, none⟩ (.int .i64 x.l)).setCell ⟨w.heap.size, 1, none⟩ (.int .u64 (x.c : Int))).setCell ⟨w.heap.size, 2, none⟩ (.int .i64 x.i) = U at *
    have q0 := hz2.c0
    have q1 := hz2.c1
    have q2 := hz2.c2
    refine bodyPost_ret (v := .tuple #[.agg #[.int .i64 x.l, .int .u64 (x.c : Int), .int .i64 x.i], .int .i64 0, .int .i64 0]) (by simp [results, Tryd.results13, go_sem, q0, q1, q2]) rfl ?_
    refine ⟨?_, hb2⟩
    unfold parseL parseP parseE
    rw [HX.out]
    rfl

end Go.Proofs.YtcjokjipgeaikaaDoor
