/- The contract of label.Least. -/
import Derived.Test.YtafghaceahchhaaDoorLabShown
namespace Go.Proofs.YtafghaceahchhaaDoor
open Go.RowKit Go.Proofs.Cats Go.Shelf

set_option maxRecDepth 100000 in
set_option maxHeartbeats 1000000 in
theorem least_any (a : Option Addr) (len cap : Nat) (zs : List Lab) (hreach : zs.length * 24 ≤ 140737488351232) (w : World) (hI : Labs w.heap.size w (.slice a len cap) zs) (hg : ErrT w) :
    Calls Tryd.prog 26 #[.slice a len cap] w fun e w' =>
      e = .returned (.tuple #[.agg #[.int .i64 (toldJ Lab.bot zs).l, .int .u64 (toldJ Lab.bot zs).c, .int .i64 (toldJ Lab.bot zs).i], .int .i64 (toldE zs)]) ∧ Below w.heap.size w w' := by
  obtain ⟨T, hT⟩ : ∃ T, toldJ Lab.bot zs = T := ⟨_, rfl⟩
  obtain ⟨E, hE⟩ : ∃ E, toldE zs = E := ⟨_, rfl⟩
  rw [hT, hE]
  have HT := Lib.hid hT
  have HE := Lib.hid hE
  have hB : Below w.heap.size w (w.alloc (.cells #[.int .i64 0, .int .u64 0, .int .i64 0] 24)) := Below.new _ _
  have hR : Room3 w.heap.size (w.alloc (.cells #[.int .i64 0, .int .u64 0, .int .i64 0] 24)) := ⟨_, _, _, World.cell?_alloc_at _ _ _ _ rfl, World.cell?_alloc_at _ _ _ _ rfl, World.cell?_alloc_at _ _ _ _ rfl, by go_simp, by go_simp, by go_simp⟩
  have HI := Lib.hid hI
  clear hT hE hI
  have hg1 := hg.more hB
  go_enter Tryd.func26, Tryd.ntmps26
  go_wp2_with fail
  refine (joins_any _).mono ?_
  rintro e w1 ⟨he, hb⟩
  subst he
  replace hR := hR.below hb
  replace hB := below_more hB hb
  replace hg1 := hg1.more hb
  clear hb
  go_wp2_with fail
  refine (toldJ_start a len cap zs hreach w1 ((HI.out.below hB).mono hB.size) hg1).mono ?_
  rintro e w2 ⟨he, hb⟩
  rw [HT.out, HE.out] at he
  subst he
  replace hR := hR.below hb
  replace hB := below_more hB hb
  clear hb hg1 hg
  obtain ⟨v0, v1, v2, r0, r1, r2, f0, f1, f2⟩ := hR
  have HC := Lib.hid (And.intro (setO (x := .int .i64 T.i) (b := ⟨w.heap.size, 2, none⟩) (setO (x := .int .u64 T.c) (b := ⟨w.heap.size, 1, none⟩) (setS (.int .i64 T.l) r0) (ne_off (by omega))) (ne_off (by omega))) (And.intro (setO (x := .int .i64 T.i) (b := ⟨w.heap.size, 2, none⟩) (setS (.int .u64 T.c) (setO (x := .int .i64 T.l) (b := ⟨w.heap.size, 0, none⟩) r1 (ne_off (by omega)))) (ne_off (by omega))) (setS (.int .i64 T.i) (setO (x := .int .u64 T.c) (b := ⟨w.heap.size, 1, none⟩) (setO (x := .int .i64 T.l) (b := ⟨w.heap.size, 0, none⟩) r2 (ne_off (by omega))) (ne_off (by omega))))))
  have HB := Lib.hid (((hB.setCell (p := ⟨w.heap.size, 0, none⟩) (by simp) (.int .i64 T.l)).setCell (p := ⟨w.heap.size, 1, none⟩) (by simp) (.int .u64 T.c)).setCell (p := ⟨w.heap.size, 2, none⟩) (by simp) (.int .i64 T.i))
  go_wp2
  obtain ⟨c0, c1, c2⟩ := HC.out
  refine bodyPost_ret (v := .tuple #[.agg #[.int .i64 T.l, .int .u64 T.c, .int .i64 T.i], .int .i64 E]) ?_ rfl ⟨rfl, HB.out⟩
  clear HC HB
  generalize ((w2.setCell ⟨w.heap.size, 0, none⟩ (.int .i64 T.l)).setCell ⟨w.heap.size, 1, none⟩ (.int .u64 T.c)).setCell ⟨w.heap.size, 2, none⟩ (.int .i64 T.i) = WF at c0 c1 c2 ⊢
  simp [results, Tryd.results26, go_sem, c0, c1, c2]

end Go.Proofs.YtafghaceahchhaaDoor
