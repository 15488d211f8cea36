/- The contracts of the document's own Join and Meet of labels. -/
import Derived.Test.YtafghaceahchhaaDoorLabRef
import Derived.Test.YtafghaceahchhaaDoorLabFacts
import Derived.Test.YtafghaceahchhaaDoorLabMem
import Derived.Test.YtafghaceahchhaaDoorLabRefJ
namespace Go.Proofs.YtafghaceahchhaaDoor
open Go.RowKit Go.Proofs.Cats Go.Shelf

set_option maxRecDepth 100000 in
set_option maxHeartbeats 1000000 in
theorem refMeet_no1 (a b : Lab) (h1 : a.right = false) (w : World) (hg : ErrT w) :
    Calls Tryd.prog 15 #[.agg #[.int .i64 a.l, .int .u64 a.c, .int .i64 a.i], .agg #[.int .i64 b.l, .int .u64 b.c, .int .i64 b.i]] w fun e w' => e = .returned (.tuple #[.agg #[.int .i64 0, .int .u64 0, .int .i64 0], .int .i64 20]) ∧ Below w.heap.size w w' := by
  have H1 := Lib.hid h1
  clear h1
  have hR := room_new w (.cells #[.int .i64 a.l, .int .u64 a.c, .int .i64 a.i] 24) (.cells #[.int .i64 b.l, .int .u64 b.c, .int .i64 b.i] 24) hg
  obtain ⟨⟨a0, a1, a2⟩, ⟨b0, b1, b2⟩⟩ := two_new w a b (.cells #[.int .i64 0, .int .u64 0, .int .i64 0] 24)
  clear hg
  go_enter Tryd.func15, Tryd.ntmps15
  go_wp2_with fail
  refine (refRight_any a _).mono ?_
  rintro e w1 ⟨he, hb⟩
  rw [H1.out] at he
  subst he
  replace a0 := cell_later hb a0
  replace a1 := cell_later hb a1
  replace a2 := cell_later hb a2
  replace b0 := cell_later hb b0
  replace b1 := cell_later hb b1
  replace b2 := cell_later hb b2
  replace hR := hR.below hb
  clear hb
  obtain ⟨v0, v1, v2, r0, r1, r2, f0, f1, f2⟩ := hR.1
  have HC := Lib.hid (And.intro (setO (x := .int .i64 0) (b := ⟨w.heap.size + 1 + 1, 2, none⟩) (setO (x := .int .u64 0) (b := ⟨w.heap.size + 1 + 1, 1, none⟩) (setS (.int .i64 0) r0) (ne_off (by omega))) (ne_off (by omega))) (And.intro (setO (x := .int .i64 0) (b := ⟨w.heap.size + 1 + 1, 2, none⟩) (setS (.int .u64 0) (setO (x := .int .i64 0) (b := ⟨w.heap.size + 1 + 1, 0, none⟩) r1 (ne_off (by omega)))) (ne_off (by omega))) (setS (.int .i64 0) (setO (x := .int .u64 0) (b := ⟨w.heap.size + 1 + 1, 1, none⟩) (setO (x := .int .i64 0) (b := ⟨w.heap.size + 1 + 1, 0, none⟩) r2 (ne_off (by omega))) (ne_off (by omega))))))
  have HB := Lib.hid (Room.mid (Room.set hR (.int .i64 0) (.int .u64 0) (.int .i64 0)))
  go_wp2
  obtain ⟨c0, c1, c2⟩ := HC.out
  refine bodyPost_ret (v := .tuple #[.agg #[.int .i64 0, .int .u64 0, .int .i64 0], .int .i64 20]) ?_ rfl ⟨rfl, HB.out⟩
  clear HC HB
  generalize ((w1.setCell ⟨w.heap.size + 1 + 1, 0, none⟩ (.int .i64 0)).setCell ⟨w.heap.size + 1 + 1, 1, none⟩ (.int .u64 0)).setCell ⟨w.heap.size + 1 + 1, 2, none⟩ (.int .i64 0) = WF at c0 c1 c2 ⊢
  simp [results, Tryd.results15, go_sem, c0, c1, c2]

set_option maxRecDepth 100000 in
set_option maxHeartbeats 1000000 in
theorem refMeet_no2 (a b : Lab) (h1 : a.right = true) (h2 : b.right = false) (w : World) (hg : ErrT w) :
    Calls Tryd.prog 15 #[.agg #[.int .i64 a.l, .int .u64 a.c, .int .i64 a.i], .agg #[.int .i64 b.l, .int .u64 b.c, .int .i64 b.i]] w fun e w' => e = .returned (.tuple #[.agg #[.int .i64 0, .int .u64 0, .int .i64 0], .int .i64 20]) ∧ Below w.heap.size w w' := by
  have H1 := Lib.hid h1
  have H2 := Lib.hid h2
  clear h1 h2
  have hR := room_new w (.cells #[.int .i64 a.l, .int .u64 a.c, .int .i64 a.i] 24) (.cells #[.int .i64 b.l, .int .u64 b.c, .int .i64 b.i] 24) hg
  obtain ⟨⟨a0, a1, a2⟩, ⟨b0, b1, b2⟩⟩ := two_new w a b (.cells #[.int .i64 0, .int .u64 0, .int .i64 0] 24)
  clear hg
  go_enter Tryd.func15, Tryd.ntmps15
  go_wp2_with fail
  refine (refRight_any a _).mono ?_
  rintro e w1 ⟨he, hb⟩
  rw [H1.out] at he
  subst he
  replace a0 := cell_later hb a0
  replace a1 := cell_later hb a1
  replace a2 := cell_later hb a2
  replace b0 := cell_later hb b0
  replace b1 := cell_later hb b1
  replace b2 := cell_later hb b2
  replace hR := hR.below hb
  clear hb
  go_wp2_with fail
  refine (refRight_any b _).mono ?_
  rintro e w2 ⟨he, hb⟩
  rw [H2.out] at he
  subst he
  replace a0 := cell_later hb a0
  replace a1 := cell_later hb a1
  replace a2 := cell_later hb a2
  replace b0 := cell_later hb b0
  replace b1 := cell_later hb b1
  replace b2 := cell_later hb b2
  replace hR := hR.below hb
  clear hb
  obtain ⟨v0, v1, v2, r0, r1, r2, f0, f1, f2⟩ := hR.1
  have HC := Lib.hid (And.intro (setO (x := .int .i64 0) (b := ⟨w.heap.size + 1 + 1, 2, none⟩) (setO (x := .int .u64 0) (b := ⟨w.heap.size + 1 + 1, 1, none⟩) (setS (.int .i64 0) r0) (ne_off (by omega))) (ne_off (by omega))) (And.intro (setO (x := .int .i64 0) (b := ⟨w.heap.size + 1 + 1, 2, none⟩) (setS (.int .u64 0) (setO (x := .int .i64 0) (b := ⟨w.heap.size + 1 + 1, 0, none⟩) r1 (ne_off (by omega)))) (ne_off (by omega))) (setS (.int .i64 0) (setO (x := .int .u64 0) (b := ⟨w.heap.size + 1 + 1, 1, none⟩) (setO (x := .int .i64 0) (b := ⟨w.heap.size + 1 + 1, 0, none⟩) r2 (ne_off (by omega))) (ne_off (by omega))))))
  have HB := Lib.hid (Room.mid (Room.set hR (.int .i64 0) (.int .u64 0) (.int .i64 0)))
  go_wp2
  obtain ⟨c0, c1, c2⟩ := HC.out
  refine bodyPost_ret (v := .tuple #[.agg #[.int .i64 0, .int .u64 0, .int .i64 0], .int .i64 20]) ?_ rfl ⟨rfl, HB.out⟩
  clear HC HB
  generalize ((w2.setCell ⟨w.heap.size + 1 + 1, 0, none⟩ (.int .i64 0)).setCell ⟨w.heap.size + 1 + 1, 1, none⟩ (.int .u64 0)).setCell ⟨w.heap.size + 1 + 1, 2, none⟩ (.int .i64 0) = WF at c0 c1 c2 ⊢
  simp [results, Tryd.results15, go_sem, c0, c1, c2]

set_option maxRecDepth 100000 in
set_option maxHeartbeats 2000000 in
theorem refMeet_ll (a b : Lab) (ha : a.fits) (hb0 : b.fits) (h1 : a.right = true) (h2 : b.right = true) (p1 : b.l < a.l) (p2 : a.i < b.i) (w : World) (hg : ErrT w) :
    Calls Tryd.prog 15 #[.agg #[.int .i64 a.l, .int .u64 a.c, .int .i64 a.i], .agg #[.int .i64 b.l, .int .u64 b.c, .int .i64 b.i]] w fun e w' => e = .returned (.tuple #[.agg #[.int .i64 b.l, .int .u64 (a.c &&& b.c : Nat), .int .i64 b.i], .int .i64 0]) ∧ Below w.heap.size w w' := by
  have H1 := Lib.hid h1
  have H2 := Lib.hid h2
  clear h1 h2
  obtain ⟨cc, hcc⟩ : ∃ cc : Nat, a.c &&& b.c = cc := ⟨_, rfl⟩
  have hw := sub_less a.c b.c ha hb0
  rw [hcc] at hw
  rw [hcc]
  clear hcc
  have hR := room_new w (.cells #[.int .i64 a.l, .int .u64 a.c, .int .i64 a.i] 24) (.cells #[.int .i64 b.l, .int .u64 b.c, .int .i64 b.i] 24) hg
  obtain ⟨⟨a0, a1, a2⟩, ⟨b0, b1, b2⟩⟩ := two_new w a b (.cells #[.int .i64 0, .int .u64 0, .int .i64 0] 24)
  clear hg
  go_enter Tryd.func15, Tryd.ntmps15
  go_wp2_with fail
  refine (refRight_any a _).mono ?_
  rintro e w1 ⟨he, hb⟩
  rw [H1.out] at he
  subst he
  replace a0 := cell_later hb a0
  replace a1 := cell_later hb a1
  replace a2 := cell_later hb a2
  replace b0 := cell_later hb b0
  replace b1 := cell_later hb b1
  replace b2 := cell_later hb b2
  replace hR := hR.below hb
  clear hb
  go_wp2_with fail
  refine (refRight_any b _).mono ?_
  rintro e w2 ⟨he, hb⟩
  rw [H2.out] at he
  subst he
  replace a0 := cell_later hb a0
  replace a1 := cell_later hb a1
  replace a2 := cell_later hb a2
  replace b0 := cell_later hb b0
  replace b1 := cell_later hb b1
  replace b2 := cell_later hb b2
  replace hR := hR.below hb
  clear hb
  go_wp2_with fail
  have hM : RefS w a b w2 := ⟨labsAt_cons a0 a1 a2 (labsAt_cons b0 b1 b2 (labsAt_nil hR.mid hR.err)), hR.1, hR.2.2.2⟩
  obtain ⟨v0, v1, v2, r0, r1, r2, f0, f1, f2⟩ := hR.1
  clear a0 a1 a2 b0 b1 b2 hR
  refine wp_region_held_drew (S := RefS w a b) (by kernel_rfl) (hM.drew) (fun hS0 => ?_)
  clear hM
  refine wpAnyH_take (i := 0) (oi := { dst := some 15, op := Go.Op.fieldAddr 24 (Go.Operand.tmp 2) 0, type := 0, pos := "ref.go:31", after := #[], guard := none }) (v := ?_) rfl (by kernel_rfl) (by kernel_rfl) (by kernel_rfl) (fun _ _ _ h => h) (Or.inl ⟨by rfl, ?_⟩) hS0 ?_; rotate_left; (· (intro wq hSw; obtain ⟨a0, a1, a2, hq⟩ := labsAt_head hSw.1; obtain ⟨b0, b1, b2, _⟩ := labsAt_head hq; go_simp; try with_reducible rfl))
  try simp only [Act.put, List.setIfInBounds_toArray, List.set_cons_zero, List.set_cons_succ]
  refine wpAnyH_take (i := 1) (oi := { dst := some 16, op := Go.Op.load 3 (Go.Operand.tmp 15), type := 3, pos := "ref.go:31", after := #[{ on := 0, ground := Go.Ground.data }], guard := none }) (v := ?_) rfl (by kernel_rfl) (by kernel_rfl) (by kernel_rfl) (fun _ _ _ h => h) (Or.inl ⟨by rfl, ?_⟩) hS0 ?_; rotate_left; (· (intro wq hSw; obtain ⟨a0, a1, a2, hq⟩ := labsAt_head hSw.1; obtain ⟨b0, b1, b2, _⟩ := labsAt_head hq; go_simp; try with_reducible rfl))
  try simp only [Act.put, List.setIfInBounds_toArray, List.set_cons_zero, List.set_cons_succ]
  refine wpAnyH_take (i := 2) (oi := { dst := some 17, op := Go.Op.fieldAddr 24 (Go.Operand.tmp 3) 0, type := 0, pos := "ref.go:31", after := #[], guard := none }) (v := ?_) rfl (by kernel_rfl) (by kernel_rfl) (by kernel_rfl) (fun _ _ _ h => h) (Or.inl ⟨by rfl, ?_⟩) hS0 ?_; rotate_left; (· (intro wq hSw; obtain ⟨a0, a1, a2, hq⟩ := labsAt_head hSw.1; obtain ⟨b0, b1, b2, _⟩ := labsAt_head hq; go_simp; try with_reducible rfl))
  try simp only [Act.put, List.setIfInBounds_toArray, List.set_cons_zero, List.set_cons_succ]
  refine wpAnyH_take (i := 3) (oi := { dst := some 18, op := Go.Op.load 3 (Go.Operand.tmp 17), type := 3, pos := "ref.go:31", after := #[{ on := 2, ground := Go.Ground.data }], guard := none }) (v := ?_) rfl (by kernel_rfl) (by kernel_rfl) (by kernel_rfl) (fun _ _ _ h => h) (Or.inl ⟨by rfl, ?_⟩) hS0 ?_; rotate_left; (· (intro wq hSw; obtain ⟨a0, a1, a2, hq⟩ := labsAt_head hSw.1; obtain ⟨b0, b1, b2, _⟩ := labsAt_head hq; go_simp; try with_reducible rfl))
  try simp only [Act.put, List.setIfInBounds_toArray, List.set_cons_zero, List.set_cons_succ]
  refine wpAnyH_take (i := 4) (oi := { dst := some 19, op := Go.Op.call { callee := Go.Callee.builtin Go.Builtin.min, args := #[Go.Operand.tmp 16, Go.Operand.tmp 18], argTypes := #[3, 3] }, type := 3, pos := "ref.go:31", after := #[{ on := 1, ground := Go.Ground.data }, { on := 3, ground := Go.Ground.data }], guard := none }) (v := ?_) rfl (by kernel_rfl) (by kernel_rfl) (by kernel_rfl) (fun _ _ _ h => h) (Or.inl ⟨by rfl, ?_⟩) hS0 ?_; rotate_left; (· (intro wq hSw; obtain ⟨a0, a1, a2, hq⟩ := labsAt_head hSw.1; obtain ⟨b0, b1, b2, _⟩ := labsAt_head hq; go_simp; try with_reducible rfl))
  try simp only [Act.put, List.setIfInBounds_toArray, List.set_cons_zero, List.set_cons_succ]
  refine wpAnyH_take (i := 5) (oi := { dst := some 20, op := Go.Op.fieldAddr 24 (Go.Operand.tmp 2) 1, type := 0, pos := "ref.go:31", after := #[], guard := none }) (v := ?_) rfl (by kernel_rfl) (by kernel_rfl) (by kernel_rfl) (fun _ _ _ h => h) (Or.inl ⟨by rfl, ?_⟩) hS0 ?_; rotate_left; (· (intro wq hSw; obtain ⟨a0, a1, a2, hq⟩ := labsAt_head hSw.1; obtain ⟨b0, b1, b2, _⟩ := labsAt_head hq; go_simp; try with_reducible rfl))
  try simp only [Act.put, List.setIfInBounds_toArray, List.set_cons_zero, List.set_cons_succ]
  refine wpAnyH_take (i := 6) (oi := { dst := some 21, op := Go.Op.load 22 (Go.Operand.tmp 20), type := 22, pos := "ref.go:31", after := #[{ on := 5, ground := Go.Ground.data }], guard := none }) (v := ?_) rfl (by kernel_rfl) (by kernel_rfl) (by kernel_rfl) (fun _ _ _ h => h) (Or.inl ⟨by rfl, ?_⟩) hS0 ?_; rotate_left; (· (intro wq hSw; obtain ⟨a0, a1, a2, hq⟩ := labsAt_head hSw.1; obtain ⟨b0, b1, b2, _⟩ := labsAt_head hq; go_simp; try with_reducible rfl))
  try simp only [Act.put, List.setIfInBounds_toArray, List.set_cons_zero, List.set_cons_succ]
  refine wpAnyH_take (i := 7) (oi := { dst := some 22, op := Go.Op.fieldAddr 24 (Go.Operand.tmp 2) 1, type := 0, pos := "ref.go:31", after := #[], guard := none }) (v := ?_) rfl (by kernel_rfl) (by kernel_rfl) (by kernel_rfl) (fun _ _ _ h => h) (Or.inl ⟨by rfl, ?_⟩) hS0 ?_; rotate_left; (· (intro wq hSw; obtain ⟨a0, a1, a2, hq⟩ := labsAt_head hSw.1; obtain ⟨b0, b1, b2, _⟩ := labsAt_head hq; go_simp; try with_reducible rfl))
  try simp only [Act.put, List.setIfInBounds_toArray, List.set_cons_zero, List.set_cons_succ]
  refine wpAnyH_take (i := 8) (oi := { dst := some 23, op := Go.Op.load 22 (Go.Operand.tmp 22), type := 22, pos := "ref.go:31", after := #[{ on := 7, ground := Go.Ground.data }], guard := none }) (v := ?_) rfl (by kernel_rfl) (by kernel_rfl) (by kernel_rfl) (fun _ _ _ h => h) (Or.inl ⟨by rfl, ?_⟩) hS0 ?_; rotate_left; (· (intro wq hSw; obtain ⟨a0, a1, a2, hq⟩ := labsAt_head hSw.1; obtain ⟨b0, b1, b2, _⟩ := labsAt_head hq; go_simp; try with_reducible rfl))
  try simp only [Act.put, List.setIfInBounds_toArray, List.set_cons_zero, List.set_cons_succ]
  refine wpAnyH_take (i := 9) (oi := { dst := some 24, op := Go.Op.fieldAddr 24 (Go.Operand.tmp 3) 1, type := 0, pos := "ref.go:31", after := #[], guard := none }) (v := ?_) rfl (by kernel_rfl) (by kernel_rfl) (by kernel_rfl) (fun _ _ _ h => h) (Or.inl ⟨by rfl, ?_⟩) hS0 ?_; rotate_left; (· (intro wq hSw; obtain ⟨a0, a1, a2, hq⟩ := labsAt_head hSw.1; obtain ⟨b0, b1, b2, _⟩ := labsAt_head hq; go_simp; try with_reducible rfl))
  try simp only [Act.put, List.setIfInBounds_toArray, List.set_cons_zero, List.set_cons_succ]
  refine wpAnyH_take (i := 10) (oi := { dst := some 25, op := Go.Op.load 22 (Go.Operand.tmp 24), type := 22, pos := "ref.go:31", after := #[{ on := 9, ground := Go.Ground.data }], guard := none }) (v := ?_) rfl (by kernel_rfl) (by kernel_rfl) (by kernel_rfl) (fun _ _ _ h => h) (Or.inl ⟨by rfl, ?_⟩) hS0 ?_; rotate_left; (· (intro wq hSw; obtain ⟨a0, a1, a2, hq⟩ := labsAt_head hSw.1; obtain ⟨b0, b1, b2, _⟩ := labsAt_head hq; go_simp; try with_reducible rfl))
  try simp only [Act.put, List.setIfInBounds_toArray, List.set_cons_zero, List.set_cons_succ]
  refine wpAnyH_take (i := 13) (oi := { dst := some 28, op := Go.Op.fieldAddr 24 (Go.Operand.tmp 2) 2, type := 0, pos := "ref.go:31", after := #[], guard := none }) (v := ?_) rfl (by kernel_rfl) (by kernel_rfl) (by kernel_rfl) (fun _ _ _ h => h) (Or.inl ⟨by rfl, ?_⟩) hS0 ?_; rotate_left; (· (intro wq hSw; obtain ⟨a0, a1, a2, hq⟩ := labsAt_head hSw.1; obtain ⟨b0, b1, b2, _⟩ := labsAt_head hq; go_simp; try with_reducible rfl))
  try simp only [Act.put, List.setIfInBounds_toArray, List.set_cons_zero, List.set_cons_succ]
  refine wpAnyH_take (i := 14) (oi := { dst := some 29, op := Go.Op.load 3 (Go.Operand.tmp 28), type := 3, pos := "ref.go:31", after := #[{ on := 13, ground := Go.Ground.data }], guard := none }) (v := ?_) rfl (by kernel_rfl) (by kernel_rfl) (by kernel_rfl) (fun _ _ _ h => h) (Or.inl ⟨by rfl, ?_⟩) hS0 ?_; rotate_left; (· (intro wq hSw; obtain ⟨a0, a1, a2, hq⟩ := labsAt_head hSw.1; obtain ⟨b0, b1, b2, _⟩ := labsAt_head hq; go_simp; try with_reducible rfl))
  try simp only [Act.put, List.setIfInBounds_toArray, List.set_cons_zero, List.set_cons_succ]
  refine wpAnyH_take (i := 15) (oi := { dst := some 30, op := Go.Op.fieldAddr 24 (Go.Operand.tmp 3) 2, type := 0, pos := "ref.go:31", after := #[], guard := none }) (v := ?_) rfl (by kernel_rfl) (by kernel_rfl) (by kernel_rfl) (fun _ _ _ h => h) (Or.inl ⟨by rfl, ?_⟩) hS0 ?_; rotate_left; (· (intro wq hSw; obtain ⟨a0, a1, a2, hq⟩ := labsAt_head hSw.1; obtain ⟨b0, b1, b2, _⟩ := labsAt_head hq; go_simp; try with_reducible rfl))
  try simp only [Act.put, List.setIfInBounds_toArray, List.set_cons_zero, List.set_cons_succ]
  refine wpAnyH_take (i := 16) (oi := { dst := some 31, op := Go.Op.load 3 (Go.Operand.tmp 30), type := 3, pos := "ref.go:31", after := #[{ on := 15, ground := Go.Ground.data }], guard := none }) (v := ?_) rfl (by kernel_rfl) (by kernel_rfl) (by kernel_rfl) (fun _ _ _ h => h) (Or.inl ⟨by rfl, ?_⟩) hS0 ?_; rotate_left; (· (intro wq hSw; obtain ⟨a0, a1, a2, hq⟩ := labsAt_head hSw.1; obtain ⟨b0, b1, b2, _⟩ := labsAt_head hq; go_simp; try with_reducible rfl))
  try simp only [Act.put, List.setIfInBounds_toArray, List.set_cons_zero, List.set_cons_succ]
  refine wpAnyH_take (i := 17) (oi := { dst := some 32, op := Go.Op.call { callee := Go.Callee.builtin Go.Builtin.max, args := #[Go.Operand.tmp 29, Go.Operand.tmp 31], argTypes := #[3, 3] }, type := 3, pos := "ref.go:31", after := #[{ on := 14, ground := Go.Ground.data }, { on := 16, ground := Go.Ground.data }], guard := none }) (v := ?_) rfl (by kernel_rfl) (by kernel_rfl) (by kernel_rfl) (fun _ _ _ h => h) (Or.inl ⟨by rfl, ?_⟩) hS0 ?_; rotate_left; (· (intro wq hSw; obtain ⟨a0, a1, a2, hq⟩ := labsAt_head hSw.1; obtain ⟨b0, b1, b2, _⟩ := labsAt_head hq; go_simp; try with_reducible rfl))
  try simp only [Act.put, List.setIfInBounds_toArray, List.set_cons_zero, List.set_cons_succ]
  refine wpAnyH_ready (rs := [11]) (by kernel_rfl) (by simp) ?_
  refine AllReadyH.cons (o := { dst := some 26, op := Go.Op.call { callee := Go.Callee.value (Go.Operand.func 30), args := #[Go.Operand.tmp 23, Go.Operand.tmp 25], argTypes := #[22, 22] }, type := 22, pos := "ref.go:31", after := #[{ on := 8, ground := Go.Ground.data }, { on := 10, ground := Go.Ground.data }], guard := none }) rfl (fun K hK => ?_) AllReadyH.nil
  go_simp
  refine (refLess_any a.c b.c ha hb0 _).mono ?_
  rintro e wz ⟨he, rfl⟩
  subst he
  refine hK.out _ _ hS0 (fun hS1 => ?_)
  clear hK K hS0
  try simp only [Act.put, List.setIfInBounds_toArray, List.set_cons_zero, List.set_cons_succ]
  refine wpAnyH_take (i := 12) (oi := { dst := some 27, op := Go.Op.binOp Go.BinOp.sub 22 (Go.Operand.tmp 21) (Go.Operand.tmp 26) 22, type := 22, pos := "ref.go:31", after := #[{ on := 6, ground := Go.Ground.data }, { on := 11, ground := Go.Ground.data }], guard := none }) (v := ?_) rfl (by kernel_rfl) (by kernel_rfl) (by kernel_rfl) (fun _ _ _ h => h) (Or.inl ⟨by rfl, ?_⟩) hS1 ?_; rotate_left; (· (intro wq hSw; obtain ⟨a0, a1, a2, hq⟩ := labsAt_head hSw.1; obtain ⟨b0, b1, b2, _⟩ := labsAt_head hq; go_simp; try with_reducible rfl))
  try simp only [Act.put, List.setIfInBounds_toArray, List.set_cons_zero, List.set_cons_succ]
  refine wpAnyH_take (i := 18) (oi := { dst := some 33, op := Go.Op.build 24 #[(0, Go.Operand.tmp 19), (1, Go.Operand.tmp 27), (2, Go.Operand.tmp 32)], type := 24, pos := "ref.go:31", after := #[{ on := 4, ground := Go.Ground.data }, { on := 12, ground := Go.Ground.data }, { on := 17, ground := Go.Ground.data }], guard := none }) (v := ?_) rfl (by kernel_rfl) (by kernel_rfl) (by kernel_rfl) (fun _ _ _ h => h) (Or.inl ⟨by rfl, ?_⟩) hS1 ?_; rotate_left; (· (intro wq hSw; obtain ⟨a0, a1, a2, hq⟩ := labsAt_head hSw.1; obtain ⟨b0, b1, b2, _⟩ := labsAt_head hq; go_simp; try with_reducible rfl))
  try simp only [Act.put, List.setIfInBounds_toArray, List.set_cons_zero, List.set_cons_succ]
  refine wpAnyH_ready (rs := [19]) (by kernel_rfl) (by simp) ?_
  refine AllReadyH.cons (o := { dst := none, op := Go.Op.store 24 (Go.Operand.tmp 4) (Go.Operand.tmp 33), type := 0, pos := "ref.go:31", after := #[{ on := 18, ground := Go.Ground.data }, { on := 11, ground := Go.Ground.chain }, { on := 0, ground := Go.Ground.phase }, { on := 1, ground := Go.Ground.phase }, { on := 2, ground := Go.Ground.phase }, { on := 3, ground := Go.Ground.phase }, { on := 4, ground := Go.Ground.phase }, { on := 5, ground := Go.Ground.phase }, { on := 6, ground := Go.Ground.phase }, { on := 7, ground := Go.Ground.phase }, { on := 8, ground := Go.Ground.phase }, { on := 9, ground := Go.Ground.phase }, { on := 10, ground := Go.Ground.phase }, { on := 11, ground := Go.Ground.phase }, { on := 12, ground := Go.Ground.phase }, { on := 13, ground := Go.Ground.phase }, { on := 14, ground := Go.Ground.phase }, { on := 15, ground := Go.Ground.phase }, { on := 16, ground := Go.Ground.phase }, { on := 17, ground := Go.Ground.phase }, { on := 18, ground := Go.Ground.phase }], guard := none }) rfl (fun K hK => ?_) AllReadyH.nil
  go_simp
  refine hK.out _ _ (RefS.set hS1 (.int .i64 b.l) (.int .u64 cc) (.int .i64 b.i)) (fun hS2 => ?_)
  clear hK K hS1
  try simp only [Act.put, List.setIfInBounds_toArray, List.set_cons_zero, List.set_cons_succ]
  refine wpAnyH_take (i := 20) (oi := { dst := some 5, op := Go.Op.assign (Go.Operand.const (Go.Value.int Go.IntKind.i64 0)), type := 26, pos := "ref.go:31", after := #[{ on := 19, ground := Go.Ground.chain }, { on := 0, ground := Go.Ground.phase }, { on := 1, ground := Go.Ground.phase }, { on := 2, ground := Go.Ground.phase }, { on := 3, ground := Go.Ground.phase }, { on := 4, ground := Go.Ground.phase }, { on := 5, ground := Go.Ground.phase }, { on := 6, ground := Go.Ground.phase }, { on := 7, ground := Go.Ground.phase }, { on := 8, ground := Go.Ground.phase }, { on := 9, ground := Go.Ground.phase }, { on := 10, ground := Go.Ground.phase }, { on := 11, ground := Go.Ground.phase }, { on := 12, ground := Go.Ground.phase }, { on := 13, ground := Go.Ground.phase }, { on := 14, ground := Go.Ground.phase }, { on := 15, ground := Go.Ground.phase }, { on := 16, ground := Go.Ground.phase }, { on := 17, ground := Go.Ground.phase }, { on := 18, ground := Go.Ground.phase }, { on := 19, ground := Go.Ground.phase }], guard := none }) (v := ?_) rfl (by kernel_rfl) (by kernel_rfl) (by kernel_rfl) (fun _ _ _ h => h) (Or.inl ⟨by rfl, ?_⟩) hS2 ?_; rotate_left; (· (intro wq hSw; obtain ⟨a0, a1, a2, hq⟩ := labsAt_head hSw.1; obtain ⟨b0, b1, b2, _⟩ := labsAt_head hq; go_simp; try with_reducible rfl))
  try simp only [Act.put, List.setIfInBounds_toArray, List.set_cons_zero, List.set_cons_succ]
  refine wpAnyH_done (by kernel_rfl) ?_ _
  have HC := Lib.hid (And.intro (setO (x := .int .i64 b.i) (b := ⟨w.heap.size + 1 + 1, 2, none⟩) (setO (x := .int .u64 cc) (b := ⟨w.heap.size + 1 + 1, 1, none⟩) (setS (.int .i64 b.l) r0) (ne_off (by omega))) (ne_off (by omega))) (And.intro (setO (x := .int .i64 b.i) (b := ⟨w.heap.size + 1 + 1, 2, none⟩) (setS (.int .u64 cc) (setO (x := .int .i64 b.l) (b := ⟨w.heap.size + 1 + 1, 0, none⟩) r1 (ne_off (by omega)))) (ne_off (by omega))) (setS (.int .i64 b.i) (setO (x := .int .u64 cc) (b := ⟨w.heap.size + 1 + 1, 1, none⟩) (setO (x := .int .i64 b.l) (b := ⟨w.heap.size + 1 + 1, 0, none⟩) r2 (ne_off (by omega))) (ne_off (by omega))))))
  have HB := Lib.hid hS2.1.below
  clear hS2
  go_wp2
  obtain ⟨c0, c1, c2⟩ := HC.out
  refine bodyPost_ret (v := .tuple #[.agg #[.int .i64 b.l, .int .u64 cc, .int .i64 b.i], .int .i64 0]) ?_ rfl ⟨rfl, HB.out⟩
  clear HC HB r0 r1 r2 f0 f1 f2
  replace c0 : (((w2.setCell ⟨w.heap.size + 1 + 1, 0, none⟩ (.int .i64 b.l)).setCell ⟨w.heap.size + 1 + 1, 1, none⟩ (.int .u64 cc)).setCell ⟨w.heap.size + 1 + 1, 2, none⟩ (.int .i64 b.i)).drew.cell? ⟨w.heap.size + 1 + 1, 0, none⟩ = some (.int .i64 b.l) := c0
  replace c1 : (((w2.setCell ⟨w.heap.size + 1 + 1, 0, none⟩ (.int .i64 b.l)).setCell ⟨w.heap.size + 1 + 1, 1, none⟩ (.int .u64 cc)).setCell ⟨w.heap.size + 1 + 1, 2, none⟩ (.int .i64 b.i)).drew.cell? ⟨w.heap.size + 1 + 1, 1, none⟩ = some (.int .u64 cc) := c1
  replace c2 : (((w2.setCell ⟨w.heap.size + 1 + 1, 0, none⟩ (.int .i64 b.l)).setCell ⟨w.heap.size + 1 + 1, 1, none⟩ (.int .u64 cc)).setCell ⟨w.heap.size + 1 + 1, 2, none⟩ (.int .i64 b.i)).drew.cell? ⟨w.heap.size + 1 + 1, 2, none⟩ = some (.int .i64 b.i) := c2
  generalize (((w2.setCell ⟨w.heap.size + 1 + 1, 0, none⟩ (.int .i64 b.l)).setCell ⟨w.heap.size + 1 + 1, 1, none⟩ (.int .u64 cc)).setCell ⟨w.heap.size + 1 + 1, 2, none⟩ (.int .i64 b.i)).drew = WF at c0 c1 c2 ⊢
  simp [results, Tryd.results15, go_sem, c0, c1, c2]

set_option maxRecDepth 100000 in
set_option maxHeartbeats 2000000 in
theorem refMeet_lg (a b : Lab) (ha : a.fits) (hb0 : b.fits) (h1 : a.right = true) (h2 : b.right = true) (p1 : b.l < a.l) (p2 : ¬ a.i < b.i) (w : World) (hg : ErrT w) :
    Calls Tryd.prog 15 #[.agg #[.int .i64 a.l, .int .u64 a.c, .int .i64 a.i], .agg #[.int .i64 b.l, .int .u64 b.c, .int .i64 b.i]] w fun e w' => e = .returned (.tuple #[.agg #[.int .i64 b.l, .int .u64 (a.c &&& b.c : Nat), .int .i64 a.i], .int .i64 0]) ∧ Below w.heap.size w w' := by
  have H1 := Lib.hid h1
  have H2 := Lib.hid h2
  clear h1 h2
  have z2 : (if a.i < b.i then b.i else a.i) = a.i := if_neg p2
  obtain ⟨cc, hcc⟩ : ∃ cc : Nat, a.c &&& b.c = cc := ⟨_, rfl⟩
  have hw := sub_less a.c b.c ha hb0
  rw [hcc] at hw
  rw [hcc]
  clear hcc
  have hR := room_new w (.cells #[.int .i64 a.l, .int .u64 a.c, .int .i64 a.i] 24) (.cells #[.int .i64 b.l, .int .u64 b.c, .int .i64 b.i] 24) hg
  obtain ⟨⟨a0, a1, a2⟩, ⟨b0, b1, b2⟩⟩ := two_new w a b (.cells #[.int .i64 0, .int .u64 0, .int .i64 0] 24)
  clear hg
  go_enter Tryd.func15, Tryd.ntmps15
  go_wp2_with fail
  refine (refRight_any a _).mono ?_
  rintro e w1 ⟨he, hb⟩
  rw [H1.out] at he
  subst he
  replace a0 := cell_later hb a0
  replace a1 := cell_later hb a1
  replace a2 := cell_later hb a2
  replace b0 := cell_later hb b0
  replace b1 := cell_later hb b1
  replace b2 := cell_later hb b2
  replace hR := hR.below hb
  clear hb
  go_wp2_with fail
  refine (refRight_any b _).mono ?_
  rintro e w2 ⟨he, hb⟩
  rw [H2.out] at he
  subst he
  replace a0 := cell_later hb a0
  replace a1 := cell_later hb a1
  replace a2 := cell_later hb a2
  replace b0 := cell_later hb b0
  replace b1 := cell_later hb b1
  replace b2 := cell_later hb b2
  replace hR := hR.below hb
  clear hb
  go_wp2_with fail
  have hM : RefS w a b w2 := ⟨labsAt_cons a0 a1 a2 (labsAt_cons b0 b1 b2 (labsAt_nil hR.mid hR.err)), hR.1, hR.2.2.2⟩
  obtain ⟨v0, v1, v2, r0, r1, r2, f0, f1, f2⟩ := hR.1
  clear a0 a1 a2 b0 b1 b2 hR
  refine wp_region_held_drew (S := RefS w a b) (by kernel_rfl) (hM.drew) (fun hS0 => ?_)
  clear hM
  refine wpAnyH_take (i := 0) (oi := { dst := some 15, op := Go.Op.fieldAddr 24 (Go.Operand.tmp 2) 0, type := 0, pos := "ref.go:31", after := #[], guard := none }) (v := ?_) rfl (by kernel_rfl) (by kernel_rfl) (by kernel_rfl) (fun _ _ _ h => h) (Or.inl ⟨by rfl, ?_⟩) hS0 ?_; rotate_left; (· (intro wq hSw; obtain ⟨a0, a1, a2, hq⟩ := labsAt_head hSw.1; obtain ⟨b0, b1, b2, _⟩ := labsAt_head hq; go_simp; try with_reducible rfl))
  try simp only [Act.put, List.setIfInBounds_toArray, List.set_cons_zero, List.set_cons_succ]
  refine wpAnyH_take (i := 1) (oi := { dst := some 16, op := Go.Op.load 3 (Go.Operand.tmp 15), type := 3, pos := "ref.go:31", after := #[{ on := 0, ground := Go.Ground.data }], guard := none }) (v := ?_) rfl (by kernel_rfl) (by kernel_rfl) (by kernel_rfl) (fun _ _ _ h => h) (Or.inl ⟨by rfl, ?_⟩) hS0 ?_; rotate_left; (· (intro wq hSw; obtain ⟨a0, a1, a2, hq⟩ := labsAt_head hSw.1; obtain ⟨b0, b1, b2, _⟩ := labsAt_head hq; go_simp; try with_reducible rfl))
  try simp only [Act.put, List.setIfInBounds_toArray, List.set_cons_zero, List.set_cons_succ]
  refine wpAnyH_take (i := 2) (oi := { dst := some 17, op := Go.Op.fieldAddr 24 (Go.Operand.tmp 3) 0, type := 0, pos := "ref.go:31", after := #[], guard := none }) (v := ?_) rfl (by kernel_rfl) (by kernel_rfl) (by kernel_rfl) (fun _ _ _ h => h) (Or.inl ⟨by rfl, ?_⟩) hS0 ?_; rotate_left; (· (intro wq hSw; obtain ⟨a0, a1, a2, hq⟩ := labsAt_head hSw.1; obtain ⟨b0, b1, b2, _⟩ := labsAt_head hq; go_simp; try with_reducible rfl))
  try simp only [Act.put, List.setIfInBounds_toArray, List.set_cons_zero, List.set_cons_succ]
  refine wpAnyH_take (i := 3) (oi := { dst := some 18, op := Go.Op.load 3 (Go.Operand.tmp 17), type := 3, pos := "ref.go:31", after := #[{ on := 2, ground := Go.Ground.data }], guard := none }) (v := ?_) rfl (by kernel_rfl) (by kernel_rfl) (by kernel_rfl) (fun _ _ _ h => h) (Or.inl ⟨by rfl, ?_⟩) hS0 ?_; rotate_left; (· (intro wq hSw; obtain ⟨a0, a1, a2, hq⟩ := labsAt_head hSw.1; obtain ⟨b0, b1, b2, _⟩ := labsAt_head hq; go_simp; try with_reducible rfl))
  try simp only [Act.put, List.setIfInBounds_toArray, List.set_cons_zero, List.set_cons_succ]
  refine wpAnyH_take (i := 4) (oi := { dst := some 19, op := Go.Op.call { callee := Go.Callee.builtin Go.Builtin.min, args := #[Go.Operand.tmp 16, Go.Operand.tmp 18], argTypes := #[3, 3] }, type := 3, pos := "ref.go:31", after := #[{ on := 1, ground := Go.Ground.data }, { on := 3, ground := Go.Ground.data }], guard := none }) (v := ?_) rfl (by kernel_rfl) (by kernel_rfl) (by kernel_rfl) (fun _ _ _ h => h) (Or.inl ⟨by rfl, ?_⟩) hS0 ?_; rotate_left; (· (intro wq hSw; obtain ⟨a0, a1, a2, hq⟩ := labsAt_head hSw.1; obtain ⟨b0, b1, b2, _⟩ := labsAt_head hq; go_simp; try with_reducible rfl))
  try simp only [Act.put, List.setIfInBounds_toArray, List.set_cons_zero, List.set_cons_succ]
  refine wpAnyH_take (i := 5) (oi := { dst := some 20, op := Go.Op.fieldAddr 24 (Go.Operand.tmp 2) 1, type := 0, pos := "ref.go:31", after := #[], guard := none }) (v := ?_) rfl (by kernel_rfl) (by kernel_rfl) (by kernel_rfl) (fun _ _ _ h => h) (Or.inl ⟨by rfl, ?_⟩) hS0 ?_; rotate_left; (· (intro wq hSw; obtain ⟨a0, a1, a2, hq⟩ := labsAt_head hSw.1; obtain ⟨b0, b1, b2, _⟩ := labsAt_head hq; go_simp; try with_reducible rfl))
  try simp only [Act.put, List.setIfInBounds_toArray, List.set_cons_zero, List.set_cons_succ]
  refine wpAnyH_take (i := 6) (oi := { dst := some 21, op := Go.Op.load 22 (Go.Operand.tmp 20), type := 22, pos := "ref.go:31", after := #[{ on := 5, ground := Go.Ground.data }], guard := none }) (v := ?_) rfl (by kernel_rfl) (by kernel_rfl) (by kernel_rfl) (fun _ _ _ h => h) (Or.inl ⟨by rfl, ?_⟩) hS0 ?_; rotate_left; (· (intro wq hSw; obtain ⟨a0, a1, a2, hq⟩ := labsAt_head hSw.1; obtain ⟨b0, b1, b2, _⟩ := labsAt_head hq; go_simp; try with_reducible rfl))
  try simp only [Act.put, List.setIfInBounds_toArray, List.set_cons_zero, List.set_cons_succ]
  refine wpAnyH_take (i := 7) (oi := { dst := some 22, op := Go.Op.fieldAddr 24 (Go.Operand.tmp 2) 1, type := 0, pos := "ref.go:31", after := #[], guard := none }) (v := ?_) rfl (by kernel_rfl) (by kernel_rfl) (by kernel_rfl) (fun _ _ _ h => h) (Or.inl ⟨by rfl, ?_⟩) hS0 ?_; rotate_left; (· (intro wq hSw; obtain ⟨a0, a1, a2, hq⟩ := labsAt_head hSw.1; obtain ⟨b0, b1, b2, _⟩ := labsAt_head hq; go_simp; try with_reducible rfl))
  try simp only [Act.put, List.setIfInBounds_toArray, List.set_cons_zero, List.set_cons_succ]
  refine wpAnyH_take (i := 8) (oi := { dst := some 23, op := Go.Op.load 22 (Go.Operand.tmp 22), type := 22, pos := "ref.go:31", after := #[{ on := 7, ground := Go.Ground.data }], guard := none }) (v := ?_) rfl (by kernel_rfl) (by kernel_rfl) (by kernel_rfl) (fun _ _ _ h => h) (Or.inl ⟨by rfl, ?_⟩) hS0 ?_; rotate_left; (· (intro wq hSw; obtain ⟨a0, a1, a2, hq⟩ := labsAt_head hSw.1; obtain ⟨b0, b1, b2, _⟩ := labsAt_head hq; go_simp; try with_reducible rfl))
  try simp only [Act.put, List.setIfInBounds_toArray, List.set_cons_zero, List.set_cons_succ]
  refine wpAnyH_take (i := 9) (oi := { dst := some 24, op := Go.Op.fieldAddr 24 (Go.Operand.tmp 3) 1, type := 0, pos := "ref.go:31", after := #[], guard := none }) (v := ?_) rfl (by kernel_rfl) (by kernel_rfl) (by kernel_rfl) (fun _ _ _ h => h) (Or.inl ⟨by rfl, ?_⟩) hS0 ?_; rotate_left; (· (intro wq hSw; obtain ⟨a0, a1, a2, hq⟩ := labsAt_head hSw.1; obtain ⟨b0, b1, b2, _⟩ := labsAt_head hq; go_simp; try with_reducible rfl))
  try simp only [Act.put, List.setIfInBounds_toArray, List.set_cons_zero, List.set_cons_succ]
  refine wpAnyH_take (i := 10) (oi := { dst := some 25, op := Go.Op.load 22 (Go.Operand.tmp 24), type := 22, pos := "ref.go:31", after := #[{ on := 9, ground := Go.Ground.data }], guard := none }) (v := ?_) rfl (by kernel_rfl) (by kernel_rfl) (by kernel_rfl) (fun _ _ _ h => h) (Or.inl ⟨by rfl, ?_⟩) hS0 ?_; rotate_left; (· (intro wq hSw; obtain ⟨a0, a1, a2, hq⟩ := labsAt_head hSw.1; obtain ⟨b0, b1, b2, _⟩ := labsAt_head hq; go_simp; try with_reducible rfl))
  try simp only [Act.put, List.setIfInBounds_toArray, List.set_cons_zero, List.set_cons_succ]
  refine wpAnyH_take (i := 13) (oi := { dst := some 28, op := Go.Op.fieldAddr 24 (Go.Operand.tmp 2) 2, type := 0, pos := "ref.go:31", after := #[], guard := none }) (v := ?_) rfl (by kernel_rfl) (by kernel_rfl) (by kernel_rfl) (fun _ _ _ h => h) (Or.inl ⟨by rfl, ?_⟩) hS0 ?_; rotate_left; (· (intro wq hSw; obtain ⟨a0, a1, a2, hq⟩ := labsAt_head hSw.1; obtain ⟨b0, b1, b2, _⟩ := labsAt_head hq; go_simp; try with_reducible rfl))
  try simp only [Act.put, List.setIfInBounds_toArray, List.set_cons_zero, List.set_cons_succ]
  refine wpAnyH_take (i := 14) (oi := { dst := some 29, op := Go.Op.load 3 (Go.Operand.tmp 28), type := 3, pos := "ref.go:31", after := #[{ on := 13, ground := Go.Ground.data }], guard := none }) (v := ?_) rfl (by kernel_rfl) (by kernel_rfl) (by kernel_rfl) (fun _ _ _ h => h) (Or.inl ⟨by rfl, ?_⟩) hS0 ?_; rotate_left; (· (intro wq hSw; obtain ⟨a0, a1, a2, hq⟩ := labsAt_head hSw.1; obtain ⟨b0, b1, b2, _⟩ := labsAt_head hq; go_simp; try with_reducible rfl))
  try simp only [Act.put, List.setIfInBounds_toArray, List.set_cons_zero, List.set_cons_succ]
  refine wpAnyH_take (i := 15) (oi := { dst := some 30, op := Go.Op.fieldAddr 24 (Go.Operand.tmp 3) 2, type := 0, pos := "ref.go:31", after := #[], guard := none }) (v := ?_) rfl (by kernel_rfl) (by kernel_rfl) (by kernel_rfl) (fun _ _ _ h => h) (Or.inl ⟨by rfl, ?_⟩) hS0 ?_; rotate_left; (· (intro wq hSw; obtain ⟨a0, a1, a2, hq⟩ := labsAt_head hSw.1; obtain ⟨b0, b1, b2, _⟩ := labsAt_head hq; go_simp; try with_reducible rfl))
  try simp only [Act.put, List.setIfInBounds_toArray, List.set_cons_zero, List.set_cons_succ]
  refine wpAnyH_take (i := 16) (oi := { dst := some 31, op := Go.Op.load 3 (Go.Operand.tmp 30), type := 3, pos := "ref.go:31", after := #[{ on := 15, ground := Go.Ground.data }], guard := none }) (v := ?_) rfl (by kernel_rfl) (by kernel_rfl) (by kernel_rfl) (fun _ _ _ h => h) (Or.inl ⟨by rfl, ?_⟩) hS0 ?_; rotate_left; (· (intro wq hSw; obtain ⟨a0, a1, a2, hq⟩ := labsAt_head hSw.1; obtain ⟨b0, b1, b2, _⟩ := labsAt_head hq; go_simp; try with_reducible rfl))
  try simp only [Act.put, List.setIfInBounds_toArray, List.set_cons_zero, List.set_cons_succ]
  refine wpAnyH_take (i := 17) (oi := { dst := some 32, op := Go.Op.call { callee := Go.Callee.builtin Go.Builtin.max, args := #[Go.Operand.tmp 29, Go.Operand.tmp 31], argTypes := #[3, 3] }, type := 3, pos := "ref.go:31", after := #[{ on := 14, ground := Go.Ground.data }, { on := 16, ground := Go.Ground.data }], guard := none }) (v := ?_) rfl (by kernel_rfl) (by kernel_rfl) (by kernel_rfl) (fun _ _ _ h => h) (Or.inl ⟨by rfl, ?_⟩) hS0 ?_; rotate_left; (· (intro wq hSw; obtain ⟨a0, a1, a2, hq⟩ := labsAt_head hSw.1; obtain ⟨b0, b1, b2, _⟩ := labsAt_head hq; go_simp; try with_reducible rfl))
  try simp only [Act.put, List.setIfInBounds_toArray, List.set_cons_zero, List.set_cons_succ]
  refine wpAnyH_ready (rs := [11]) (by kernel_rfl) (by simp) ?_
  refine AllReadyH.cons (o := { dst := some 26, op := Go.Op.call { callee := Go.Callee.value (Go.Operand.func 30), args := #[Go.Operand.tmp 23, Go.Operand.tmp 25], argTypes := #[22, 22] }, type := 22, pos := "ref.go:31", after := #[{ on := 8, ground := Go.Ground.data }, { on := 10, ground := Go.Ground.data }], guard := none }) rfl (fun K hK => ?_) AllReadyH.nil
  go_simp
  refine (refLess_any a.c b.c ha hb0 _).mono ?_
  rintro e wz ⟨he, rfl⟩
  subst he
  refine hK.out _ _ hS0 (fun hS1 => ?_)
  clear hK K hS0
  try simp only [Act.put, List.setIfInBounds_toArray, List.set_cons_zero, List.set_cons_succ]
  refine wpAnyH_take (i := 12) (oi := { dst := some 27, op := Go.Op.binOp Go.BinOp.sub 22 (Go.Operand.tmp 21) (Go.Operand.tmp 26) 22, type := 22, pos := "ref.go:31", after := #[{ on := 6, ground := Go.Ground.data }, { on := 11, ground := Go.Ground.data }], guard := none }) (v := ?_) rfl (by kernel_rfl) (by kernel_rfl) (by kernel_rfl) (fun _ _ _ h => h) (Or.inl ⟨by rfl, ?_⟩) hS1 ?_; rotate_left; (· (intro wq hSw; obtain ⟨a0, a1, a2, hq⟩ := labsAt_head hSw.1; obtain ⟨b0, b1, b2, _⟩ := labsAt_head hq; go_simp; try with_reducible rfl))
  try simp only [Act.put, List.setIfInBounds_toArray, List.set_cons_zero, List.set_cons_succ]
  refine wpAnyH_take (i := 18) (oi := { dst := some 33, op := Go.Op.build 24 #[(0, Go.Operand.tmp 19), (1, Go.Operand.tmp 27), (2, Go.Operand.tmp 32)], type := 24, pos := "ref.go:31", after := #[{ on := 4, ground := Go.Ground.data }, { on := 12, ground := Go.Ground.data }, { on := 17, ground := Go.Ground.data }], guard := none }) (v := ?_) rfl (by kernel_rfl) (by kernel_rfl) (by kernel_rfl) (fun _ _ _ h => h) (Or.inl ⟨by rfl, ?_⟩) hS1 ?_; rotate_left; (· (intro wq hSw; obtain ⟨a0, a1, a2, hq⟩ := labsAt_head hSw.1; obtain ⟨b0, b1, b2, _⟩ := labsAt_head hq; go_simp; try with_reducible rfl))
  try simp only [Act.put, List.setIfInBounds_toArray, List.set_cons_zero, List.set_cons_succ]
  refine wpAnyH_ready (rs := [19]) (by kernel_rfl) (by simp) ?_
  refine AllReadyH.cons (o := { dst := none, op := Go.Op.store 24 (Go.Operand.tmp 4) (Go.Operand.tmp 33), type := 0, pos := "ref.go:31", after := #[{ on := 18, ground := Go.Ground.data }, { on := 11, ground := Go.Ground.chain }, { on := 0, ground := Go.Ground.phase }, { on := 1, ground := Go.Ground.phase }, { on := 2, ground := Go.Ground.phase }, { on := 3, ground := Go.Ground.phase }, { on := 4, ground := Go.Ground.phase }, { on := 5, ground := Go.Ground.phase }, { on := 6, ground := Go.Ground.phase }, { on := 7, ground := Go.Ground.phase }, { on := 8, ground := Go.Ground.phase }, { on := 9, ground := Go.Ground.phase }, { on := 10, ground := Go.Ground.phase }, { on := 11, ground := Go.Ground.phase }, { on := 12, ground := Go.Ground.phase }, { on := 13, ground := Go.Ground.phase }, { on := 14, ground := Go.Ground.phase }, { on := 15, ground := Go.Ground.phase }, { on := 16, ground := Go.Ground.phase }, { on := 17, ground := Go.Ground.phase }, { on := 18, ground := Go.Ground.phase }], guard := none }) rfl (fun K hK => ?_) AllReadyH.nil
  go_simp
  refine hK.out _ _ (RefS.set hS1 (.int .i64 b.l) (.int .u64 cc) (.int .i64 a.i)) (fun hS2 => ?_)
  clear hK K hS1
  try simp only [Act.put, List.setIfInBounds_toArray, List.set_cons_zero, List.set_cons_succ]
  refine wpAnyH_take (i := 20) (oi := { dst := some 5, op := Go.Op.assign (Go.Operand.const (Go.Value.int Go.IntKind.i64 0)), type := 26, pos := "ref.go:31", after := #[{ on := 19, ground := Go.Ground.chain }, { on := 0, ground := Go.Ground.phase }, { on := 1, ground := Go.Ground.phase }, { on := 2, ground := Go.Ground.phase }, { on := 3, ground := Go.Ground.phase }, { on := 4, ground := Go.Ground.phase }, { on := 5, ground := Go.Ground.phase }, { on := 6, ground := Go.Ground.phase }, { on := 7, ground := Go.Ground.phase }, { on := 8, ground := Go.Ground.phase }, { on := 9, ground := Go.Ground.phase }, { on := 10, ground := Go.Ground.phase }, { on := 11, ground := Go.Ground.phase }, { on := 12, ground := Go.Ground.phase }, { on := 13, ground := Go.Ground.phase }, { on := 14, ground := Go.Ground.phase }, { on := 15, ground := Go.Ground.phase }, { on := 16, ground := Go.Ground.phase }, { on := 17, ground := Go.Ground.phase }, { on := 18, ground := Go.Ground.phase }, { on := 19, ground := Go.Ground.phase }], guard := none }) (v := ?_) rfl (by kernel_rfl) (by kernel_rfl) (by kernel_rfl) (fun _ _ _ h => h) (Or.inl ⟨by rfl, ?_⟩) hS2 ?_; rotate_left; (· (intro wq hSw; obtain ⟨a0, a1, a2, hq⟩ := labsAt_head hSw.1; obtain ⟨b0, b1, b2, _⟩ := labsAt_head hq; go_simp; try with_reducible rfl))
  try simp only [Act.put, List.setIfInBounds_toArray, List.set_cons_zero, List.set_cons_succ]
  refine wpAnyH_done (by kernel_rfl) ?_ _
  have HC := Lib.hid (And.intro (setO (x := .int .i64 a.i) (b := ⟨w.heap.size + 1 + 1, 2, none⟩) (setO (x := .int .u64 cc) (b := ⟨w.heap.size + 1 + 1, 1, none⟩) (setS (.int .i64 b.l) r0) (ne_off (by omega))) (ne_off (by omega))) (And.intro (setO (x := .int .i64 a.i) (b := ⟨w.heap.size + 1 + 1, 2, none⟩) (setS (.int .u64 cc) (setO (x := .int .i64 b.l) (b := ⟨w.heap.size + 1 + 1, 0, none⟩) r1 (ne_off (by omega)))) (ne_off (by omega))) (setS (.int .i64 a.i) (setO (x := .int .u64 cc) (b := ⟨w.heap.size + 1 + 1, 1, none⟩) (setO (x := .int .i64 b.l) (b := ⟨w.heap.size + 1 + 1, 0, none⟩) r2 (ne_off (by omega))) (ne_off (by omega))))))
  have HB := Lib.hid hS2.1.below
  clear hS2
  go_wp2
  obtain ⟨c0, c1, c2⟩ := HC.out
  refine bodyPost_ret (v := .tuple #[.agg #[.int .i64 b.l, .int .u64 cc, .int .i64 a.i], .int .i64 0]) ?_ rfl ⟨rfl, HB.out⟩
  clear HC HB r0 r1 r2 f0 f1 f2
  replace c0 : (((w2.setCell ⟨w.heap.size + 1 + 1, 0, none⟩ (.int .i64 b.l)).setCell ⟨w.heap.size + 1 + 1, 1, none⟩ (.int .u64 cc)).setCell ⟨w.heap.size + 1 + 1, 2, none⟩ (.int .i64 a.i)).drew.cell? ⟨w.heap.size + 1 + 1, 0, none⟩ = some (.int .i64 b.l) := c0
  replace c1 : (((w2.setCell ⟨w.heap.size + 1 + 1, 0, none⟩ (.int .i64 b.l)).setCell ⟨w.heap.size + 1 + 1, 1, none⟩ (.int .u64 cc)).setCell ⟨w.heap.size + 1 + 1, 2, none⟩ (.int .i64 a.i)).drew.cell? ⟨w.heap.size + 1 + 1, 1, none⟩ = some (.int .u64 cc) := c1
  replace c2 : (((w2.setCell ⟨w.heap.size + 1 + 1, 0, none⟩ (.int .i64 b.l)).setCell ⟨w.heap.size + 1 + 1, 1, none⟩ (.int .u64 cc)).setCell ⟨w.heap.size + 1 + 1, 2, none⟩ (.int .i64 a.i)).drew.cell? ⟨w.heap.size + 1 + 1, 2, none⟩ = some (.int .i64 a.i) := c2
  generalize (((w2.setCell ⟨w.heap.size + 1 + 1, 0, none⟩ (.int .i64 b.l)).setCell ⟨w.heap.size + 1 + 1, 1, none⟩ (.int .u64 cc)).setCell ⟨w.heap.size + 1 + 1, 2, none⟩ (.int .i64 a.i)).drew = WF at c0 c1 c2 ⊢
  simp [results, Tryd.results15, go_sem, c0, c1, c2]

set_option maxRecDepth 100000 in
set_option maxHeartbeats 2000000 in
theorem refMeet_gl (a b : Lab) (ha : a.fits) (hb0 : b.fits) (h1 : a.right = true) (h2 : b.right = true) (p1 : ¬ b.l < a.l) (p2 : a.i < b.i) (w : World) (hg : ErrT w) :
    Calls Tryd.prog 15 #[.agg #[.int .i64 a.l, .int .u64 a.c, .int .i64 a.i], .agg #[.int .i64 b.l, .int .u64 b.c, .int .i64 b.i]] w fun e w' => e = .returned (.tuple #[.agg #[.int .i64 a.l, .int .u64 (a.c &&& b.c : Nat), .int .i64 b.i], .int .i64 0]) ∧ Below w.heap.size w w' := by
  have H1 := Lib.hid h1
  have H2 := Lib.hid h2
  clear h1 h2
  have z1 : (if b.l < a.l then b.l else a.l) = a.l := if_neg p1
  obtain ⟨cc, hcc⟩ : ∃ cc : Nat, a.c &&& b.c = cc := ⟨_, rfl⟩
  have hw := sub_less a.c b.c ha hb0
  rw [hcc] at hw
  rw [hcc]
  clear hcc
  have hR := room_new w (.cells #[.int .i64 a.l, .int .u64 a.c, .int .i64 a.i] 24) (.cells #[.int .i64 b.l, .int .u64 b.c, .int .i64 b.i] 24) hg
  obtain ⟨⟨a0, a1, a2⟩, ⟨b0, b1, b2⟩⟩ := two_new w a b (.cells #[.int .i64 0, .int .u64 0, .int .i64 0] 24)
  clear hg
  go_enter Tryd.func15, Tryd.ntmps15
  go_wp2_with fail
  refine (refRight_any a _).mono ?_
  rintro e w1 ⟨he, hb⟩
  rw [H1.out] at he
  subst he
  replace a0 := cell_later hb a0
  replace a1 := cell_later hb a1
  replace a2 := cell_later hb a2
  replace b0 := cell_later hb b0
  replace b1 := cell_later hb b1
  replace b2 := cell_later hb b2
  replace hR := hR.below hb
  clear hb
  go_wp2_with fail
  refine (refRight_any b _).mono ?_
  rintro e w2 ⟨he, hb⟩
  rw [H2.out] at he
  subst he
  replace a0 := cell_later hb a0
  replace a1 := cell_later hb a1
  replace a2 := cell_later hb a2
  replace b0 := cell_later hb b0
  replace b1 := cell_later hb b1
  replace b2 := cell_later hb b2
  replace hR := hR.below hb
  clear hb
  go_wp2_with fail
  have hM : RefS w a b w2 := ⟨labsAt_cons a0 a1 a2 (labsAt_cons b0 b1 b2 (labsAt_nil hR.mid hR.err)), hR.1, hR.2.2.2⟩
  obtain ⟨v0, v1, v2, r0, r1, r2, f0, f1, f2⟩ := hR.1
  clear a0 a1 a2 b0 b1 b2 hR
  refine wp_region_held_drew (S := RefS w a b) (by kernel_rfl) (hM.drew) (fun hS0 => ?_)
  clear hM
  refine wpAnyH_take (i := 0) (oi := { dst := some 15, op := Go.Op.fieldAddr 24 (Go.Operand.tmp 2) 0, type := 0, pos := "ref.go:31", after := #[], guard := none }) (v := ?_) rfl (by kernel_rfl) (by kernel_rfl) (by kernel_rfl) (fun _ _ _ h => h) (Or.inl ⟨by rfl, ?_⟩) hS0 ?_; rotate_left; (· (intro wq hSw; obtain ⟨a0, a1, a2, hq⟩ := labsAt_head hSw.1; obtain ⟨b0, b1, b2, _⟩ := labsAt_head hq; go_simp; try with_reducible rfl))
  try simp only [Act.put, List.setIfInBounds_toArray, List.set_cons_zero, List.set_cons_succ]
  refine wpAnyH_take (i := 1) (oi := { dst := some 16, op := Go.Op.load 3 (Go.Operand.tmp 15), type := 3, pos := "ref.go:31", after := #[{ on := 0, ground := Go.Ground.data }], guard := none }) (v := ?_) rfl (by kernel_rfl) (by kernel_rfl) (by kernel_rfl) (fun _ _ _ h => h) (Or.inl ⟨by rfl, ?_⟩) hS0 ?_; rotate_left; (· (intro wq hSw; obtain ⟨a0, a1, a2, hq⟩ := labsAt_head hSw.1; obtain ⟨b0, b1, b2, _⟩ := labsAt_head hq; go_simp; try with_reducible rfl))
  try simp only [Act.put, List.setIfInBounds_toArray, List.set_cons_zero, List.set_cons_succ]
  refine wpAnyH_take (i := 2) (oi := { dst := some 17, op := Go.Op.fieldAddr 24 (Go.Operand.tmp 3) 0, type := 0, pos := "ref.go:31", after := #[], guard := none }) (v := ?_) rfl (by kernel_rfl) (by kernel_rfl) (by kernel_rfl) (fun _ _ _ h => h) (Or.inl ⟨by rfl, ?_⟩) hS0 ?_; rotate_left; (· (intro wq hSw; obtain ⟨a0, a1, a2, hq⟩ := labsAt_head hSw.1; obtain ⟨b0, b1, b2, _⟩ := labsAt_head hq; go_simp; try with_reducible rfl))
  try simp only [Act.put, List.setIfInBounds_toArray, List.set_cons_zero, List.set_cons_succ]
  refine wpAnyH_take (i := 3) (oi := { dst := some 18, op := Go.Op.load 3 (Go.Operand.tmp 17), type := 3, pos := "ref.go:31", after := #[{ on := 2, ground := Go.Ground.data }], guard := none }) (v := ?_) rfl (by kernel_rfl) (by kernel_rfl) (by kernel_rfl) (fun _ _ _ h => h) (Or.inl ⟨by rfl, ?_⟩) hS0 ?_; rotate_left; (· (intro wq hSw; obtain ⟨a0, a1, a2, hq⟩ := labsAt_head hSw.1; obtain ⟨b0, b1, b2, _⟩ := labsAt_head hq; go_simp; try with_reducible rfl))
  try simp only [Act.put, List.setIfInBounds_toArray, List.set_cons_zero, List.set_cons_succ]
  refine wpAnyH_take (i := 4) (oi := { dst := some 19, op := Go.Op.call { callee := Go.Callee.builtin Go.Builtin.min, args := #[Go.Operand.tmp 16, Go.Operand.tmp 18], argTypes := #[3, 3] }, type := 3, pos := "ref.go:31", after := #[{ on := 1, ground := Go.Ground.data }, { on := 3, ground := Go.Ground.data }], guard := none }) (v := ?_) rfl (by kernel_rfl) (by kernel_rfl) (by kernel_rfl) (fun _ _ _ h => h) (Or.inl ⟨by rfl, ?_⟩) hS0 ?_; rotate_left; (· (intro wq hSw; obtain ⟨a0, a1, a2, hq⟩ := labsAt_head hSw.1; obtain ⟨b0, b1, b2, _⟩ := labsAt_head hq; go_simp; try with_reducible rfl))
  try simp only [Act.put, List.setIfInBounds_toArray, List.set_cons_zero, List.set_cons_succ]
  refine wpAnyH_take (i := 5) (oi := { dst := some 20, op := Go.Op.fieldAddr 24 (Go.Operand.tmp 2) 1, type := 0, pos := "ref.go:31", after := #[], guard := none }) (v := ?_) rfl (by kernel_rfl) (by kernel_rfl) (by kernel_rfl) (fun _ _ _ h => h) (Or.inl ⟨by rfl, ?_⟩) hS0 ?_; rotate_left; (· (intro wq hSw; obtain ⟨a0, a1, a2, hq⟩ := labsAt_head hSw.1; obtain ⟨b0, b1, b2, _⟩ := labsAt_head hq; go_simp; try with_reducible rfl))
  try simp only [Act.put, List.setIfInBounds_toArray, List.set_cons_zero, List.set_cons_succ]
  refine wpAnyH_take (i := 6) (oi := { dst := some 21, op := Go.Op.load 22 (Go.Operand.tmp 20), type := 22, pos := "ref.go:31", after := #[{ on := 5, ground := Go.Ground.data }], guard := none }) (v := ?_) rfl (by kernel_rfl) (by kernel_rfl) (by kernel_rfl) (fun _ _ _ h => h) (Or.inl ⟨by rfl, ?_⟩) hS0 ?_; rotate_left; (· (intro wq hSw; obtain ⟨a0, a1, a2, hq⟩ := labsAt_head hSw.1; obtain ⟨b0, b1, b2, _⟩ := labsAt_head hq; go_simp; try with_reducible rfl))
  try simp only [Act.put, List.setIfInBounds_toArray, List.set_cons_zero, List.set_cons_succ]
  refine wpAnyH_take (i := 7) (oi := { dst := some 22, op := Go.Op.fieldAddr 24 (Go.Operand.tmp 2) 1, type := 0, pos := "ref.go:31", after := #[], guard := none }) (v := ?_) rfl (by kernel_rfl) (by kernel_rfl) (by kernel_rfl) (fun _ _ _ h => h) (Or.inl ⟨by rfl, ?_⟩) hS0 ?_; rotate_left; (· (intro wq hSw; obtain ⟨a0, a1, a2, hq⟩ := labsAt_head hSw.1; obtain ⟨b0, b1, b2, _⟩ := labsAt_head hq; go_simp; try with_reducible rfl))
  try simp only [Act.put, List.setIfInBounds_toArray, List.set_cons_zero, List.set_cons_succ]
  refine wpAnyH_take (i := 8) (oi := { dst := some 23, op := Go.Op.load 22 (Go.Operand.tmp 22), type := 22, pos := "ref.go:31", after := #[{ on := 7, ground := Go.Ground.data }], guard := none }) (v := ?_) rfl (by kernel_rfl) (by kernel_rfl) (by kernel_rfl) (fun _ _ _ h => h) (Or.inl ⟨by rfl, ?_⟩) hS0 ?_; rotate_left; (· (intro wq hSw; obtain ⟨a0, a1, a2, hq⟩ := labsAt_head hSw.1; obtain ⟨b0, b1, b2, _⟩ := labsAt_head hq; go_simp; try with_reducible rfl))
  try simp only [Act.put, List.setIfInBounds_toArray, List.set_cons_zero, List.set_cons_succ]
  refine wpAnyH_take (i := 9) (oi := { dst := some 24, op := Go.Op.fieldAddr 24 (Go.Operand.tmp 3) 1, type := 0, pos := "ref.go:31", after := #[], guard := none }) (v := ?_) rfl (by kernel_rfl) (by kernel_rfl) (by kernel_rfl) (fun _ _ _ h => h) (Or.inl ⟨by rfl, ?_⟩) hS0 ?_; rotate_left; (· (intro wq hSw; obtain ⟨a0, a1, a2, hq⟩ := labsAt_head hSw.1; obtain ⟨b0, b1, b2, _⟩ := labsAt_head hq; go_simp; try with_reducible rfl))
  try simp only [Act.put, List.setIfInBounds_toArray, List.set_cons_zero, List.set_cons_succ]
  refine wpAnyH_take (i := 10) (oi := { dst := some 25, op := Go.Op.load 22 (Go.Operand.tmp 24), type := 22, pos := "ref.go:31", after := #[{ on := 9, ground := Go.Ground.data }], guard := none }) (v := ?_) rfl (by kernel_rfl) (by kernel_rfl) (by kernel_rfl) (fun _ _ _ h => h) (Or.inl ⟨by rfl, ?_⟩) hS0 ?_; rotate_left; (· (intro wq hSw; obtain ⟨a0, a1, a2, hq⟩ := labsAt_head hSw.1; obtain ⟨b0, b1, b2, _⟩ := labsAt_head hq; go_simp; try with_reducible rfl))
  try simp only [Act.put, List.setIfInBounds_toArray, List.set_cons_zero, List.set_cons_succ]
  refine wpAnyH_take (i := 13) (oi := { dst := some 28, op := Go.Op.fieldAddr 24 (Go.Operand.tmp 2) 2, type := 0, pos := "ref.go:31", after := #[], guard := none }) (v := ?_) rfl (by kernel_rfl) (by kernel_rfl) (by kernel_rfl) (fun _ _ _ h => h) (Or.inl ⟨by rfl, ?_⟩) hS0 ?_; rotate_left; (· (intro wq hSw; obtain ⟨a0, a1, a2, hq⟩ := labsAt_head hSw.1; obtain ⟨b0, b1, b2, _⟩ := labsAt_head hq; go_simp; try with_reducible rfl))
  try simp only [Act.put, List.setIfInBounds_toArray, List.set_cons_zero, List.set_cons_succ]
  refine wpAnyH_take (i := 14) (oi := { dst := some 29, op := Go.Op.load 3 (Go.Operand.tmp 28), type := 3, pos := "ref.go:31", after := #[{ on := 13, ground := Go.Ground.data }], guard := none }) (v := ?_) rfl (by kernel_rfl) (by kernel_rfl) (by kernel_rfl) (fun _ _ _ h => h) (Or.inl ⟨by rfl, ?_⟩) hS0 ?_; rotate_left; (· (intro wq hSw; obtain ⟨a0, a1, a2, hq⟩ := labsAt_head hSw.1; obtain ⟨b0, b1, b2, _⟩ := labsAt_head hq; go_simp; try with_reducible rfl))
  try simp only [Act.put, List.setIfInBounds_toArray, List.set_cons_zero, List.set_cons_succ]
  refine wpAnyH_take (i := 15) (oi := { dst := some 30, op := Go.Op.fieldAddr 24 (Go.Operand.tmp 3) 2, type := 0, pos := "ref.go:31", after := #[], guard := none }) (v := ?_) rfl (by kernel_rfl) (by kernel_rfl) (by kernel_rfl) (fun _ _ _ h => h) (Or.inl ⟨by rfl, ?_⟩) hS0 ?_; rotate_left; (· (intro wq hSw; obtain ⟨a0, a1, a2, hq⟩ := labsAt_head hSw.1; obtain ⟨b0, b1, b2, _⟩ := labsAt_head hq; go_simp; try with_reducible rfl))
  try simp only [Act.put, List.setIfInBounds_toArray, List.set_cons_zero, List.set_cons_succ]
  refine wpAnyH_take (i := 16) (oi := { dst := some 31, op := Go.Op.load 3 (Go.Operand.tmp 30), type := 3, pos := "ref.go:31", after := #[{ on := 15, ground := Go.Ground.data }], guard := none }) (v := ?_) rfl (by kernel_rfl) (by kernel_rfl) (by kernel_rfl) (fun _ _ _ h => h) (Or.inl ⟨by rfl, ?_⟩) hS0 ?_; rotate_left; (· (intro wq hSw; obtain ⟨a0, a1, a2, hq⟩ := labsAt_head hSw.1; obtain ⟨b0, b1, b2, _⟩ := labsAt_head hq; go_simp; try with_reducible rfl))
  try simp only [Act.put, List.setIfInBounds_toArray, List.set_cons_zero, List.set_cons_succ]
  refine wpAnyH_take (i := 17) (oi := { dst := some 32, op := Go.Op.call { callee := Go.Callee.builtin Go.Builtin.max, args := #[Go.Operand.tmp 29, Go.Operand.tmp 31], argTypes := #[3, 3] }, type := 3, pos := "ref.go:31", after := #[{ on := 14, ground := Go.Ground.data }, { on := 16, ground := Go.Ground.data }], guard := none }) (v := ?_) rfl (by kernel_rfl) (by kernel_rfl) (by kernel_rfl) (fun _ _ _ h => h) (Or.inl ⟨by rfl, ?_⟩) hS0 ?_; rotate_left; (· (intro wq hSw; obtain ⟨a0, a1, a2, hq⟩ := labsAt_head hSw.1; obtain ⟨b0, b1, b2, _⟩ := labsAt_head hq; go_simp; try with_reducible rfl))
  try simp only [Act.put, List.setIfInBounds_toArray, List.set_cons_zero, List.set_cons_succ]
  refine wpAnyH_ready (rs := [11]) (by kernel_rfl) (by simp) ?_
  refine AllReadyH.cons (o := { dst := some 26, op := Go.Op.call { callee := Go.Callee.value (Go.Operand.func 30), args := #[Go.Operand.tmp 23, Go.Operand.tmp 25], argTypes := #[22, 22] }, type := 22, pos := "ref.go:31", after := #[{ on := 8, ground := Go.Ground.data }, { on := 10, ground := Go.Ground.data }], guard := none }) rfl (fun K hK => ?_) AllReadyH.nil
  go_simp
  refine (refLess_any a.c b.c ha hb0 _).mono ?_
  rintro e wz ⟨he, rfl⟩
  subst he
  refine hK.out _ _ hS0 (fun hS1 => ?_)
  clear hK K hS0
  try simp only [Act.put, List.setIfInBounds_toArray, List.set_cons_zero, List.set_cons_succ]
  refine wpAnyH_take (i := 12) (oi := { dst := some 27, op := Go.Op.binOp Go.BinOp.sub 22 (Go.Operand.tmp 21) (Go.Operand.tmp 26) 22, type := 22, pos := "ref.go:31", after := #[{ on := 6, ground := Go.Ground.data }, { on := 11, ground := Go.Ground.data }], guard := none }) (v := ?_) rfl (by kernel_rfl) (by kernel_rfl) (by kernel_rfl) (fun _ _ _ h => h) (Or.inl ⟨by rfl, ?_⟩) hS1 ?_; rotate_left; (· (intro wq hSw; obtain ⟨a0, a1, a2, hq⟩ := labsAt_head hSw.1; obtain ⟨b0, b1, b2, _⟩ := labsAt_head hq; go_simp; try with_reducible rfl))
  try simp only [Act.put, List.setIfInBounds_toArray, List.set_cons_zero, List.set_cons_succ]
  refine wpAnyH_take (i := 18) (oi := { dst := some 33, op := Go.Op.build 24 #[(0, Go.Operand.tmp 19), (1, Go.Operand.tmp 27), (2, Go.Operand.tmp 32)], type := 24, pos := "ref.go:31", after := #[{ on := 4, ground := Go.Ground.data }, { on := 12, ground := Go.Ground.data }, { on := 17, ground := Go.Ground.data }], guard := none }) (v := ?_) rfl (by kernel_rfl) (by kernel_rfl) (by kernel_rfl) (fun _ _ _ h => h) (Or.inl ⟨by rfl, ?_⟩) hS1 ?_; rotate_left; (· (intro wq hSw; obtain ⟨a0, a1, a2, hq⟩ := labsAt_head hSw.1; obtain ⟨b0, b1, b2, _⟩ := labsAt_head hq; go_simp; try with_reducible rfl))
  try simp only [Act.put, List.setIfInBounds_toArray, List.set_cons_zero, List.set_cons_succ]
  refine wpAnyH_ready (rs := [19]) (by kernel_rfl) (by simp) ?_
  refine AllReadyH.cons (o := { dst := none, op := Go.Op.store 24 (Go.Operand.tmp 4) (Go.Operand.tmp 33), type := 0, pos := "ref.go:31", after := #[{ on := 18, ground := Go.Ground.data }, { on := 11, ground := Go.Ground.chain }, { on := 0, ground := Go.Ground.phase }, { on := 1, ground := Go.Ground.phase }, { on := 2, ground := Go.Ground.phase }, { on := 3, ground := Go.Ground.phase }, { on := 4, ground := Go.Ground.phase }, { on := 5, ground := Go.Ground.phase }, { on := 6, ground := Go.Ground.phase }, { on := 7, ground := Go.Ground.phase }, { on := 8, ground := Go.Ground.phase }, { on := 9, ground := Go.Ground.phase }, { on := 10, ground := Go.Ground.phase }, { on := 11, ground := Go.Ground.phase }, { on := 12, ground := Go.Ground.phase }, { on := 13, ground := Go.Ground.phase }, { on := 14, ground := Go.Ground.phase }, { on := 15, ground := Go.Ground.phase }, { on := 16, ground := Go.Ground.phase }, { on := 17, ground := Go.Ground.phase }, { on := 18, ground := Go.Ground.phase }], guard := none }) rfl (fun K hK => ?_) AllReadyH.nil
  go_simp
  refine hK.out _ _ (RefS.set hS1 (.int .i64 a.l) (.int .u64 cc) (.int .i64 b.i)) (fun hS2 => ?_)
  clear hK K hS1
  try simp only [Act.put, List.setIfInBounds_toArray, List.set_cons_zero, List.set_cons_succ]
  refine wpAnyH_take (i := 20) (oi := { dst := some 5, op := Go.Op.assign (Go.Operand.const (Go.Value.int Go.IntKind.i64 0)), type := 26, pos := "ref.go:31", after := #[{ on := 19, ground := Go.Ground.chain }, { on := 0, ground := Go.Ground.phase }, { on := 1, ground := Go.Ground.phase }, { on := 2, ground := Go.Ground.phase }, { on := 3, ground := Go.Ground.phase }, { on := 4, ground := Go.Ground.phase }, { on := 5, ground := Go.Ground.phase }, { on := 6, ground := Go.Ground.phase }, { on := 7, ground := Go.Ground.phase }, { on := 8, ground := Go.Ground.phase }, { on := 9, ground := Go.Ground.phase }, { on := 10, ground := Go.Ground.phase }, { on := 11, ground := Go.Ground.phase }, { on := 12, ground := Go.Ground.phase }, { on := 13, ground := Go.Ground.phase }, { on := 14, ground := Go.Ground.phase }, { on := 15, ground := Go.Ground.phase }, { on := 16, ground := Go.Ground.phase }, { on := 17, ground := Go.Ground.phase }, { on := 18, ground := Go.Ground.phase }, { on := 19, ground := Go.Ground.phase }], guard := none }) (v := ?_) rfl (by kernel_rfl) (by kernel_rfl) (by kernel_rfl) (fun _ _ _ h => h) (Or.inl ⟨by rfl, ?_⟩) hS2 ?_; rotate_left; (· (intro wq hSw; obtain ⟨a0, a1, a2, hq⟩ := labsAt_head hSw.1; obtain ⟨b0, b1, b2, _⟩ := labsAt_head hq; go_simp; try with_reducible rfl))
  try simp only [Act.put, List.setIfInBounds_toArray, List.set_cons_zero, List.set_cons_succ]
  refine wpAnyH_done (by kernel_rfl) ?_ _
  have HC := Lib.hid (And.intro (setO (x := .int .i64 b.i) (b := ⟨w.heap.size + 1 + 1, 2, none⟩) (setO (x := .int .u64 cc) (b := ⟨w.heap.size + 1 + 1, 1, none⟩) (setS (.int .i64 a.l) r0) (ne_off (by omega))) (ne_off (by omega))) (And.intro (setO (x := .int .i64 b.i) (b := ⟨w.heap.size + 1 + 1, 2, none⟩) (setS (.int .u64 cc) (setO (x := .int .i64 a.l) (b := ⟨w.heap.size + 1 + 1, 0, none⟩) r1 (ne_off (by omega)))) (ne_off (by omega))) (setS (.int .i64 b.i) (setO (x := .int .u64 cc) (b := ⟨w.heap.size + 1 + 1, 1, none⟩) (setO (x := .int .i64 a.l) (b := ⟨w.heap.size + 1 + 1, 0, none⟩) r2 (ne_off (by omega))) (ne_off (by omega))))))
  have HB := Lib.hid hS2.1.below
  clear hS2
  go_wp2
  obtain ⟨c0, c1, c2⟩ := HC.out
  refine bodyPost_ret (v := .tuple #[.agg #[.int .i64 a.l, .int .u64 cc, .int .i64 b.i], .int .i64 0]) ?_ rfl ⟨rfl, HB.out⟩
  clear HC HB r0 r1 r2 f0 f1 f2
  replace c0 : (((w2.setCell ⟨w.heap.size + 1 + 1, 0, none⟩ (.int .i64 a.l)).setCell ⟨w.heap.size + 1 + 1, 1, none⟩ (.int .u64 cc)).setCell ⟨w.heap.size + 1 + 1, 2, none⟩ (.int .i64 b.i)).drew.cell? ⟨w.heap.size + 1 + 1, 0, none⟩ = some (.int .i64 a.l) := c0
  replace c1 : (((w2.setCell ⟨w.heap.size + 1 + 1, 0, none⟩ (.int .i64 a.l)).setCell ⟨w.heap.size + 1 + 1, 1, none⟩ (.int .u64 cc)).setCell ⟨w.heap.size + 1 + 1, 2, none⟩ (.int .i64 b.i)).drew.cell? ⟨w.heap.size + 1 + 1, 1, none⟩ = some (.int .u64 cc) := c1
  replace c2 : (((w2.setCell ⟨w.heap.size + 1 + 1, 0, none⟩ (.int .i64 a.l)).setCell ⟨w.heap.size + 1 + 1, 1, none⟩ (.int .u64 cc)).setCell ⟨w.heap.size + 1 + 1, 2, none⟩ (.int .i64 b.i)).drew.cell? ⟨w.heap.size + 1 + 1, 2, none⟩ = some (.int .i64 b.i) := c2
  generalize (((w2.setCell ⟨w.heap.size + 1 + 1, 0, none⟩ (.int .i64 a.l)).setCell ⟨w.heap.size + 1 + 1, 1, none⟩ (.int .u64 cc)).setCell ⟨w.heap.size + 1 + 1, 2, none⟩ (.int .i64 b.i)).drew = WF at c0 c1 c2 ⊢
  simp [results, Tryd.results15, go_sem, c0, c1, c2]

set_option maxRecDepth 100000 in
set_option maxHeartbeats 2000000 in
theorem refMeet_gg (a b : Lab) (ha : a.fits) (hb0 : b.fits) (h1 : a.right = true) (h2 : b.right = true) (p1 : ¬ b.l < a.l) (p2 : ¬ a.i < b.i) (w : World) (hg : ErrT w) :
    Calls Tryd.prog 15 #[.agg #[.int .i64 a.l, .int .u64 a.c, .int .i64 a.i], .agg #[.int .i64 b.l, .int .u64 b.c, .int .i64 b.i]] w fun e w' => e = .returned (.tuple #[.agg #[.int .i64 a.l, .int .u64 (a.c &&& b.c : Nat), .int .i64 a.i], .int .i64 0]) ∧ Below w.heap.size w w' := by
  have H1 := Lib.hid h1
  have H2 := Lib.hid h2
  clear h1 h2
  have z1 : (if b.l < a.l then b.l else a.l) = a.l := if_neg p1
  have z2 : (if a.i < b.i then b.i else a.i) = a.i := if_neg p2
  obtain ⟨cc, hcc⟩ : ∃ cc : Nat, a.c &&& b.c = cc := ⟨_, rfl⟩
  have hw := sub_less a.c b.c ha hb0
  rw [hcc] at hw
  rw [hcc]
  clear hcc
  have hR := room_new w (.cells #[.int .i64 a.l, .int .u64 a.c, .int .i64 a.i] 24) (.cells #[.int .i64 b.l, .int .u64 b.c, .int .i64 b.i] 24) hg
  obtain ⟨⟨a0, a1, a2⟩, ⟨b0, b1, b2⟩⟩ := two_new w a b (.cells #[.int .i64 0, .int .u64 0, .int .i64 0] 24)
  clear hg
  go_enter Tryd.func15, Tryd.ntmps15
  go_wp2_with fail
  refine (refRight_any a _).mono ?_
  rintro e w1 ⟨he, hb⟩
  rw [H1.out] at he
  subst he
  replace a0 := cell_later hb a0
  replace a1 := cell_later hb a1
  replace a2 := cell_later hb a2
  replace b0 := cell_later hb b0
  replace b1 := cell_later hb b1
  replace b2 := cell_later hb b2
  replace hR := hR.below hb
  clear hb
  go_wp2_with fail
  refine (refRight_any b _).mono ?_
  rintro e w2 ⟨he, hb⟩
  rw [H2.out] at he
  subst he
  replace a0 := cell_later hb a0
  replace a1 := cell_later hb a1
  replace a2 := cell_later hb a2
  replace b0 := cell_later hb b0
  replace b1 := cell_later hb b1
  replace b2 := cell_later hb b2
  replace hR := hR.below hb
  clear hb
  go_wp2_with fail
  have hM : RefS w a b w2 := ⟨labsAt_cons a0 a1 a2 (labsAt_cons b0 b1 b2 (labsAt_nil hR.mid hR.err)), hR.1, hR.2.2.2⟩
  obtain ⟨v0, v1, v2, r0, r1, r2, f0, f1, f2⟩ := hR.1
  clear a0 a1 a2 b0 b1 b2 hR
  refine wp_region_held_drew (S := RefS w a b) (by kernel_rfl) (hM.drew) (fun hS0 => ?_)
  clear hM
  refine wpAnyH_take (i := 0) (oi := { dst := some 15, op := Go.Op.fieldAddr 24 (Go.Operand.tmp 2) 0, type := 0, pos := "ref.go:31", after := #[], guard := none }) (v := ?_) rfl (by kernel_rfl) (by kernel_rfl) (by kernel_rfl) (fun _ _ _ h => h) (Or.inl ⟨by rfl, ?_⟩) hS0 ?_; rotate_left; (· (intro wq hSw; obtain ⟨a0, a1, a2, hq⟩ := labsAt_head hSw.1; obtain ⟨b0, b1, b2, _⟩ := labsAt_head hq; go_simp; try with_reducible rfl))
  try simp only [Act.put, List.setIfInBounds_toArray, List.set_cons_zero, List.set_cons_succ]
  refine wpAnyH_take (i := 1) (oi := { dst := some 16, op := Go.Op.load 3 (Go.Operand.tmp 15), type := 3, pos := "ref.go:31", after := #[{ on := 0, ground := Go.Ground.data }], guard := none }) (v := ?_) rfl (by kernel_rfl) (by kernel_rfl) (by kernel_rfl) (fun _ _ _ h => h) (Or.inl ⟨by rfl, ?_⟩) hS0 ?_; rotate_left; (· (intro wq hSw; obtain ⟨a0, a1, a2, hq⟩ := labsAt_head hSw.1; obtain ⟨b0, b1, b2, _⟩ := labsAt_head hq; go_simp; try with_reducible rfl))
  try simp only [Act.put, List.setIfInBounds_toArray, List.set_cons_zero, List.set_cons_succ]
  refine wpAnyH_take (i := 2) (oi := { dst := some 17, op := Go.Op.fieldAddr 24 (Go.Operand.tmp 3) 0, type := 0, pos := "ref.go:31", after := #[], guard := none }) (v := ?_) rfl (by kernel_rfl) (by kernel_rfl) (by kernel_rfl) (fun _ _ _ h => h) (Or.inl ⟨by rfl, ?_⟩) hS0 ?_; rotate_left; (· (intro wq hSw; obtain ⟨a0, a1, a2, hq⟩ := labsAt_head hSw.1; obtain ⟨b0, b1, b2, _⟩ := labsAt_head hq; go_simp; try with_reducible rfl))
  try simp only [Act.put, List.setIfInBounds_toArray, List.set_cons_zero, List.set_cons_succ]
  refine wpAnyH_take (i := 3) (oi := { dst := some 18, op := Go.Op.load 3 (Go.Operand.tmp 17), type := 3, pos := "ref.go:31", after := #[{ on := 2, ground := Go.Ground.data }], guard := none }) (v := ?_) rfl (by kernel_rfl) (by kernel_rfl) (by kernel_rfl) (fun _ _ _ h => h) (Or.inl ⟨by rfl, ?_⟩) hS0 ?_; rotate_left; (· (intro wq hSw; obtain ⟨a0, a1, a2, hq⟩ := labsAt_head hSw.1; obtain ⟨b0, b1, b2, _⟩ := labsAt_head hq; go_simp; try with_reducible rfl))
  try simp only [Act.put, List.setIfInBounds_toArray, List.set_cons_zero, List.set_cons_succ]
  refine wpAnyH_take (i := 4) (oi := { dst := some 19, op := Go.Op.call { callee := Go.Callee.builtin Go.Builtin.min, args := #[Go.Operand.tmp 16, Go.Operand.tmp 18], argTypes := #[3, 3] }, type := 3, pos := "ref.go:31", after := #[{ on := 1, ground := Go.Ground.data }, { on := 3, ground := Go.Ground.data }], guard := none }) (v := ?_) rfl (by kernel_rfl) (by kernel_rfl) (by kernel_rfl) (fun _ _ _ h => h) (Or.inl ⟨by rfl, ?_⟩) hS0 ?_; rotate_left; (· (intro wq hSw; obtain ⟨a0, a1, a2, hq⟩ := labsAt_head hSw.1; obtain ⟨b0, b1, b2, _⟩ := labsAt_head hq; go_simp; try with_reducible rfl))
  try simp only [Act.put, List.setIfInBounds_toArray, List.set_cons_zero, List.set_cons_succ]
  refine wpAnyH_take (i := 5) (oi := { dst := some 20, op := Go.Op.fieldAddr 24 (Go.Operand.tmp 2) 1, type := 0, pos := "ref.go:31", after := #[], guard := none }) (v := ?_) rfl (by kernel_rfl) (by kernel_rfl) (by kernel_rfl) (fun _ _ _ h => h) (Or.inl ⟨by rfl, ?_⟩) hS0 ?_; rotate_left; (· (intro wq hSw; obtain ⟨a0, a1, a2, hq⟩ := labsAt_head hSw.1; obtain ⟨b0, b1, b2, _⟩ := labsAt_head hq; go_simp; try with_reducible rfl))
  try simp only [Act.put, List.setIfInBounds_toArray, List.set_cons_zero, List.set_cons_succ]
  refine wpAnyH_take (i := 6) (oi := { dst := some 21, op := Go.Op.load 22 (Go.Operand.tmp 20), type := 22, pos := "ref.go:31", after := #[{ on := 5, ground := Go.Ground.data }], guard := none }) (v := ?_) rfl (by kernel_rfl) (by kernel_rfl) (by kernel_rfl) (fun _ _ _ h => h) (Or.inl ⟨by rfl, ?_⟩) hS0 ?_; rotate_left; (· (intro wq hSw; obtain ⟨a0, a1, a2, hq⟩ := labsAt_head hSw.1; obtain ⟨b0, b1, b2, _⟩ := labsAt_head hq; go_simp; try with_reducible rfl))
  try simp only [Act.put, List.setIfInBounds_toArray, List.set_cons_zero, List.set_cons_succ]
  refine wpAnyH_take (i := 7) (oi := { dst := some 22, op := Go.Op.fieldAddr 24 (Go.Operand.tmp 2) 1, type := 0, pos := "ref.go:31", after := #[], guard := none }) (v := ?_) rfl (by kernel_rfl) (by kernel_rfl) (by kernel_rfl) (fun _ _ _ h => h) (Or.inl ⟨by rfl, ?_⟩) hS0 ?_; rotate_left; (· (intro wq hSw; obtain ⟨a0, a1, a2, hq⟩ := labsAt_head hSw.1; obtain ⟨b0, b1, b2, _⟩ := labsAt_head hq; go_simp; try with_reducible rfl))
  try simp only [Act.put, List.setIfInBounds_toArray, List.set_cons_zero, List.set_cons_succ]
  refine wpAnyH_take (i := 8) (oi := { dst := some 23, op := Go.Op.load 22 (Go.Operand.tmp 22), type := 22, pos := "ref.go:31", after := #[{ on := 7, ground := Go.Ground.data }], guard := none }) (v := ?_) rfl (by kernel_rfl) (by kernel_rfl) (by kernel_rfl) (fun _ _ _ h => h) (Or.inl ⟨by rfl, ?_⟩) hS0 ?_; rotate_left; (· (intro wq hSw; obtain ⟨a0, a1, a2, hq⟩ := labsAt_head hSw.1; obtain ⟨b0, b1, b2, _⟩ := labsAt_head hq; go_simp; try with_reducible rfl))
  try simp only [Act.put, List.setIfInBounds_toArray, List.set_cons_zero, List.set_cons_succ]
  refine wpAnyH_take (i := 9) (oi := { dst := some 24, op := Go.Op.fieldAddr 24 (Go.Operand.tmp 3) 1, type := 0, pos := "ref.go:31", after := #[], guard := none }) (v := ?_) rfl (by kernel_rfl) (by kernel_rfl) (by kernel_rfl) (fun _ _ _ h => h) (Or.inl ⟨by rfl, ?_⟩) hS0 ?_; rotate_left; (· (intro wq hSw; obtain ⟨a0, a1, a2, hq⟩ := labsAt_head hSw.1; obtain ⟨b0, b1, b2, _⟩ := labsAt_head hq; go_simp; try with_reducible rfl))
  try simp only [Act.put, List.setIfInBounds_toArray, List.set_cons_zero, List.set_cons_succ]
  refine wpAnyH_take (i := 10) (oi := { dst := some 25, op := Go.Op.load 22 (Go.Operand.tmp 24), type := 22, pos := "ref.go:31", after := #[{ on := 9, ground := Go.Ground.data }], guard := none }) (v := ?_) rfl (by kernel_rfl) (by kernel_rfl) (by kernel_rfl) (fun _ _ _ h => h) (Or.inl ⟨by rfl, ?_⟩) hS0 ?_; rotate_left; (· (intro wq hSw; obtain ⟨a0, a1, a2, hq⟩ := labsAt_head hSw.1; obtain ⟨b0, b1, b2, _⟩ := labsAt_head hq; go_simp; try with_reducible rfl))
  try simp only [Act.put, List.setIfInBounds_toArray, List.set_cons_zero, List.set_cons_succ]
  refine wpAnyH_take (i := 13) (oi := { dst := some 28, op := Go.Op.fieldAddr 24 (Go.Operand.tmp 2) 2, type := 0, pos := "ref.go:31", after := #[], guard := none }) (v := ?_) rfl (by kernel_rfl) (by kernel_rfl) (by kernel_rfl) (fun _ _ _ h => h) (Or.inl ⟨by rfl, ?_⟩) hS0 ?_; rotate_left; (· (intro wq hSw; obtain ⟨a0, a1, a2, hq⟩ := labsAt_head hSw.1; obtain ⟨b0, b1, b2, _⟩ := labsAt_head hq; go_simp; try with_reducible rfl))
  try simp only [Act.put, List.setIfInBounds_toArray, List.set_cons_zero, List.set_cons_succ]
  refine wpAnyH_take (i := 14) (oi := { dst := some 29, op := Go.Op.load 3 (Go.Operand.tmp 28), type := 3, pos := "ref.go:31", after := #[{ on := 13, ground := Go.Ground.data }], guard := none }) (v := ?_) rfl (by kernel_rfl) (by kernel_rfl) (by kernel_rfl) (fun _ _ _ h => h) (Or.inl ⟨by rfl, ?_⟩) hS0 ?_; rotate_left; (· (intro wq hSw; obtain ⟨a0, a1, a2, hq⟩ := labsAt_head hSw.1; obtain ⟨b0, b1, b2, _⟩ := labsAt_head hq; go_simp; try with_reducible rfl))
  try simp only [Act.put, List.setIfInBounds_toArray, List.set_cons_zero, List.set_cons_succ]
  refine wpAnyH_take (i := 15) (oi := { dst := some 30, op := Go.Op.fieldAddr 24 (Go.Operand.tmp 3) 2, type := 0, pos := "ref.go:31", after := #[], guard := none }) (v := ?_) rfl (by kernel_rfl) (by kernel_rfl) (by kernel_rfl) (fun _ _ _ h => h) (Or.inl ⟨by rfl, ?_⟩) hS0 ?_; rotate_left; (· (intro wq hSw; obtain ⟨a0, a1, a2, hq⟩ := labsAt_head hSw.1; obtain ⟨b0, b1, b2, _⟩ := labsAt_head hq; go_simp; try with_reducible rfl))
  try simp only [Act.put, List.setIfInBounds_toArray, List.set_cons_zero, List.set_cons_succ]
  refine wpAnyH_take (i := 16) (oi := { dst := some 31, op := Go.Op.load 3 (Go.Operand.tmp 30), type := 3, pos := "ref.go:31", after := #[{ on := 15, ground := Go.Ground.data }], guard := none }) (v := ?_) rfl (by kernel_rfl) (by kernel_rfl) (by kernel_rfl) (fun _ _ _ h => h) (Or.inl ⟨by rfl, ?_⟩) hS0 ?_; rotate_left; (· (intro wq hSw; obtain ⟨a0, a1, a2, hq⟩ := labsAt_head hSw.1; obtain ⟨b0, b1, b2, _⟩ := labsAt_head hq; go_simp; try with_reducible rfl))
  try simp only [Act.put, List.setIfInBounds_toArray, List.set_cons_zero, List.set_cons_succ]
  refine wpAnyH_take (i := 17) (oi := { dst := some 32, op := Go.Op.call { callee := Go.Callee.builtin Go.Builtin.max, args := #[Go.Operand.tmp 29, Go.Operand.tmp 31], argTypes := #[3, 3] }, type := 3, pos := "ref.go:31", after := #[{ on := 14, ground := Go.Ground.data }, { on := 16, ground := Go.Ground.data }], guard := none }) (v := ?_) rfl (by kernel_rfl) (by kernel_rfl) (by kernel_rfl) (fun _ _ _ h => h) (Or.inl ⟨by rfl, ?_⟩) hS0 ?_; rotate_left; (· (intro wq hSw; obtain ⟨a0, a1, a2, hq⟩ := labsAt_head hSw.1; obtain ⟨b0, b1, b2, _⟩ := labsAt_head hq; go_simp; try with_reducible rfl))
  try simp only [Act.put, List.setIfInBounds_toArray, List.set_cons_zero, List.set_cons_succ]
  refine wpAnyH_ready (rs := [11]) (by kernel_rfl) (by simp) ?_
  refine AllReadyH.cons (o := { dst := some 26, op := Go.Op.call { callee := Go.Callee.value (Go.Operand.func 30), args := #[Go.Operand.tmp 23, Go.Operand.tmp 25], argTypes := #[22, 22] }, type := 22, pos := "ref.go:31", after := #[{ on := 8, ground := Go.Ground.data }, { on := 10, ground := Go.Ground.data }], guard := none }) rfl (fun K hK => ?_) AllReadyH.nil
  go_simp
  refine (refLess_any a.c b.c ha hb0 _).mono ?_
  rintro e wz ⟨he, rfl⟩
  subst he
  refine hK.out _ _ hS0 (fun hS1 => ?_)
  clear hK K hS0
  try simp only [Act.put, List.setIfInBounds_toArray, List.set_cons_zero, List.set_cons_succ]
  refine wpAnyH_take (i := 12) (oi := { dst := some 27, op := Go.Op.binOp Go.BinOp.sub 22 (Go.Operand.tmp 21) (Go.Operand.tmp 26) 22, type := 22, pos := "ref.go:31", after := #[{ on := 6, ground := Go.Ground.data }, { on := 11, ground := Go.Ground.data }], guard := none }) (v := ?_) rfl (by kernel_rfl) (by kernel_rfl) (by kernel_rfl) (fun _ _ _ h => h) (Or.inl ⟨by rfl, ?_⟩) hS1 ?_; rotate_left; (· (intro wq hSw; obtain ⟨a0, a1, a2, hq⟩ := labsAt_head hSw.1; obtain ⟨b0, b1, b2, _⟩ := labsAt_head hq; go_simp; try with_reducible rfl))
  try simp only [Act.put, List.setIfInBounds_toArray, List.set_cons_zero, List.set_cons_succ]
  refine wpAnyH_take (i := 18) (oi := { dst := some 33, op := Go.Op.build 24 #[(0, Go.Operand.tmp 19), (1, Go.Operand.tmp 27), (2, Go.Operand.tmp 32)], type := 24, pos := "ref.go:31", after := #[{ on := 4, ground := Go.Ground.data }, { on := 12, ground := Go.Ground.data }, { on := 17, ground := Go.Ground.data }], guard := none }) (v := ?_) rfl (by kernel_rfl) (by kernel_rfl) (by kernel_rfl) (fun _ _ _ h => h) (Or.inl ⟨by rfl, ?_⟩) hS1 ?_; rotate_left; (· (intro wq hSw; obtain ⟨a0, a1, a2, hq⟩ := labsAt_head hSw.1; obtain ⟨b0, b1, b2, _⟩ := labsAt_head hq; go_simp; try with_reducible rfl))
  try simp only [Act.put, List.setIfInBounds_toArray, List.set_cons_zero, List.set_cons_succ]
  refine wpAnyH_ready (rs := [19]) (by kernel_rfl) (by simp) ?_
  refine AllReadyH.cons (o := { dst := none, op := Go.Op.store 24 (Go.Operand.tmp 4) (Go.Operand.tmp 33), type := 0, pos := "ref.go:31", after := #[{ on := 18, ground := Go.Ground.data }, { on := 11, ground := Go.Ground.chain }, { on := 0, ground := Go.Ground.phase }, { on := 1, ground := Go.Ground.phase }, { on := 2, ground := Go.Ground.phase }, { on := 3, ground := Go.Ground.phase }, { on := 4, ground := Go.Ground.phase }, { on := 5, ground := Go.Ground.phase }, { on := 6, ground := Go.Ground.phase }, { on := 7, ground := Go.Ground.phase }, { on := 8, ground := Go.Ground.phase }, { on := 9, ground := Go.Ground.phase }, { on := 10, ground := Go.Ground.phase }, { on := 11, ground := Go.Ground.phase }, { on := 12, ground := Go.Ground.phase }, { on := 13, ground := Go.Ground.phase }, { on := 14, ground := Go.Ground.phase }, { on := 15, ground := Go.Ground.phase }, { on := 16, ground := Go.Ground.phase }, { on := 17, ground := Go.Ground.phase }, { on := 18, ground := Go.Ground.phase }], guard := none }) rfl (fun K hK => ?_) AllReadyH.nil
  go_simp
  refine hK.out _ _ (RefS.set hS1 (.int .i64 a.l) (.int .u64 cc) (.int .i64 a.i)) (fun hS2 => ?_)
  clear hK K hS1
  try simp only [Act.put, List.setIfInBounds_toArray, List.set_cons_zero, List.set_cons_succ]
  refine wpAnyH_take (i := 20) (oi := { dst := some 5, op := Go.Op.assign (Go.Operand.const (Go.Value.int Go.IntKind.i64 0)), type := 26, pos := "ref.go:31", after := #[{ on := 19, ground := Go.Ground.chain }, { on := 0, ground := Go.Ground.phase }, { on := 1, ground := Go.Ground.phase }, { on := 2, ground := Go.Ground.phase }, { on := 3, ground := Go.Ground.phase }, { on := 4, ground := Go.Ground.phase }, { on := 5, ground := Go.Ground.phase }, { on := 6, ground := Go.Ground.phase }, { on := 7, ground := Go.Ground.phase }, { on := 8, ground := Go.Ground.phase }, { on := 9, ground := Go.Ground.phase }, { on := 10, ground := Go.Ground.phase }, { on := 11, ground := Go.Ground.phase }, { on := 12, ground := Go.Ground.phase }, { on := 13, ground := Go.Ground.phase }, { on := 14, ground := Go.Ground.phase }, { on := 15, ground := Go.Ground.phase }, { on := 16, ground := Go.Ground.phase }, { on := 17, ground := Go.Ground.phase }, { on := 18, ground := Go.Ground.phase }, { on := 19, ground := Go.Ground.phase }], guard := none }) (v := ?_) rfl (by kernel_rfl) (by kernel_rfl) (by kernel_rfl) (fun _ _ _ h => h) (Or.inl ⟨by rfl, ?_⟩) hS2 ?_; rotate_left; (· (intro wq hSw; obtain ⟨a0, a1, a2, hq⟩ := labsAt_head hSw.1; obtain ⟨b0, b1, b2, _⟩ := labsAt_head hq; go_simp; try with_reducible rfl))
  try simp only [Act.put, List.setIfInBounds_toArray, List.set_cons_zero, List.set_cons_succ]
  refine wpAnyH_done (by kernel_rfl) ?_ _
  have HC := Lib.hid (And.intro (setO (x := .int .i64 a.i) (b := ⟨w.heap.size + 1 + 1, 2, none⟩) (setO (x := .int .u64 cc) (b := ⟨w.heap.size + 1 + 1, 1, none⟩) (setS (.int .i64 a.l) r0) (ne_off (by omega))) (ne_off (by omega))) (And.intro (setO (x := .int .i64 a.i) (b := ⟨w.heap.size + 1 + 1, 2, none⟩) (setS (.int .u64 cc) (setO (x := .int .i64 a.l) (b := ⟨w.heap.size + 1 + 1, 0, none⟩) r1 (ne_off (by omega)))) (ne_off (by omega))) (setS (.int .i64 a.i) (setO (x := .int .u64 cc) (b := ⟨w.heap.size + 1 + 1, 1, none⟩) (setO (x := .int .i64 a.l) (b := ⟨w.heap.size + 1 + 1, 0, none⟩) r2 (ne_off (by omega))) (ne_off (by omega))))))
  have HB := Lib.hid hS2.1.below
  clear hS2
  go_wp2
  obtain ⟨c0, c1, c2⟩ := HC.out
  refine bodyPost_ret (v := .tuple #[.agg #[.int .i64 a.l, .int .u64 cc, .int .i64 a.i], .int .i64 0]) ?_ rfl ⟨rfl, HB.out⟩
  clear HC HB r0 r1 r2 f0 f1 f2
  replace c0 : (((w2.setCell ⟨w.heap.size + 1 + 1, 0, none⟩ (.int .i64 a.l)).setCell ⟨w.heap.size + 1 + 1, 1, none⟩ (.int .u64 cc)).setCell ⟨w.heap.size + 1 + 1, 2, none⟩ (.int .i64 a.i)).drew.cell? ⟨w.heap.size + 1 + 1, 0, none⟩ = some (.int .i64 a.l) := c0
  replace c1 : (((w2.setCell ⟨w.heap.size + 1 + 1, 0, none⟩ (.int .i64 a.l)).setCell ⟨w.heap.size + 1 + 1, 1, none⟩ (.int .u64 cc)).setCell ⟨w.heap.size + 1 + 1, 2, none⟩ (.int .i64 a.i)).drew.cell? ⟨w.heap.size + 1 + 1, 1, none⟩ = some (.int .u64 cc) := c1
  replace c2 : (((w2.setCell ⟨w.heap.size + 1 + 1, 0, none⟩ (.int .i64 a.l)).setCell ⟨w.heap.size + 1 + 1, 1, none⟩ (.int .u64 cc)).setCell ⟨w.heap.size + 1 + 1, 2, none⟩ (.int .i64 a.i)).drew.cell? ⟨w.heap.size + 1 + 1, 2, none⟩ = some (.int .i64 a.i) := c2
  generalize (((w2.setCell ⟨w.heap.size + 1 + 1, 0, none⟩ (.int .i64 a.l)).setCell ⟨w.heap.size + 1 + 1, 1, none⟩ (.int .u64 cc)).setCell ⟨w.heap.size + 1 + 1, 2, none⟩ (.int .i64 a.i)).drew = WF at c0 c1 c2 ⊢
  simp [results, Tryd.results15, go_sem, c0, c1, c2]

theorem refMeet_any (a b : Lab) (ha : a.fits) (hb : b.fits) (w : World) (hg : ErrT w) :
    Calls Tryd.prog 15 #[.agg #[.int .i64 a.l, .int .u64 a.c, .int .i64 a.i], .agg #[.int .i64 b.l, .int .u64 b.c, .int .i64 b.i]] w fun e w' =>
      e = .returned (.tuple #[.agg #[.int .i64 (twoM a b).l, .int .u64 (twoM a b).c, .int .i64 (twoM a b).i], .int .i64 (twoE a b)]) ∧ Below w.heap.size w w' := by
  cases h1 : a.right
  · have hr : (a.right && b.right) = false := by rw [h1]; rfl
    rw [twoM_no hr, twoE_no hr]
    exact refMeet_no1 a b h1 w hg
  · cases h2 : b.right
    · have hr : (a.right && b.right) = false := by rw [h1, h2]; rfl
      rw [twoM_no hr, twoE_no hr]
      exact refMeet_no2 a b h1 h2 w hg
    · have hr : (a.right && b.right) = true := by rw [h1, h2]; rfl
      rw [twoM_yes hr, twoE_yes hr]
      by_cases p1 : b.l < a.l
      · by_cases p2 : a.i < b.i
        · rw [show (a.meet b).l = b.l by simp only [Lab.meet]; omega, show (a.meet b).i = b.i by simp only [Lab.meet]; omega]
          exact refMeet_ll a b ha hb h1 h2 p1 p2 w hg
        · rw [show (a.meet b).l = b.l by simp only [Lab.meet]; omega, show (a.meet b).i = a.i by simp only [Lab.meet]; omega]
          exact refMeet_lg a b ha hb h1 h2 p1 p2 w hg
      · by_cases p2 : a.i < b.i
        · rw [show (a.meet b).l = a.l by simp only [Lab.meet]; omega, show (a.meet b).i = b.i by simp only [Lab.meet]; omega]
          exact refMeet_gl a b ha hb h1 h2 p1 p2 w hg
        · rw [show (a.meet b).l = a.l by simp only [Lab.meet]; omega, show (a.meet b).i = a.i by simp only [Lab.meet]; omega]
          exact refMeet_gg a b ha hb h1 h2 p1 p2 w hg

end Go.Proofs.YtafghaceahchhaaDoor
