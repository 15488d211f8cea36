/- The contracts of the document's own Join and Meet of labels. -/
import Derived.Test.YtciohfeifihobaaDoorLabRef
import Derived.Test.YtciohfeifihobaaDoorLbB
namespace Go.Proofs.YtciohfeifihobaaDoor
open Go.RowKit Go.Proofs.Cats Go.Shelf

theorem add_less (a b : Nat) (ha : U64 a) (hb : U64 b) : IntKind.u64.wrap ((a : Int) + ((lessN b a : Nat) : Int)) = ((a ||| b : Nat) : Int) := by
  have e : a + lessN b a = a ||| b := by
    rw [add_of_disjoint]
    · apply Nat.eq_of_testBit_eq
      intro i
      rw [Nat.testBit_or, Nat.testBit_or, lessN_testBit b a i hb ha]
      cases a.testBit i <;> cases b.testBit i <;> rfl
    · intro i
      rw [lessN_testBit b a i hb ha]
      cases a.testBit i <;> cases b.testBit i <;> rfl
  have hu : U64 (a ||| b) := U64.or ha hb
  rw [← e] at hu ⊢
  rw [IntKind.wrap_u64]
  unfold U64 at hu
  omega
theorem sub_less (a b : Nat) (ha : U64 a) (hb : U64 b) : IntKind.u64.wrap ((a : Int) - ((lessN a b : Nat) : Int)) = ((a &&& b : Nat) : Int) := by
  have h1 := less_add a b ha hb
  have h2 : lessN a (lessN a b) = a &&& b := by
    apply Nat.eq_of_testBit_eq
    intro i
    rw [less_less a b ha hb, Nat.testBit_and]
  rw [h2] at h1
  rw [IntKind.wrap_u64]
  unfold U64 at ha
  omega

/-- What the document's join keeps: both labels, the answer's room. -/
def RefS (w : World) (a b : Lab) (W : World) : Prop := LabsAt w [(w.heap.size, a), (w.heap.size + 1, b)] W ∧ Room3 (w.heap.size + 1 + 1) W ∧ 3 < w.heap.size
theorem RefS.drew {w W : World} {a b : Lab} (h : RefS w a b W) : RefS w a b W.drew := ⟨h.1.drew, h.2⟩
theorem RefS.set {w W : World} {a b : Lab} (h : RefS w a b W) (x y z : Value) : RefS w a b (((W.setCell ⟨w.heap.size + 1 + 1, 0, none⟩ x).setCell ⟨w.heap.size + 1 + 1, 1, none⟩ y).setCell ⟨w.heap.size + 1 + 1, 2, none⟩ z) := by
  obtain ⟨h1, ⟨v0, v1, v2, r0, r1, r2, f0, f1, f2⟩, hl⟩ := h
  obtain ⟨a0, a1, a2, hq⟩ := labsAt_head h1
  obtain ⟨b0, b1, b2, hn⟩ := labsAt_head hq
  have hr := Room.set (w := w) (W := W) ⟨⟨v0, v1, v2, r0, r1, r2, f0, f1, f2⟩, h1.below, h1.err, hl⟩ x y z
  exact ⟨labsAt_cons (set3 a0 (by omega)) (set3 a1 (by omega)) (set3 a2 (by omega)) (labsAt_cons (set3 b0 (by omega)) (set3 b1 (by omega)) (set3 b2 (by omega)) (labsAt_nil hr.mid hr.err)), hr.1, hl⟩

set_option maxRecDepth 100000 in
set_option maxHeartbeats 1000000 in
theorem refJoin_no1 (a b : Lab) (h1 : a.right = false) (w : World) (hg : ErrT w) :
    Calls Tryd.prog 31 #[.agg #[.int .i64 a.l, .int .u64 a.c, .int .i64 a.i], .agg #[.int .i64 b.l, .int .u64 b.c, .int .i64 b.i]] w fun e w' => e = .returned (.tuple #[.agg #[.int .i64 0, .int .u64 0, .int .i64 0], .int .i64 20]) ∧ Below w.heap.size w w' := by
  have H1 := Lib.hid h1
  clear h1
  have hR := room_new w (.cells #[.int .i64 a.l, .int .u64 a.c, .int .i64 a.i] 24) (.cells #[.int .i64 b.l, .int .u64 b.c, .int .i64 b.i] 24) hg
  obtain ⟨⟨a0, a1, a2⟩, ⟨b0, b1, b2⟩⟩ := two_new w a b (.cells #[.int .i64 0, .int .u64 0, .int .i64 0] 24)
  clear hg
  go_enter Tryd.func31, Tryd.ntmps31
  go_wp2_with fail
  refine (refRight_any a _).mono ?_
  rintro e w1 ⟨he, hb⟩
  rw [H1.out] at he
  subst he
  replace a0 := cell_later hb a0
  replace a1 := cell_later hb a1
  replace a2 := cell_later hb a2
  replace b0 := cell_later hb b0
  replace b1 := cell_later hb b1
  replace b2 := cell_later hb b2
  replace hR := hR.below hb
  clear hb
  obtain ⟨v0, v1, v2, r0, r1, r2, f0, f1, f2⟩ := hR.1
  have HC := Lib.hid (And.intro (setO (x := .int .i64 0) (b := ⟨w.heap.size + 1 + 1, 2, none⟩) (setO (x := .int .u64 0) (b := ⟨w.heap.size + 1 + 1, 1, none⟩) (setS (.int .i64 0) r0) (ne_off (by omega))) (ne_off (by omega))) (And.intro (setO (x := .int .i64 0) (b := ⟨w.heap.size + 1 + 1, 2, none⟩) (setS (.int .u64 0) (setO (x := .int .i64 0) (b := ⟨w.heap.size + 1 + 1, 0, none⟩) r1 (ne_off (by omega)))) (ne_off (by omega))) (setS (.int .i64 0) (setO (x := .int .u64 0) (b := ⟨w.heap.size + 1 + 1, 1, none⟩) (setO (x := .int .i64 0) (b := ⟨w.heap.size + 1 + 1, 0, none⟩) r2 (ne_off (by omega))) (ne_off (by omega))))))
  have HB := Lib.hid (Room.mid (Room.set hR (.int .i64 0) (.int .u64 0) (.int .i64 0)))
  go_wp2
  obtain ⟨c0, c1, c2⟩ := HC.out
  refine bodyPost_ret (v := .tuple #[.agg #[.int .i64 0, .int .u64 0, .int .i64 0], .int .i64 20]) ?_ rfl ⟨rfl, HB.out⟩
  clear HC HB
  generalize ((w1.setCell ⟨w.heap.size + 1 + 1, 0, none⟩ (.int .i64 0)).setCell ⟨w.heap.size + 1 + 1, 1, none⟩ (.int .u64 0)).setCell ⟨w.heap.size + 1 + 1, 2, none⟩ (.int .i64 0) = WF at c0 c1 c2 ⊢
  simp [results, Tryd.results31, go_sem, c0, c1, c2]

set_option maxRecDepth 100000 in
set_option maxHeartbeats 1000000 in
theorem refJoin_no2 (a b : Lab) (h1 : a.right = true) (h2 : b.right = false) (w : World) (hg : ErrT w) :
    Calls Tryd.prog 31 #[.agg #[.int .i64 a.l, .int .u64 a.c, .int .i64 a.i], .agg #[.int .i64 b.l, .int .u64 b.c, .int .i64 b.i]] w fun e w' => e = .returned (.tuple #[.agg #[.int .i64 0, .int .u64 0, .int .i64 0], .int .i64 20]) ∧ Below w.heap.size w w' := by
  have H1 := Lib.hid h1
  have H2 := Lib.hid h2
  clear h1 h2
  have hR := room_new w (.cells #[.int .i64 a.l, .int .u64 a.c, .int .i64 a.i] 24) (.cells #[.int .i64 b.l, .int .u64 b.c, .int .i64 b.i] 24) hg
  obtain ⟨⟨a0, a1, a2⟩, ⟨b0, b1, b2⟩⟩ := two_new w a b (.cells #[.int .i64 0, .int .u64 0, .int .i64 0] 24)
  clear hg
  go_enter Tryd.func31, Tryd.ntmps31
  go_wp2_with fail
  refine (refRight_any a _).mono ?_
  rintro e w1 ⟨he, hb⟩
  rw [H1.out] at he
  subst he
  replace a0 := cell_later hb a0
  replace a1 := cell_later hb a1
  replace a2 := cell_later hb a2
  replace b0 := cell_later hb b0
  replace b1 := cell_later hb b1
  replace b2 := cell_later hb b2
  replace hR := hR.below hb
  clear hb
  go_wp2_with fail
  refine (refRight_any b _).mono ?_
  rintro e w2 ⟨he, hb⟩
  rw [H2.out] at he
  subst he
  replace a0 := cell_later hb a0
  replace a1 := cell_later hb a1
  replace a2 := cell_later hb a2
  replace b0 := cell_later hb b0
  replace b1 := cell_later hb b1
  replace b2 := cell_later hb b2
  replace hR := hR.below hb
  clear hb
  obtain ⟨v0, v1, v2, r0, r1, r2, f0, f1, f2⟩ := hR.1
  have HC := Lib.hid (And.intro (setO (x := .int .i64 0) (b := ⟨w.heap.size + 1 + 1, 2, none⟩) (setO (x := .int .u64 0) (b := ⟨w.heap.size + 1 + 1, 1, none⟩) (setS (.int .i64 0) r0) (ne_off (by omega))) (ne_off (by omega))) (And.intro (setO (x := .int .i64 0) (b := ⟨w.heap.size + 1 + 1, 2, none⟩) (setS (.int .u64 0) (setO (x := .int .i64 0) (b := ⟨w.heap.size + 1 + 1, 0, none⟩) r1 (ne_off (by omega)))) (ne_off (by omega))) (setS (.int .i64 0) (setO (x := .int .u64 0) (b := ⟨w.heap.size + 1 + 1, 1, none⟩) (setO (x := .int .i64 0) (b := ⟨w.heap.size + 1 + 1, 0, none⟩) r2 (ne_off (by omega))) (ne_off (by omega))))))
  have HB := Lib.hid (Room.mid (Room.set hR (.int .i64 0) (.int .u64 0) (.int .i64 0)))
  go_wp2
  obtain ⟨c0, c1, c2⟩ := HC.out
  refine bodyPost_ret (v := .tuple #[.agg #[.int .i64 0, .int .u64 0, .int .i64 0], .int .i64 20]) ?_ rfl ⟨rfl, HB.out⟩
  clear HC HB
  generalize ((w2.setCell ⟨w.heap.size + 1 + 1, 0, none⟩ (.int .i64 0)).setCell ⟨w.heap.size + 1 + 1, 1, none⟩ (.int .u64 0)).setCell ⟨w.heap.size + 1 + 1, 2, none⟩ (.int .i64 0) = WF at c0 c1 c2 ⊢
  simp [results, Tryd.results31, go_sem, c0, c1, c2]

set_option maxRecDepth 100000 in
set_option maxHeartbeats 2000000 in
theorem refJoin_ll (a b : Lab) (ha : a.fits) (hb0 : b.fits) (h1 : a.right = true) (h2 : b.right = true) (p1 : a.l < b.l) (p2 : b.i < a.i) (w : World) (hg : ErrT w) :
    Calls Tryd.prog 31 #[.agg #[.int .i64 a.l, .int .u64 a.c, .int .i64 a.i], .agg #[.int .i64 b.l, .int .u64 b.c, .int .i64 b.i]] w fun e w' => e = .returned (.tuple #[.agg #[.int .i64 b.l, .int .u64 (a.c ||| b.c : Nat), .int .i64 b.i], .int .i64 0]) ∧ Below w.heap.size w w' := by
  have H1 := Lib.hid h1
  have H2 := Lib.hid h2
  clear h1 h2
  obtain ⟨cc, hcc⟩ : ∃ cc : Nat, a.c ||| b.c = cc := ⟨_, rfl⟩
  have hw := add_less a.c b.c ha hb0
  rw [hcc] at hw
  rw [hcc]
  clear hcc
  have hR := room_new w (.cells #[.int .i64 a.l, .int .u64 a.c, .int .i64 a.i] 24) (.cells #[.int .i64 b.l, .int .u64 b.c, .int .i64 b.i] 24) hg
  obtain ⟨⟨a0, a1, a2⟩, ⟨b0, b1, b2⟩⟩ := two_new w a b (.cells #[.int .i64 0, .int .u64 0, .int .i64 0] 24)
  clear hg
  go_enter Tryd.func31, Tryd.ntmps31
  go_wp2_with fail
  refine (refRight_any a _).mono ?_
  rintro e w1 ⟨he, hb⟩
  rw [H1.out] at he
  subst he
  replace a0 := cell_later hb a0
  replace a1 := cell_later hb a1
  replace a2 := cell_later hb a2
  replace b0 := cell_later hb b0
  replace b1 := cell_later hb b1
  replace b2 := cell_later hb b2
  replace hR := hR.below hb
  clear hb
  go_wp2_with fail
  refine (refRight_any b _).mono ?_
  rintro e w2 ⟨he, hb⟩
  rw [H2.out] at he
  subst he
  replace a0 := cell_later hb a0
  replace a1 := cell_later hb a1
  replace a2 := cell_later hb a2
  replace b0 := cell_later hb b0
  replace b1 := cell_later hb b1
  replace b2 := cell_later hb b2
  replace hR := hR.below hb
  clear hb
  go_wp2_with fail
  have hM : RefS w a b w2 := ⟨labsAt_cons a0 a1 a2 (labsAt_cons b0 b1 b2 (labsAt_nil hR.mid hR.err)), hR.1, hR.2.2.2⟩
  obtain ⟨v0, v1, v2, r0, r1, r2, f0, f1, f2⟩ := hR.1
  clear a0 a1 a2 b0 b1 b2 hR
  refine wp_region_held_drew (S := RefS w a b) (by kernel_rfl) (hM.drew) (fun hS0 => ?_)
  clear hM
  refine wpAnyH_take (i := 0) (oi := { dst := some 15, op := Go.Op.fieldAddr 24 (Go.Operand.tmp 2) 0, type := 0, pos := "ref.go:24", after := #[], guard := none }) (v := ?_) rfl (by kernel_rfl) (by kernel_rfl) (by kernel_rfl) (fun _ _ _ h => h) (Or.inl ⟨by rfl, ?_⟩) hS0 ?_; rotate_left; (· (intro wq hSw; obtain ⟨a0, a1, a2, hq⟩ := labsAt_head hSw.1; obtain ⟨b0, b1, b2, _⟩ := labsAt_head hq; go_simp; try with_reducible rfl))
  try simp only [Act.put, List.setIfInBounds_toArray, List.set_cons_zero, List.set_cons_succ]
  refine wpAnyH_take (i := 1) (oi := { dst := some 16, op := Go.Op.load 3 (Go.Operand.tmp 15), type := 3, pos := "ref.go:24", after := #[{ on := 0, ground := Go.Ground.data }], guard := none }) (v := ?_) rfl (by kernel_rfl) (by kernel_rfl) (by kernel_rfl) (fun _ _ _ h => h) (Or.inl ⟨by rfl, ?_⟩) hS0 ?_; rotate_left; (· (intro wq hSw; obtain ⟨a0, a1, a2, hq⟩ := labsAt_head hSw.1; obtain ⟨b0, b1, b2, _⟩ := labsAt_head hq; go_simp; try with_reducible rfl))
  try simp only [Act.put, List.setIfInBounds_toArray, List.set_cons_zero, List.set_cons_succ]
  refine wpAnyH_take (i := 2) (oi := { dst := some 17, op := Go.Op.fieldAddr 24 (Go.Operand.tmp 3) 0, type := 0, pos := "ref.go:24", after := #[], guard := none }) (v := ?_) rfl (by kernel_rfl) (by kernel_rfl) (by kernel_rfl) (fun _ _ _ h => h) (Or.inl ⟨by rfl, ?_⟩) hS0 ?_; rotate_left; (· (intro wq hSw; obtain ⟨a0, a1, a2, hq⟩ := labsAt_head hSw.1; obtain ⟨b0, b1, b2, _⟩ := labsAt_head hq; go_simp; try with_reducible rfl))
  try simp only [Act.put, List.setIfInBounds_toArray, List.set_cons_zero, List.set_cons_succ]
  refine wpAnyH_take (i := 3) (oi := { dst := some 18, op := Go.Op.load 3 (Go.Operand.tmp 17), type := 3, pos := "ref.go:24", after := #[{ on := 2, ground := Go.Ground.data }], guard := none }) (v := ?_) rfl (by kernel_rfl) (by kernel_rfl) (by kernel_rfl) (fun _ _ _ h => h) (Or.inl ⟨by rfl, ?_⟩) hS0 ?_; rotate_left; (· (intro wq hSw; obtain ⟨a0, a1, a2, hq⟩ := labsAt_head hSw.1; obtain ⟨b0, b1, b2, _⟩ := labsAt_head hq; go_simp; try with_reducible rfl))
  try simp only [Act.put, List.setIfInBounds_toArray, List.set_cons_zero, List.set_cons_succ]
  refine wpAnyH_take (i := 4) (oi := { dst := some 19, op := Go.Op.call { callee := Go.Callee.builtin Go.Builtin.max, args := #[Go.Operand.tmp 16, Go.Operand.tmp 18], argTypes := #[3, 3] }, type := 3, pos := "ref.go:24", after := #[{ on := 1, ground := Go.Ground.data }, { on := 3, ground := Go.Ground.data }], guard := none }) (v := ?_) rfl (by kernel_rfl) (by kernel_rfl) (by kernel_rfl) (fun _ _ _ h => h) (Or.inl ⟨by rfl, ?_⟩) hS0 ?_; rotate_left; (· (intro wq hSw; obtain ⟨a0, a1, a2, hq⟩ := labsAt_head hSw.1; obtain ⟨b0, b1, b2, _⟩ := labsAt_head hq; go_simp; try with_reducible rfl))
  try simp only [Act.put, List.setIfInBounds_toArray, List.set_cons_zero, List.set_cons_succ]
  refine wpAnyH_take (i := 5) (oi := { dst := some 20, op := Go.Op.fieldAddr 24 (Go.Operand.tmp 2) 1, type := 0, pos := "ref.go:24", after := #[], guard := none }) (v := ?_) rfl (by kernel_rfl) (by kernel_rfl) (by kernel_rfl) (fun _ _ _ h => h) (Or.inl ⟨by rfl, ?_⟩) hS0 ?_; rotate_left; (· (intro wq hSw; obtain ⟨a0, a1, a2, hq⟩ := labsAt_head hSw.1; obtain ⟨b0, b1, b2, _⟩ := labsAt_head hq; go_simp; try with_reducible rfl))
  try simp only [Act.put, List.setIfInBounds_toArray, List.set_cons_zero, List.set_cons_succ]
  refine wpAnyH_take (i := 6) (oi := { dst := some 21, op := Go.Op.load 22 (Go.Operand.tmp 20), type := 22, pos := "ref.go:24", after := #[{ on := 5, ground := Go.Ground.data }], guard := none }) (v := ?_) rfl (by kernel_rfl) (by kernel_rfl) (by kernel_rfl) (fun _ _ _ h => h) (Or.inl ⟨by rfl, ?_⟩) hS0 ?_; rotate_left; (· (intro wq hSw; obtain ⟨a0, a1, a2, hq⟩ := labsAt_head hSw.1; obtain ⟨b0, b1, b2, _⟩ := labsAt_head hq; go_simp; try with_reducible rfl))
  try simp only [Act.put, List.setIfInBounds_toArray, List.set_cons_zero, List.set_cons_succ]
  refine wpAnyH_take (i := 7) (oi := { dst := some 22, op := Go.Op.fieldAddr 24 (Go.Operand.tmp 3) 1, type := 0, pos := "ref.go:24", after := #[], guard := none }) (v := ?_) rfl (by kernel_rfl) (by kernel_rfl) (by kernel_rfl) (fun _ _ _ h => h) (Or.inl ⟨by rfl, ?_⟩) hS0 ?_; rotate_left; (· (intro wq hSw; obtain ⟨a0, a1, a2, hq⟩ := labsAt_head hSw.1; obtain ⟨b0, b1, b2, _⟩ := labsAt_head hq; go_simp; try with_reducible rfl))
  try simp only [Act.put, List.setIfInBounds_toArray, List.set_cons_zero, List.set_cons_succ]
  refine wpAnyH_take (i := 8) (oi := { dst := some 23, op := Go.Op.load 22 (Go.Operand.tmp 22), type := 22, pos := "ref.go:24", after := #[{ on := 7, ground := Go.Ground.data }], guard := none }) (v := ?_) rfl (by kernel_rfl) (by kernel_rfl) (by kernel_rfl) (fun _ _ _ h => h) (Or.inl ⟨by rfl, ?_⟩) hS0 ?_; rotate_left; (· (intro wq hSw; obtain ⟨a0, a1, a2, hq⟩ := labsAt_head hSw.1; obtain ⟨b0, b1, b2, _⟩ := labsAt_head hq; go_simp; try with_reducible rfl))
  try simp only [Act.put, List.setIfInBounds_toArray, List.set_cons_zero, List.set_cons_succ]
  refine wpAnyH_take (i := 9) (oi := { dst := some 24, op := Go.Op.fieldAddr 24 (Go.Operand.tmp 2) 1, type := 0, pos := "ref.go:24", after := #[], guard := none }) (v := ?_) rfl (by kernel_rfl) (by kernel_rfl) (by kernel_rfl) (fun _ _ _ h => h) (Or.inl ⟨by rfl, ?_⟩) hS0 ?_; rotate_left; (· (intro wq hSw; obtain ⟨a0, a1, a2, hq⟩ := labsAt_head hSw.1; obtain ⟨b0, b1, b2, _⟩ := labsAt_head hq; go_simp; try with_reducible rfl))
  try simp only [Act.put, List.setIfInBounds_toArray, List.set_cons_zero, List.set_cons_succ]
  refine wpAnyH_take (i := 10) (oi := { dst := some 25, op := Go.Op.load 22 (Go.Operand.tmp 24), type := 22, pos := "ref.go:24", after := #[{ on := 9, ground := Go.Ground.data }], guard := none }) (v := ?_) rfl (by kernel_rfl) (by kernel_rfl) (by kernel_rfl) (fun _ _ _ h => h) (Or.inl ⟨by rfl, ?_⟩) hS0 ?_; rotate_left; (· (intro wq hSw; obtain ⟨a0, a1, a2, hq⟩ := labsAt_head hSw.1; obtain ⟨b0, b1, b2, _⟩ := labsAt_head hq; go_simp; try with_reducible rfl))
  try simp only [Act.put, List.setIfInBounds_toArray, List.set_cons_zero, List.set_cons_succ]
  refine wpAnyH_take (i := 13) (oi := { dst := some 28, op := Go.Op.fieldAddr 24 (Go.Operand.tmp 2) 2, type := 0, pos := "ref.go:24", after := #[], guard := none }) (v := ?_) rfl (by kernel_rfl) (by kernel_rfl) (by kernel_rfl) (fun _ _ _ h => h) (Or.inl ⟨by rfl, ?_⟩) hS0 ?_; rotate_left; (· (intro wq hSw; obtain ⟨a0, a1, a2, hq⟩ := labsAt_head hSw.1; obtain ⟨b0, b1, b2, _⟩ := labsAt_head hq; go_simp; try with_reducible rfl))
  try simp only [Act.put, List.setIfInBounds_toArray, List.set_cons_zero, List.set_cons_succ]
  refine wpAnyH_take (i := 14) (oi := { dst := some 29, op := Go.Op.load 3 (Go.Operand.tmp 28), type := 3, pos := "ref.go:24", after := #[{ on := 13, ground := Go.Ground.data }], guard := none }) (v := ?_) rfl (by kernel_rfl) (by kernel_rfl) (by kernel_rfl) (fun _ _ _ h => h) (Or.inl ⟨by rfl, ?_⟩) hS0 ?_; rotate_left; (· (intro wq hSw; obtain ⟨a0, a1, a2, hq⟩ := labsAt_head hSw.1; obtain ⟨b0, b1, b2, _⟩ := labsAt_head hq; go_simp; try with_reducible rfl))
  try simp only [Act.put, List.setIfInBounds_toArray, List.set_cons_zero, List.set_cons_succ]
  refine wpAnyH_take (i := 15) (oi := { dst := some 30, op := Go.Op.fieldAddr 24 (Go.Operand.tmp 3) 2, type := 0, pos := "ref.go:24", after := #[], guard := none }) (v := ?_) rfl (by kernel_rfl) (by kernel_rfl) (by kernel_rfl) (fun _ _ _ h => h) (Or.inl ⟨by rfl, ?_⟩) hS0 ?_; rotate_left; (· (intro wq hSw; obtain ⟨a0, a1, a2, hq⟩ := labsAt_head hSw.1; obtain ⟨b0, b1, b2, _⟩ := labsAt_head hq; go_simp; try with_reducible rfl))
  try simp only [Act.put, List.setIfInBounds_toArray, List.set_cons_zero, List.set_cons_succ]
  refine wpAnyH_take (i := 16) (oi := { dst := some 31, op := Go.Op.load 3 (Go.Operand.tmp 30), type := 3, pos := "ref.go:24", after := #[{ on := 15, ground := Go.Ground.data }], guard := none }) (v := ?_) rfl (by kernel_rfl) (by kernel_rfl) (by kernel_rfl) (fun _ _ _ h => h) (Or.inl ⟨by rfl, ?_⟩) hS0 ?_; rotate_left; (· (intro wq hSw; obtain ⟨a0, a1, a2, hq⟩ := labsAt_head hSw.1; obtain ⟨b0, b1, b2, _⟩ := labsAt_head hq; go_simp; try with_reducible rfl))
  try simp only [Act.put, List.setIfInBounds_toArray, List.set_cons_zero, List.set_cons_succ]
  refine wpAnyH_take (i := 17) (oi := { dst := some 32, op := Go.Op.call { callee := Go.Callee.builtin Go.Builtin.min, args := #[Go.Operand.tmp 29, Go.Operand.tmp 31], argTypes := #[3, 3] }, type := 3, pos := "ref.go:24", after := #[{ on := 14, ground := Go.Ground.data }, { on := 16, ground := Go.Ground.data }], guard := none }) (v := ?_) rfl (by kernel_rfl) (by kernel_rfl) (by kernel_rfl) (fun _ _ _ h => h) (Or.inl ⟨by rfl, ?_⟩) hS0 ?_; rotate_left; (· (intro wq hSw; obtain ⟨a0, a1, a2, hq⟩ := labsAt_head hSw.1; obtain ⟨b0, b1, b2, _⟩ := labsAt_head hq; go_simp; try with_reducible rfl))
  try simp only [Act.put, List.setIfInBounds_toArray, List.set_cons_zero, List.set_cons_succ]
  refine wpAnyH_ready (rs := [11]) (by kernel_rfl) (by simp) ?_
  refine AllReadyH.cons (o := { dst := some 26, op := Go.Op.call { callee := Go.Callee.value (Go.Operand.func 36), args := #[Go.Operand.tmp 23, Go.Operand.tmp 25], argTypes := #[22, 22] }, type := 22, pos := "ref.go:24", after := #[{ on := 8, ground := Go.Ground.data }, { on := 10, ground := Go.Ground.data }], guard := none }) rfl (fun K hK => ?_) AllReadyH.nil
  go_simp
  refine (refLess_any b.c a.c hb0 ha _).mono ?_
  rintro e wz ⟨he, rfl⟩
  subst he
  refine hK.out _ _ hS0 (fun hS1 => ?_)
  clear hK K hS0
  try simp only [Act.put, List.setIfInBounds_toArray, List.set_cons_zero, List.set_cons_succ]
  refine wpAnyH_take (i := 12) (oi := { dst := some 27, op := Go.Op.binOp Go.BinOp.add 22 (Go.Operand.tmp 21) (Go.Operand.tmp 26) 22, type := 22, pos := "ref.go:24", after := #[{ on := 6, ground := Go.Ground.data }, { on := 11, ground := Go.Ground.data }], guard := none }) (v := ?_) rfl (by kernel_rfl) (by kernel_rfl) (by kernel_rfl) (fun _ _ _ h => h) (Or.inl ⟨by rfl, ?_⟩) hS1 ?_; rotate_left; (· (intro wq hSw; obtain ⟨a0, a1, a2, hq⟩ := labsAt_head hSw.1; obtain ⟨b0, b1, b2, _⟩ := labsAt_head hq; go_simp; try with_reducible rfl))
  try simp only [Act.put, List.setIfInBounds_toArray, List.set_cons_zero, List.set_cons_succ]
  refine wpAnyH_take (i := 18) (oi := { dst := some 33, op := Go.Op.build 24 #[(0, Go.Operand.tmp 19), (1, Go.Operand.tmp 27), (2, Go.Operand.tmp 32)], type := 24, pos := "ref.go:24", after := #[{ on := 4, ground := Go.Ground.data }, { on := 12, ground := Go.Ground.data }, { on := 17, ground := Go.Ground.data }], guard := none }) (v := ?_) rfl (by kernel_rfl) (by kernel_rfl) (by kernel_rfl) (fun _ _ _ h => h) (Or.inl ⟨by rfl, ?_⟩) hS1 ?_; rotate_left; (· (intro wq hSw; obtain ⟨a0, a1, a2, hq⟩ := labsAt_head hSw.1; obtain ⟨b0, b1, b2, _⟩ := labsAt_head hq; go_simp; try with_reducible rfl))
  try simp only [Act.put, List.setIfInBounds_toArray, List.set_cons_zero, List.set_cons_succ]
  refine wpAnyH_ready (rs := [19]) (by kernel_rfl) (by simp) ?_
  refine AllReadyH.cons (o := { dst := none, op := Go.Op.store 24 (Go.Operand.tmp 4) (Go.Operand.tmp 33), type := 0, pos := "ref.go:24", after := #[{ on := 18, ground := Go.Ground.data }, { on := 11, ground := Go.Ground.chain }, { on := 0, ground := Go.Ground.phase }, { on := 1, ground := Go.Ground.phase }, { on := 2, ground := Go.Ground.phase }, { on := 3, ground := Go.Ground.phase }, { on := 4, ground := Go.Ground.phase }, { on := 5, ground := Go.Ground.phase }, { on := 6, ground := Go.Ground.phase }, { on := 7, ground := Go.Ground.phase }, { on := 8, ground := Go.Ground.phase }, { on := 9, ground := Go.Ground.phase }, { on := 10, ground := Go.Ground.phase }, { on := 11, ground := Go.Ground.phase }, { on := 12, ground := Go.Ground.phase }, { on := 13, ground := Go.Ground.phase }, { on := 14, ground := Go.Ground.phase }, { on := 15, ground := Go.Ground.phase }, { on := 16, ground := Go.Ground.phase }, { on := 17, ground := Go.Ground.phase }, { on := 18, ground := Go.Ground.phase }], guard := none }) rfl (fun K hK => ?_) AllReadyH.nil
  go_simp
  refine hK.out _ _ (RefS.set hS1 (.int .i64 b.l) (.int .u64 cc) (.int .i64 b.i)) (fun hS2 => ?_)
  clear hK K hS1
  try simp only [Act.put, List.setIfInBounds_toArray, List.set_cons_zero, List.set_cons_succ]
  refine wpAnyH_take (i := 20) (oi := { dst := some 5, op := Go.Op.assign (Go.Operand.const (Go.Value.int Go.IntKind.i64 0)), type := 26, pos := "ref.go:24", after := #[{ on := 19, ground := Go.Ground.chain }, { on := 0, ground := Go.Ground.phase }, { on := 1, ground := Go.Ground.phase }, { on := 2, ground := Go.Ground.phase }, { on := 3, ground := Go.Ground.phase }, { on := 4, ground := Go.Ground.phase }, { on := 5, ground := Go.Ground.phase }, { on := 6, ground := Go.Ground.phase }, { on := 7, ground := Go.Ground.phase }, { on := 8, ground := Go.Ground.phase }, { on := 9, ground := Go.Ground.phase }, { on := 10, ground := Go.Ground.phase }, { on := 11, ground := Go.Ground.phase }, { on := 12, ground := Go.Ground.phase }, { on := 13, ground := Go.Ground.phase }, { on := 14, ground := Go.Ground.phase }, { on := 15, ground := Go.Ground.phase }, { on := 16, ground := Go.Ground.phase }, { on := 17, ground := Go.Ground.phase }, { on := 18, ground := Go.Ground.phase }, { on := 19, ground := Go.Ground.phase }], guard := none }) (v := ?_) rfl (by kernel_rfl) (by kernel_rfl) (by kernel_rfl) (fun _ _ _ h => h) (Or.inl ⟨by rfl, ?_⟩) hS2 ?_; rotate_left; (· (intro wq hSw; obtain ⟨a0, a1, a2, hq⟩ := labsAt_head hSw.1; obtain ⟨b0, b1, b2, _⟩ := labsAt_head hq; go_simp; try with_reducible rfl))
  try simp only [Act.put, List.setIfInBounds_toArray, List.set_cons_zero, List.set_cons_succ]
  refine wpAnyH_done (by kernel_rfl) ?_ _
  have HC := Lib.hid (And.intro (setO (x := .int .i64 b.i) (b := ⟨w.heap.size + 1 + 1, 2, none⟩) (setO (x := .int .u64 cc) (b := ⟨w.heap.size + 1 + 1, 1, none⟩) (setS (.int .i64 b.l) r0) (ne_off (by omega))) (ne_off (by omega))) (And.intro (setO (x := .int .i64 b.i) (b := ⟨w.heap.size + 1 + 1, 2, none⟩) (setS (.int .u64 cc) (setO (x := .int .i64 b.l) (b := ⟨w.heap.size + 1 + 1, 0, none⟩) r1 (ne_off (by omega)))) (ne_off (by omega))) (setS (.int .i64 b.i) (setO (x := .int .u64 cc) (b := ⟨w.heap.size + 1 + 1, 1, none⟩) (setO (x := .int .i64 b.l) (b := ⟨w.heap.size + 1 + 1, 0, none⟩) r2 (ne_off (by omega))) (ne_off (by omega))))))
  have HB := Lib.hid hS2.1.below
  clear hS2
  go_wp2
  obtain ⟨c0, c1, c2⟩ := HC.out
  refine bodyPost_ret (v := .tuple #[.agg #[.int .i64 b.l, .int .u64 cc, .int .i64 b.i], .int .i64 0]) ?_ rfl ⟨rfl, HB.out⟩
  clear HC HB r0 r1 r2 f0 f1 f2
  replace c0 : (((w2.setCell ⟨w.heap.size + 1 + 1, 0, none⟩ (.int .i64 b.l)).setCell ⟨w.heap.size + 1 + 1, 1, none⟩ (.int .u64 cc)).setCell ⟨w.heap.size + 1 + 1, 2, none⟩ (.int .i64 b.i)).drew.cell? ⟨w.heap.size + 1 + 1, 0, none⟩ = some (.int .i64 b.l) := c0
  replace c1 : (((w2.setCell ⟨w.heap.size + 1 + 1, 0, none⟩ (.int .i64 b.l)).setCell ⟨w.heap.size + 1 + 1, 1, none⟩ (.int .u64 cc)).setCell ⟨w.heap.size + 1 + 1, 2, none⟩ (.int .i64 b.i)).drew.cell? ⟨w.heap.size + 1 + 1, 1, none⟩ = some (.int .u64 cc) := c1
  replace c2 : (((w2.setCell ⟨w.heap.size + 1 + 1, 0, none⟩ (.int .i64 b.l)).setCell ⟨w.heap.size + 1 + 1, 1, none⟩ (.int .u64 cc)).setCell ⟨w.heap.size + 1 + 1, 2, none⟩ (.int .i64 b.i)).drew.cell? ⟨w.heap.size + 1 + 1, 2, none⟩ = some (.int .i64 b.i) := c2
  generalize (((w2.setCell ⟨w.heap.size + 1 + 1, 0, none⟩ (.int .i64 b.l)).setCell ⟨w.heap.size + 1 + 1, 1, none⟩ (.int .u64 cc)).setCell ⟨w.heap.size + 1 + 1, 2, none⟩ (.int .i64 b.i)).drew = WF at c0 c1 c2 ⊢
  simp [results, Tryd.results31, go_sem, c0, c1, c2]

set_option maxRecDepth 100000 in
set_option maxHeartbeats 2000000 in
theorem refJoin_lg (a b : Lab) (ha : a.fits) (hb0 : b.fits) (h1 : a.right = true) (h2 : b.right = true) (p1 : a.l < b.l) (p2 : ¬ b.i < a.i) (w : World) (hg : ErrT w) :
    Calls Tryd.prog 31 #[.agg #[.int .i64 a.l, .int .u64 a.c, .int .i64 a.i], .agg #[.int .i64 b.l, .int .u64 b.c, .int .i64 b.i]] w fun e w' => e = .returned (.tuple #[.agg #[.int .i64 b.l, .int .u64 (a.c ||| b.c : Nat), .int .i64 a.i], .int .i64 0]) ∧ Below w.heap.size w w' := by
  have H1 := Lib.hid h1
  have H2 := Lib.hid h2
  clear h1 h2
  have z2 : (if b.i < a.i then b.i else a.i) = a.i := if_neg p2
  obtain ⟨cc, hcc⟩ : ∃ cc : Nat, a.c ||| b.c = cc := ⟨_, rfl⟩
  have hw := add_less a.c b.c ha hb0
  rw [hcc] at hw
  rw [hcc]
  clear hcc
  have hR := room_new w (.cells #[.int .i64 a.l, .int .u64 a.c, .int .i64 a.i] 24) (.cells #[.int .i64 b.l, .int .u64 b.c, .int .i64 b.i] 24) hg
  obtain ⟨⟨a0, a1, a2⟩, ⟨b0, b1, b2⟩⟩ := two_new w a b (.cells #[.int .i64 0, .int .u64 0, .int .i64 0] 24)
  clear hg
  go_enter Tryd.func31, Tryd.ntmps31
  go_wp2_with fail
  refine (refRight_any a _).mono ?_
  rintro e w1 ⟨he, hb⟩
  rw [H1.out] at he
  subst he
  replace a0 := cell_later hb a0
  replace a1 := cell_later hb a1
  replace a2 := cell_later hb a2
  replace b0 := cell_later hb b0
  replace b1 := cell_later hb b1
  replace b2 := cell_later hb b2
  replace hR := hR.below hb
  clear hb
  go_wp2_with fail
  refine (refRight_any b _).mono ?_
  rintro e w2 ⟨he, hb⟩
  rw [H2.out] at he
  subst he
  replace a0 := cell_later hb a0
  replace a1 := cell_later hb a1
  replace a2 := cell_later hb a2
  replace b0 := cell_later hb b0
  replace b1 := cell_later hb b1
  replace b2 := cell_later hb b2
  replace hR := hR.below hb
  clear hb
  go_wp2_with fail
  have hM : RefS w a b w2 := ⟨labsAt_cons a0 a1 a2 (labsAt_cons b0 b1 b2 (labsAt_nil hR.mid hR.err)), hR.1, hR.2.2.2⟩
  obtain ⟨v0, v1, v2, r0, r1, r2, f0, f1, f2⟩ := hR.1
  clear a0 a1 a2 b0 b1 b2 hR
  refine wp_region_held_drew (S := RefS w a b) (by kernel_rfl) (hM.drew) (fun hS0 => ?_)
  clear hM
  refine wpAnyH_take (i := 0) (oi := { dst := some 15, op := Go.Op.fieldAddr 24 (Go.Operand.tmp 2) 0, type := 0, pos := "ref.go:24", after := #[], guard := none }) (v := ?_) rfl (by kernel_rfl) (by kernel_rfl) (by kernel_rfl) (fun _ _ _ h => h) (Or.inl ⟨by rfl, ?_⟩) hS0 ?_; rotate_left; (· (intro wq hSw; obtain ⟨a0, a1, a2, hq⟩ := labsAt_head hSw.1; obtain ⟨b0, b1, b2, _⟩ := labsAt_head hq; go_simp; try with_reducible rfl))
  try simp only [Act.put, List.setIfInBounds_toArray, List.set_cons_zero, List.set_cons_succ]
  refine wpAnyH_take (i := 1) (oi := { dst := some 16, op := Go.Op.load 3 (Go.Operand.tmp 15), type := 3, pos := "ref.go:24", after := #[{ on := 0, ground := Go.Ground.data }], guard := none }) (v := ?_) rfl (by kernel_rfl) (by kernel_rfl) (by kernel_rfl) (fun _ _ _ h => h) (Or.inl ⟨by rfl, ?_⟩) hS0 ?_; rotate_left; (· (intro wq hSw; obtain ⟨a0, a1, a2, hq⟩ := labsAt_head hSw.1; obtain ⟨b0, b1, b2, _⟩ := labsAt_head hq; go_simp; try with_reducible rfl))
  try simp only [Act.put, List.setIfInBounds_toArray, List.set_cons_zero, List.set_cons_succ]
  refine wpAnyH_take (i := 2) (oi := { dst := some 17, op := Go.Op.fieldAddr 24 (Go.Operand.tmp 3) 0, type := 0, pos := "ref.go:24", after := #[], guard := none }) (v := ?_) rfl (by kernel_rfl) (by kernel_rfl) (by kernel_rfl) (fun _ _ _ h => h) (Or.inl ⟨by rfl, ?_⟩) hS0 ?_; rotate_left; (· (intro wq hSw; obtain ⟨a0, a1, a2, hq⟩ := labsAt_head hSw.1; obtain ⟨b0, b1, b2, _⟩ := labsAt_head hq; go_simp; try with_reducible rfl))
  try simp only [Act.put, List.setIfInBounds_toArray, List.set_cons_zero, List.set_cons_succ]
  refine wpAnyH_take (i := 3) (oi := { dst := some 18, op := Go.Op.load 3 (Go.Operand.tmp 17), type := 3, pos := "ref.go:24", after := #[{ on := 2, ground := Go.Ground.data }], guard := none }) (v := ?_) rfl (by kernel_rfl) (by kernel_rfl) (by kernel_rfl) (fun _ _ _ h => h) (Or.inl ⟨by rfl, ?_⟩) hS0 ?_; rotate_left; (· (intro wq hSw; obtain ⟨a0, a1, a2, hq⟩ := labsAt_head hSw.1; obtain ⟨b0, b1, b2, _⟩ := labsAt_head hq; go_simp; try with_reducible rfl))
  try simp only [Act.put, List.setIfInBounds_toArray, List.set_cons_zero, List.set_cons_succ]
  refine wpAnyH_take (i := 4) (oi := { dst := some 19, op := Go.Op.call { callee := Go.Callee.builtin Go.Builtin.max, args := #[Go.Operand.tmp 16, Go.Operand.tmp 18], argTypes := #[3, 3] }, type := 3, pos := "ref.go:24", after := #[{ on := 1, ground := Go.Ground.data }, { on := 3, ground := Go.Ground.data }], guard := none }) (v := ?_) rfl (by kernel_rfl) (by kernel_rfl) (by kernel_rfl) (fun _ _ _ h => h) (Or.inl ⟨by rfl, ?_⟩) hS0 ?_; rotate_left; (· (intro wq hSw; obtain ⟨a0, a1, a2, hq⟩ := labsAt_head hSw.1; obtain ⟨b0, b1, b2, _⟩ := labsAt_head hq; go_simp; try with_reducible rfl))
  try simp only [Act.put, List.setIfInBounds_toArray, List.set_cons_zero, List.set_cons_succ]
  refine wpAnyH_take (i := 5) (oi := { dst := some 20, op := Go.Op.fieldAddr 24 (Go.Operand.tmp 2) 1, type := 0, pos := "ref.go:24", after := #[], guard := none }) (v := ?_) rfl (by kernel_rfl) (by kernel_rfl) (by kernel_rfl) (fun _ _ _ h => h) (Or.inl ⟨by rfl, ?_⟩) hS0 ?_; rotate_left; (· (intro wq hSw; obtain ⟨a0, a1, a2, hq⟩ := labsAt_head hSw.1; obtain ⟨b0, b1, b2, _⟩ := labsAt_head hq; go_simp; try with_reducible rfl))
  try simp only [Act.put, List.setIfInBounds_toArray, List.set_cons_zero, List.set_cons_succ]
  refine wpAnyH_take (i := 6) (oi := { dst := some 21, op := Go.Op.load 22 (Go.Operand.tmp 20), type := 22, pos := "ref.go:24", after := #[{ on := 5, ground := Go.Ground.data }], guard := none }) (v := ?_) rfl (by kernel_rfl) (by kernel_rfl) (by kernel_rfl) (fun _ _ _ h => h) (Or.inl ⟨by rfl, ?_⟩) hS0 ?_; rotate_left; (· (intro wq hSw; obtain ⟨a0, a1, a2, hq⟩ := labsAt_head hSw.1; obtain ⟨b0, b1, b2, _⟩ := labsAt_head hq; go_simp; try with_reducible rfl))
  try simp only [Act.put, List.setIfInBounds_toArray, List.set_cons_zero, List.set_cons_succ]
  refine wpAnyH_take (i := 7) (oi := { dst := some 22, op := Go.Op.fieldAddr 24 (Go.Operand.tmp 3) 1, type := 0, pos := "ref.go:24", after := #[], guard := none }) (v := ?_) rfl (by kernel_rfl) (by kernel_rfl) (by kernel_rfl) (fun _ _ _ h => h) (Or.inl ⟨by rfl, ?_⟩) hS0 ?_; rotate_left; (· (intro wq hSw; obtain ⟨a0, a1, a2, hq⟩ := labsAt_head hSw.1; obtain ⟨b0, b1, b2, _⟩ := labsAt_head hq; go_simp; try with_reducible rfl))
  try simp only [Act.put, List.setIfInBounds_toArray, List.set_cons_zero, List.set_cons_succ]
  refine wpAnyH_take (i := 8) (oi := { dst := some 23, op := Go.Op.load 22 (Go.Operand.tmp 22), type := 22, pos := "ref.go:24", after := #[{ on := 7, ground := Go.Ground.data }], guard := none }) (v := ?_) rfl (by kernel_rfl) (by kernel_rfl) (by kernel_rfl) (fun _ _ _ h => h) (Or.inl ⟨by rfl, ?_⟩) hS0 ?_; rotate_left; (· (intro wq hSw; obtain ⟨a0, a1, a2, hq⟩ := labsAt_head hSw.1; obtain ⟨b0, b1, b2, _⟩ := labsAt_head hq; go_simp; try with_reducible rfl))
  try simp only [Act.put, List.setIfInBounds_toArray, List.set_cons_zero, List.set_cons_succ]
  refine wpAnyH_take (i := 9) (oi := { dst := some 24, op := Go.Op.fieldAddr 24 (Go.Operand.tmp 2) 1, type := 0, pos := "ref.go:24", after := #[], guard := none }) (v := ?_) rfl (by kernel_rfl) (by kernel_rfl) (by kernel_rfl) (fun _ _ _ h => h) (Or.inl ⟨by rfl, ?_⟩) hS0 ?_; rotate_left; (· (intro wq hSw; obtain ⟨a0, a1, a2, hq⟩ := labsAt_head hSw.1; obtain ⟨b0, b1, b2, _⟩ := labsAt_head hq; go_simp; try with_reducible rfl))
  try simp only [Act.put, List.setIfInBounds_toArray, List.set_cons_zero, List.set_cons_succ]
  refine wpAnyH_take (i := 10) (oi := { dst := some 25, op := Go.Op.load 22 (Go.Operand.tmp 24), type := 22, pos := "ref.go:24", after := #[{ on := 9, ground := Go.Ground.data }], guard := none }) (v := ?_) rfl (by kernel_rfl) (by kernel_rfl) (by kernel_rfl) (fun _ _ _ h => h) (Or.inl ⟨by rfl, ?_⟩) hS0 ?_; rotate_left; (· (intro wq hSw; obtain ⟨a0, a1, a2, hq⟩ := labsAt_head hSw.1; obtain ⟨b0, b1, b2, _⟩ := labsAt_head hq; go_simp; try with_reducible rfl))
  try simp only [Act.put, List.setIfInBounds_toArray, List.set_cons_zero, List.set_cons_succ]
  refine wpAnyH_take (i := 13) (oi := { dst := some 28, op := Go.Op.fieldAddr 24 (Go.Operand.tmp 2) 2, type := 0, pos := "ref.go:24", after := #[], guard := none }) (v := ?_) rfl (by kernel_rfl) (by kernel_rfl) (by kernel_rfl) (fun _ _ _ h => h) (Or.inl ⟨by rfl, ?_⟩) hS0 ?_; rotate_left; (· (intro wq hSw; obtain ⟨a0, a1, a2, hq⟩ := labsAt_head hSw.1; obtain ⟨b0, b1, b2, _⟩ := labsAt_head hq; go_simp; try with_reducible rfl))
  try simp only [Act.put, List.setIfInBounds_toArray, List.set_cons_zero, List.set_cons_succ]
  refine wpAnyH_take (i := 14) (oi := { dst := some 29, op := Go.Op.load 3 (Go.Operand.tmp 28), type := 3, pos := "ref.go:24", after := #[{ on := 13, ground := Go.Ground.data }], guard := none }) (v := ?_) rfl (by kernel_rfl) (by kernel_rfl) (by kernel_rfl) (fun _ _ _ h => h) (Or.inl ⟨by rfl, ?_⟩) hS0 ?_; rotate_left; (· (intro wq hSw; obtain ⟨a0, a1, a2, hq⟩ := labsAt_head hSw.1; obtain ⟨b0, b1, b2, _⟩ := labsAt_head hq; go_simp; try with_reducible rfl))
  try simp only [Act.put, List.setIfInBounds_toArray, List.set_cons_zero, List.set_cons_succ]
  refine wpAnyH_take (i := 15) (oi := { dst := some 30, op := Go.Op.fieldAddr 24 (Go.Operand.tmp 3) 2, type := 0, pos := "ref.go:24", after := #[], guard := none }) (v := ?_) rfl (by kernel_rfl) (by kernel_rfl) (by kernel_rfl) (fun _ _ _ h => h) (Or.inl ⟨by rfl, ?_⟩) hS0 ?_; rotate_left; (· (intro wq hSw; obtain ⟨a0, a1, a2, hq⟩ := labsAt_head hSw.1; obtain ⟨b0, b1, b2, _⟩ := labsAt_head hq; go_simp; try with_reducible rfl))
  try simp only [Act.put, List.setIfInBounds_toArray, List.set_cons_zero, List.set_cons_succ]
  refine wpAnyH_take (i := 16) (oi := { dst := some 31, op := Go.Op.load 3 (Go.Operand.tmp 30), type := 3, pos := "ref.go:24", after := #[{ on := 15, ground := Go.Ground.data }], guard := none }) (v := ?_) rfl (by kernel_rfl) (by kernel_rfl) (by kernel_rfl) (fun _ _ _ h => h) (Or.inl ⟨by rfl, ?_⟩) hS0 ?_; rotate_left; (· (intro wq hSw; obtain ⟨a0, a1, a2, hq⟩ := labsAt_head hSw.1; obtain ⟨b0, b1, b2, _⟩ := labsAt_head hq; go_simp; try with_reducible rfl))
  try simp only [Act.put, List.setIfInBounds_toArray, List.set_cons_zero, List.set_cons_succ]
  refine wpAnyH_take (i := 17) (oi := { dst := some 32, op := Go.Op.call { callee := Go.Callee.builtin Go.Builtin.min, args := #[Go.Operand.tmp 29, Go.Operand.tmp 31], argTypes := #[3, 3] }, type := 3, pos := "ref.go:24", after := #[{ on := 14, ground := Go.Ground.data }, { on := 16, ground := Go.Ground.data }], guard := none }) (v := ?_) rfl (by kernel_rfl) (by kernel_rfl) (by kernel_rfl) (fun _ _ _ h => h) (Or.inl ⟨by rfl, ?_⟩) hS0 ?_; rotate_left; (· (intro wq hSw; obtain ⟨a0, a1, a2, hq⟩ := labsAt_head hSw.1; obtain ⟨b0, b1, b2, _⟩ := labsAt_head hq; go_simp; try with_reducible rfl))
  try simp only [Act.put, List.setIfInBounds_toArray, List.set_cons_zero, List.set_cons_succ]
  refine wpAnyH_ready (rs := [11]) (by kernel_rfl) (by simp) ?_
  refine AllReadyH.cons (o := { dst := some 26, op := Go.Op.call { callee := Go.Callee.value (Go.Operand.func 36), args := #[Go.Operand.tmp 23, Go.Operand.tmp 25], argTypes := #[22, 22] }, type := 22, pos := "ref.go:24", after := #[{ on := 8, ground := Go.Ground.data }, { on := 10, ground := Go.Ground.data }], guard := none }) rfl (fun K hK => ?_) AllReadyH.nil
  go_simp
  refine (refLess_any b.c a.c hb0 ha _).mono ?_
  rintro e wz ⟨he, rfl⟩
  subst he
  refine hK.out _ _ hS0 (fun hS1 => ?_)
  clear hK K hS0
  try simp only [Act.put, List.setIfInBounds_toArray, List.set_cons_zero, List.set_cons_succ]
  refine wpAnyH_take (i := 12) (oi := { dst := some 27, op := Go.Op.binOp Go.BinOp.add 22 (Go.Operand.tmp 21) (Go.Operand.tmp 26) 22, type := 22, pos := "ref.go:24", after := #[{ on := 6, ground := Go.Ground.data }, { on := 11, ground := Go.Ground.data }], guard := none }) (v := ?_) rfl (by kernel_rfl) (by kernel_rfl) (by kernel_rfl) (fun _ _ _ h => h) (Or.inl ⟨by rfl, ?_⟩) hS1 ?_; rotate_left; (· (intro wq hSw; obtain ⟨a0, a1, a2, hq⟩ := labsAt_head hSw.1; obtain ⟨b0, b1, b2, _⟩ := labsAt_head hq; go_simp; try with_reducible rfl))
  try simp only [Act.put, List.setIfInBounds_toArray, List.set_cons_zero, List.set_cons_succ]
  refine wpAnyH_take (i := 18) (oi := { dst := some 33, op := Go.Op.build 24 #[(0, Go.Operand.tmp 19), (1, Go.Operand.tmp 27), (2, Go.Operand.tmp 32)], type := 24, pos := "ref.go:24", after := #[{ on := 4, ground := Go.Ground.data }, { on := 12, ground := Go.Ground.data }, { on := 17, ground := Go.Ground.data }], guard := none }) (v := ?_) rfl (by kernel_rfl) (by kernel_rfl) (by kernel_rfl) (fun _ _ _ h => h) (Or.inl ⟨by rfl, ?_⟩) hS1 ?_; rotate_left; (· (intro wq hSw; obtain ⟨a0, a1, a2, hq⟩ := labsAt_head hSw.1; obtain ⟨b0, b1, b2, _⟩ := labsAt_head hq; go_simp; try with_reducible rfl))
  try simp only [Act.put, List.setIfInBounds_toArray, List.set_cons_zero, List.set_cons_succ]
  refine wpAnyH_ready (rs := [19]) (by kernel_rfl) (by simp) ?_
  refine AllReadyH.cons (o := { dst := none, op := Go.Op.store 24 (Go.Operand.tmp 4) (Go.Operand.tmp 33), type := 0, pos := "ref.go:24", after := #[{ on := 18, ground := Go.Ground.data }, { on := 11, ground := Go.Ground.chain }, { on := 0, ground := Go.Ground.phase }, { on := 1, ground := Go.Ground.phase }, { on := 2, ground := Go.Ground.phase }, { on := 3, ground := Go.Ground.phase }, { on := 4, ground := Go.Ground.phase }, { on := 5, ground := Go.Ground.phase }, { on := 6, ground := Go.Ground.phase }, { on := 7, ground := Go.Ground.phase }, { on := 8, ground := Go.Ground.phase }, { on := 9, ground := Go.Ground.phase }, { on := 10, ground := Go.Ground.phase }, { on := 11, ground := Go.Ground.phase }, { on := 12, ground := Go.Ground.phase }, { on := 13, ground := Go.Ground.phase }, { on := 14, ground := Go.Ground.phase }, { on := 15, ground := Go.Ground.phase }, { on := 16, ground := Go.Ground.phase }, { on := 17, ground := Go.Ground.phase }, { on := 18, ground := Go.Ground.phase }], guard := none }) rfl (fun K hK => ?_) AllReadyH.nil
  go_simp
  refine hK.out _ _ (RefS.set hS1 (.int .i64 b.l) (.int .u64 cc) (.int .i64 a.i)) (fun hS2 => ?_)
  clear hK K hS1
  try simp only [Act.put, List.setIfInBounds_toArray, List.set_cons_zero, List.set_cons_succ]
  refine wpAnyH_take (i := 20) (oi := { dst := some 5, op := Go.Op.assign (Go.Operand.const (Go.Value.int Go.IntKind.i64 0)), type := 26, pos := "ref.go:24", after := #[{ on := 19, ground := Go.Ground.chain }, { on := 0, ground := Go.Ground.phase }, { on := 1, ground := Go.Ground.phase }, { on := 2, ground := Go.Ground.phase }, { on := 3, ground := Go.Ground.phase }, { on := 4, ground := Go.Ground.phase }, { on := 5, ground := Go.Ground.phase }, { on := 6, ground := Go.Ground.phase }, { on := 7, ground := Go.Ground.phase }, { on := 8, ground := Go.Ground.phase }, { on := 9, ground := Go.Ground.phase }, { on := 10, ground := Go.Ground.phase }, { on := 11, ground := Go.Ground.phase }, { on := 12, ground := Go.Ground.phase }, { on := 13, ground := Go.Ground.phase }, { on := 14, ground := Go.Ground.phase }, { on := 15, ground := Go.Ground.phase }, { on := 16, ground := Go.Ground.phase }, { on := 17, ground := Go.Ground.phase }, { on := 18, ground := Go.Ground.phase }, { on := 19, ground := Go.Ground.phase }], guard := none }) (v := ?_) rfl (by kernel_rfl) (by kernel_rfl) (by kernel_rfl) (fun _ _ _ h => h) (Or.inl ⟨by rfl, ?_⟩) hS2 ?_; rotate_left; (· (intro wq hSw; obtain ⟨a0, a1, a2, hq⟩ := labsAt_head hSw.1; obtain ⟨b0, b1, b2, _⟩ := labsAt_head hq; go_simp; try with_reducible rfl))
  try simp only [Act.put, List.setIfInBounds_toArray, List.set_cons_zero, List.set_cons_succ]
  refine wpAnyH_done (by kernel_rfl) ?_ _
  have HC := Lib.hid (And.intro (setO (x := .int .i64 a.i) (b := ⟨w.heap.size + 1 + 1, 2, none⟩) (setO (x := .int .u64 cc) (b := ⟨w.heap.size + 1 + 1, 1, none⟩) (setS (.int .i64 b.l) r0) (ne_off (by omega))) (ne_off (by omega))) (And.intro (setO (x := .int .i64 a.i) (b := ⟨w.heap.size + 1 + 1, 2, none⟩) (setS (.int .u64 cc) (setO (x := .int .i64 b.l) (b := ⟨w.heap.size + 1 + 1, 0, none⟩) r1 (ne_off (by omega)))) (ne_off (by omega))) (setS (.int .i64 a.i) (setO (x := .int .u64 cc) (b := ⟨w.heap.size + 1 + 1, 1, none⟩) (setO (x := .int .i64 b.l) (b := ⟨w.heap.size + 1 + 1, 0, none⟩) r2 (ne_off (by omega))) (ne_off (by omega))))))
  have HB := Lib.hid hS2.1.below
  clear hS2
  go_wp2
  obtain ⟨c0, c1, c2⟩ := HC.out
  refine bodyPost_ret (v := .tuple #[.agg #[.int .i64 b.l, .int .u64 cc, .int .i64 a.i], .int .i64 0]) ?_ rfl ⟨rfl, HB.out⟩
  clear HC HB r0 r1 r2 f0 f1 f2
  replace c0 : (((w2.setCell ⟨w.heap.size + 1 + 1, 0, none⟩ (.int .i64 b.l)).setCell ⟨w.heap.size + 1 + 1, 1, none⟩ (.int .u64 cc)).setCell ⟨w.heap.size + 1 + 1, 2, none⟩ (.int .i64 a.i)).drew.cell? ⟨w.heap.size + 1 + 1, 0, none⟩ = some (.int .i64 b.l) := c0
  replace c1 : (((w2.setCell ⟨w.heap.size + 1 + 1, 0, none⟩ (.int .i64 b.l)).setCell ⟨w.heap.size + 1 + 1, 1, none⟩ (.int .u64 cc)).setCell ⟨w.heap.size + 1 + 1, 2, none⟩ (.int .i64 a.i)).drew.cell? ⟨w.heap.size + 1 + 1, 1, none⟩ = some (.int .u64 cc) := c1
  replace c2 : (((w2.setCell ⟨w.heap.size + 1 + 1, 0, none⟩ (.int .i64 b.l)).setCell ⟨w.heap.size + 1 + 1, 1, none⟩ (.int .u64 cc)).setCell ⟨w.heap.size + 1 + 1, 2, none⟩ (.int .i64 a.i)).drew.cell? ⟨w.heap.size + 1 + 1, 2, none⟩ = some (.int .i64 a.i) := c2
  generalize (((w2.setCell ⟨w.heap.size + 1 + 1, 0, none⟩ (.int .i64 b.l)).setCell ⟨w.heap.size + 1 + 1, 1, none⟩ (.int .u64 cc)).setCell ⟨w.heap.size + 1 + 1, 2, none⟩ (.int .i64 a.i)).drew = WF at c0 c1 c2 ⊢
  simp [results, Tryd.results31, go_sem, c0, c1, c2]

set_option maxRecDepth 100000 in
set_option maxHeartbeats 2000000 in
theorem refJoin_gl (a b : Lab) (ha : a.fits) (hb0 : b.fits) (h1 : a.right = true) (h2 : b.right = true) (p1 : ¬ a.l < b.l) (p2 : b.i < a.i) (w : World) (hg : ErrT w) :
    Calls Tryd.prog 31 #[.agg #[.int .i64 a.l, .int .u64 a.c, .int .i64 a.i], .agg #[.int .i64 b.l, .int .u64 b.c, .int .i64 b.i]] w fun e w' => e = .returned (.tuple #[.agg #[.int .i64 a.l, .int .u64 (a.c ||| b.c : Nat), .int .i64 b.i], .int .i64 0]) ∧ Below w.heap.size w w' := by
  have H1 := Lib.hid h1
  have H2 := Lib.hid h2
  clear h1 h2
  have z1 : (if a.l < b.l then b.l else a.l) = a.l := if_neg p1
  obtain ⟨cc, hcc⟩ : ∃ cc : Nat, a.c ||| b.c = cc := ⟨_, rfl⟩
  have hw := add_less a.c b.c ha hb0
  rw [hcc] at hw
  rw [hcc]
  clear hcc
  have hR := room_new w (.cells #[.int .i64 a.l, .int .u64 a.c, .int .i64 a.i] 24) (.cells #[.int .i64 b.l, .int .u64 b.c, .int .i64 b.i] 24) hg
  obtain ⟨⟨a0, a1, a2⟩, ⟨b0, b1, b2⟩⟩ := two_new w a b (.cells #[.int .i64 0, .int .u64 0, .int .i64 0] 24)
  clear hg
  go_enter Tryd.func31, Tryd.ntmps31
  go_wp2_with fail
  refine (refRight_any a _).mono ?_
  rintro e w1 ⟨he, hb⟩
  rw [H1.out] at he
  subst he
  replace a0 := cell_later hb a0
  replace a1 := cell_later hb a1
  replace a2 := cell_later hb a2
  replace b0 := cell_later hb b0
  replace b1 := cell_later hb b1
  replace b2 := cell_later hb b2
  replace hR := hR.below hb
  clear hb
  go_wp2_with fail
  refine (refRight_any b _).mono ?_
  rintro e w2 ⟨he, hb⟩
  rw [H2.out] at he
  subst he
  replace a0 := cell_later hb a0
  replace a1 := cell_later hb a1
  replace a2 := cell_later hb a2
  replace b0 := cell_later hb b0
  replace b1 := cell_later hb b1
  replace b2 := cell_later hb b2
  replace hR := hR.below hb
  clear hb
  go_wp2_with fail
  have hM : RefS w a b w2 := ⟨labsAt_cons a0 a1 a2 (labsAt_cons b0 b1 b2 (labsAt_nil hR.mid hR.err)), hR.1, hR.2.2.2⟩
  obtain ⟨v0, v1, v2, r0, r1, r2, f0, f1, f2⟩ := hR.1
  clear a0 a1 a2 b0 b1 b2 hR
  refine wp_region_held_drew (S := RefS w a b) (by kernel_rfl) (hM.drew) (fun hS0 => ?_)
  clear hM
  refine wpAnyH_take (i := 0) (oi := { dst := some 15, op := Go.Op.fieldAddr 24 (Go.Operand.tmp 2) 0, type := 0, pos := "ref.go:24", after := #[], guard := none }) (v := ?_) rfl (by kernel_rfl) (by kernel_rfl) (by kernel_rfl) (fun _ _ _ h => h) (Or.inl ⟨by rfl, ?_⟩) hS0 ?_; rotate_left; (· (intro wq hSw; obtain ⟨a0, a1, a2, hq⟩ := labsAt_head hSw.1; obtain ⟨b0, b1, b2, _⟩ := labsAt_head hq; go_simp; try with_reducible rfl))
  try simp only [Act.put, List.setIfInBounds_toArray, List.set_cons_zero, List.set_cons_succ]
  refine wpAnyH_take (i := 1) (oi := { dst := some 16, op := Go.Op.load 3 (Go.Operand.tmp 15), type := 3, pos := "ref.go:24", after := #[{ on := 0, ground := Go.Ground.data }], guard := none }) (v := ?_) rfl (by kernel_rfl) (by kernel_rfl) (by kernel_rfl) (fun _ _ _ h => h) (Or.inl ⟨by rfl, ?_⟩) hS0 ?_; rotate_left; (· (intro wq hSw; obtain ⟨a0, a1, a2, hq⟩ := labsAt_head hSw.1; obtain ⟨b0, b1, b2, _⟩ := labsAt_head hq; go_simp; try with_reducible rfl))
  try simp only [Act.put, List.setIfInBounds_toArray, List.set_cons_zero, List.set_cons_succ]
  refine wpAnyH_take (i := 2) (oi := { dst := some 17, op := Go.Op.fieldAddr 24 (Go.Operand.tmp 3) 0, type := 0, pos := "ref.go:24", after := #[], guard := none }) (v := ?_) rfl (by kernel_rfl) (by kernel_rfl) (by kernel_rfl) (fun _ _ _ h => h) (Or.inl ⟨by rfl, ?_⟩) hS0 ?_; rotate_left; (· (intro wq hSw; obtain ⟨a0, a1, a2, hq⟩ := labsAt_head hSw.1; obtain ⟨b0, b1, b2, _⟩ := labsAt_head hq; go_simp; try with_reducible rfl))
  try simp only [Act.put, List.setIfInBounds_toArray, List.set_cons_zero, List.set_cons_succ]
  refine wpAnyH_take (i := 3) (oi := { dst := some 18, op := Go.Op.load 3 (Go.Operand.tmp 17), type := 3, pos := "ref.go:24", after := #[{ on := 2, ground := Go.Ground.data }], guard := none }) (v := ?_) rfl (by kernel_rfl) (by kernel_rfl) (by kernel_rfl) (fun _ _ _ h => h) (Or.inl ⟨by rfl, ?_⟩) hS0 ?_; rotate_left; (· (intro wq hSw; obtain ⟨a0, a1, a2, hq⟩ := labsAt_head hSw.1; obtain ⟨b0, b1, b2, _⟩ := labsAt_head hq; go_simp; try with_reducible rfl))
  try simp only [Act.put, List.setIfInBounds_toArray, List.set_cons_zero, List.set_cons_succ]
  refine wpAnyH_take (i := 4) (oi := { dst := some 19, op := Go.Op.call { callee := Go.Callee.builtin Go.Builtin.max, args := #[Go.Operand.tmp 16, Go.Operand.tmp 18], argTypes := #[3, 3] }, type := 3, pos := "ref.go:24", after := #[{ on := 1, ground := Go.Ground.data }, { on := 3, ground := Go.Ground.data }], guard := none }) (v := ?_) rfl (by kernel_rfl) (by kernel_rfl) (by kernel_rfl) (fun _ _ _ h => h) (Or.inl ⟨by rfl, ?_⟩) hS0 ?_; rotate_left; (· (intro wq hSw; obtain ⟨a0, a1, a2, hq⟩ := labsAt_head hSw.1; obtain ⟨b0, b1, b2, _⟩ := labsAt_head hq; go_simp; try with_reducible rfl))
  try simp only [Act.put, List.setIfInBounds_toArray, List.set_cons_zero, List.set_cons_succ]
  refine wpAnyH_take (i := 5) (oi := { dst := some 20, op := Go.Op.fieldAddr 24 (Go.Operand.tmp 2) 1, type := 0, pos := "ref.go:24", after := #[], guard := none }) (v := ?_) rfl (by kernel_rfl) (by kernel_rfl) (by kernel_rfl) (fun _ _ _ h => h) (Or.inl ⟨by rfl, ?_⟩) hS0 ?_; rotate_left; (· (intro wq hSw; obtain ⟨a0, a1, a2, hq⟩ := labsAt_head hSw.1; obtain ⟨b0, b1, b2, _⟩ := labsAt_head hq; go_simp; try with_reducible rfl))
  try simp only [Act.put, List.setIfInBounds_toArray, List.set_cons_zero, List.set_cons_succ]
  refine wpAnyH_take (i := 6) (oi := { dst := some 21, op := Go.Op.load 22 (Go.Operand.tmp 20), type := 22, pos := "ref.go:24", after := #[{ on := 5, ground := Go.Ground.data }], guard := none }) (v := ?_) rfl (by kernel_rfl) (by kernel_rfl) (by kernel_rfl) (fun _ _ _ h => h) (Or.inl ⟨by rfl, ?_⟩) hS0 ?_; rotate_left; (· (intro wq hSw; obtain ⟨a0, a1, a2, hq⟩ := labsAt_head hSw.1; obtain ⟨b0, b1, b2, _⟩ := labsAt_head hq; go_simp; try with_reducible rfl))
  try simp only [Act.put, List.setIfInBounds_toArray, List.set_cons_zero, List.set_cons_succ]
  refine wpAnyH_take (i := 7) (oi := { dst := some 22, op := Go.Op.fieldAddr 24 (Go.Operand.tmp 3) 1, type := 0, pos := "ref.go:24", after := #[], guard := none }) (v := ?_) rfl (by kernel_rfl) (by kernel_rfl) (by kernel_rfl) (fun _ _ _ h => h) (Or.inl ⟨by rfl, ?_⟩) hS0 ?_; rotate_left; (· (intro wq hSw; obtain ⟨a0, a1, a2, hq⟩ := labsAt_head hSw.1; obtain ⟨b0, b1, b2, _⟩ := labsAt_head hq; go_simp; try with_reducible rfl))
  try simp only [Act.put, List.setIfInBounds_toArray, List.set_cons_zero, List.set_cons_succ]
  refine wpAnyH_take (i := 8) (oi := { dst := some 23, op := Go.Op.load 22 (Go.Operand.tmp 22), type := 22, pos := "ref.go:24", after := #[{ on := 7, ground := Go.Ground.data }], guard := none }) (v := ?_) rfl (by kernel_rfl) (by kernel_rfl) (by kernel_rfl) (fun _ _ _ h => h) (Or.inl ⟨by rfl, ?_⟩) hS0 ?_; rotate_left; (· (intro wq hSw; obtain ⟨a0, a1, a2, hq⟩ := labsAt_head hSw.1; obtain ⟨b0, b1, b2, _⟩ := labsAt_head hq; go_simp; try with_reducible rfl))
  try simp only [Act.put, List.setIfInBounds_toArray, List.set_cons_zero, List.set_cons_succ]
  refine wpAnyH_take (i := 9) (oi := { dst := some 24, op := Go.Op.fieldAddr 24 (Go.Operand.tmp 2) 1, type := 0, pos := "ref.go:24", after := #[], guard := none }) (v := ?_) rfl (by kernel_rfl) (by kernel_rfl) (by kernel_rfl) (fun _ _ _ h => h) (Or.inl ⟨by rfl, ?_⟩) hS0 ?_; rotate_left; (· (intro wq hSw; obtain ⟨a0, a1, a2, hq⟩ := labsAt_head hSw.1; obtain ⟨b0, b1, b2, _⟩ := labsAt_head hq; go_simp; try with_reducible rfl))
  try simp only [Act.put, List.setIfInBounds_toArray, List.set_cons_zero, List.set_cons_succ]
  refine wpAnyH_take (i := 10) (oi := { dst := some 25, op := Go.Op.load 22 (Go.Operand.tmp 24), type := 22, pos := "ref.go:24", after := #[{ on := 9, ground := Go.Ground.data }], guard := none }) (v := ?_) rfl (by kernel_rfl) (by kernel_rfl) (by kernel_rfl) (fun _ _ _ h => h) (Or.inl ⟨by rfl, ?_⟩) hS0 ?_; rotate_left; (· (intro wq hSw; obtain ⟨a0, a1, a2, hq⟩ := labsAt_head hSw.1; obtain ⟨b0, b1, b2, _⟩ := labsAt_head hq; go_simp; try with_reducible rfl))
  try simp only [Act.put, List.setIfInBounds_toArray, List.set_cons_zero, List.set_cons_succ]
  refine wpAnyH_take (i := 13) (oi := { dst := some 28, op := Go.Op.fieldAddr 24 (Go.Operand.tmp 2) 2, type := 0, pos := "ref.go:24", after := #[], guard := none }) (v := ?_) rfl (by kernel_rfl) (by kernel_rfl) (by kernel_rfl) (fun _ _ _ h => h) (Or.inl ⟨by rfl, ?_⟩) hS0 ?_; rotate_left; (· (intro wq hSw; obtain ⟨a0, a1, a2, hq⟩ := labsAt_head hSw.1; obtain ⟨b0, b1, b2, _⟩ := labsAt_head hq; go_simp; try with_reducible rfl))
  try simp only [Act.put, List.setIfInBounds_toArray, List.set_cons_zero, List.set_cons_succ]
  refine wpAnyH_take (i := 14) (oi := { dst := some 29, op := Go.Op.load 3 (Go.Operand.tmp 28), type := 3, pos := "ref.go:24", after := #[{ on := 13, ground := Go.Ground.data }], guard := none }) (v := ?_) rfl (by kernel_rfl) (by kernel_rfl) (by kernel_rfl) (fun _ _ _ h => h) (Or.inl ⟨by rfl, ?_⟩) hS0 ?_; rotate_left; (· (intro wq hSw; obtain ⟨a0, a1, a2, hq⟩ := labsAt_head hSw.1; obtain ⟨b0, b1, b2, _⟩ := labsAt_head hq; go_simp; try with_reducible rfl))
  try simp only [Act.put, List.setIfInBounds_toArray, List.set_cons_zero, List.set_cons_succ]
  refine wpAnyH_take (i := 15) (oi := { dst := some 30, op := Go.Op.fieldAddr 24 (Go.Operand.tmp 3) 2, type := 0, pos := "ref.go:24", after := #[], guard := none }) (v := ?_) rfl (by kernel_rfl) (by kernel_rfl) (by kernel_rfl) (fun _ _ _ h => h) (Or.inl ⟨by rfl, ?_⟩) hS0 ?_; rotate_left; (· (intro wq hSw; obtain ⟨a0, a1, a2, hq⟩ := labsAt_head hSw.1; obtain ⟨b0, b1, b2, _⟩ := labsAt_head hq; go_simp; try with_reducible rfl))
  try simp only [Act.put, List.setIfInBounds_toArray, List.set_cons_zero, List.set_cons_succ]
  refine wpAnyH_take (i := 16) (oi := { dst := some 31, op := Go.Op.load 3 (Go.Operand.tmp 30), type := 3, pos := "ref.go:24", after := #[{ on := 15, ground := Go.Ground.data }], guard := none }) (v := ?_) rfl (by kernel_rfl) (by kernel_rfl) (by kernel_rfl) (fun _ _ _ h => h) (Or.inl ⟨by rfl, ?_⟩) hS0 ?_; rotate_left; (· (intro wq hSw; obtain ⟨a0, a1, a2, hq⟩ := labsAt_head hSw.1; obtain ⟨b0, b1, b2, _⟩ := labsAt_head hq; go_simp; try with_reducible rfl))
  try simp only [Act.put, List.setIfInBounds_toArray, List.set_cons_zero, List.set_cons_succ]
  refine wpAnyH_take (i := 17) (oi := { dst := some 32, op := Go.Op.call { callee := Go.Callee.builtin Go.Builtin.min, args := #[Go.Operand.tmp 29, Go.Operand.tmp 31], argTypes := #[3, 3] }, type := 3, pos := "ref.go:24", after := #[{ on := 14, ground := Go.Ground.data }, { on := 16, ground := Go.Ground.data }], guard := none }) (v := ?_) rfl (by kernel_rfl) (by kernel_rfl) (by kernel_rfl) (fun _ _ _ h => h) (Or.inl ⟨by rfl, ?_⟩) hS0 ?_; rotate_left; (· (intro wq hSw; obtain ⟨a0, a1, a2, hq⟩ := labsAt_head hSw.1; obtain ⟨b0, b1, b2, _⟩ := labsAt_head hq; go_simp; try with_reducible rfl))
  try simp only [Act.put, List.setIfInBounds_toArray, List.set_cons_zero, List.set_cons_succ]
  refine wpAnyH_ready (rs := [11]) (by kernel_rfl) (by simp) ?_
  refine AllReadyH.cons (o := { dst := some 26, op := Go.Op.call { callee := Go.Callee.value (Go.Operand.func 36), args := #[Go.Operand.tmp 23, Go.Operand.tmp 25], argTypes := #[22, 22] }, type := 22, pos := "ref.go:24", after := #[{ on := 8, ground := Go.Ground.data }, { on := 10, ground := Go.Ground.data }], guard := none }) rfl (fun K hK => ?_) AllReadyH.nil
  go_simp
  refine (refLess_any b.c a.c hb0 ha _).mono ?_
  rintro e wz ⟨he, rfl⟩
  subst he
  refine hK.out _ _ hS0 (fun hS1 => ?_)
  clear hK K hS0
  try simp only [Act.put, List.setIfInBounds_toArray, List.set_cons_zero, List.set_cons_succ]
  refine wpAnyH_take (i := 12) (oi := { dst := some 27, op := Go.Op.binOp Go.BinOp.add 22 (Go.Operand.tmp 21) (Go.Operand.tmp 26) 22, type := 22, pos := "ref.go:24", after := #[{ on := 6, ground := Go.Ground.data }, { on := 11, ground := Go.Ground.data }], guard := none }) (v := ?_) rfl (by kernel_rfl) (by kernel_rfl) (by kernel_rfl) (fun _ _ _ h => h) (Or.inl ⟨by rfl, ?_⟩) hS1 ?_; rotate_left; (· (intro wq hSw; obtain ⟨a0, a1, a2, hq⟩ := labsAt_head hSw.1; obtain ⟨b0, b1, b2, _⟩ := labsAt_head hq; go_simp; try with_reducible rfl))
  try simp only [Act.put, List.setIfInBounds_toArray, List.set_cons_zero, List.set_cons_succ]
  refine wpAnyH_take (i := 18) (oi := { dst := some 33, op := Go.Op.build 24 #[(0, Go.Operand.tmp 19), (1, Go.Operand.tmp 27), (2, Go.Operand.tmp 32)], type := 24, pos := "ref.go:24", after := #[{ on := 4, ground := Go.Ground.data }, { on := 12, ground := Go.Ground.data }, { on := 17, ground := Go.Ground.data }], guard := none }) (v := ?_) rfl (by kernel_rfl) (by kernel_rfl) (by kernel_rfl) (fun _ _ _ h => h) (Or.inl ⟨by rfl, ?_⟩) hS1 ?_; rotate_left; (· (intro wq hSw; obtain ⟨a0, a1, a2, hq⟩ := labsAt_head hSw.1; obtain ⟨b0, b1, b2, _⟩ := labsAt_head hq; go_simp; try with_reducible rfl))
  try simp only [Act.put, List.setIfInBounds_toArray, List.set_cons_zero, List.set_cons_succ]
  refine wpAnyH_ready (rs := [19]) (by kernel_rfl) (by simp) ?_
  refine AllReadyH.cons (o := { dst := none, op := Go.Op.store 24 (Go.Operand.tmp 4) (Go.Operand.tmp 33), type := 0, pos := "ref.go:24", after := #[{ on := 18, ground := Go.Ground.data }, { on := 11, ground := Go.Ground.chain }, { on := 0, ground := Go.Ground.phase }, { on := 1, ground := Go.Ground.phase }, { on := 2, ground := Go.Ground.phase }, { on := 3, ground := Go.Ground.phase }, { on := 4, ground := Go.Ground.phase }, { on := 5, ground := Go.Ground.phase }, { on := 6, ground := Go.Ground.phase }, { on := 7, ground := Go.Ground.phase }, { on := 8, ground := Go.Ground.phase }, { on := 9, ground := Go.Ground.phase }, { on := 10, ground := Go.Ground.phase }, { on := 11, ground := Go.Ground.phase }, { on := 12, ground := Go.Ground.phase }, { on := 13, ground := Go.Ground.phase }, { on := 14, ground := Go.Ground.phase }, { on := 15, ground := Go.Ground.phase }, { on := 16, ground := Go.Ground.phase }, { on := 17, ground := Go.Ground.phase }, { on := 18, ground := Go.Ground.phase }], guard := none }) rfl (fun K hK => ?_) AllReadyH.nil
  go_simp
  refine hK.out _ _ (RefS.set hS1 (.int .i64 a.l) (.int .u64 cc) (.int .i64 b.i)) (fun hS2 => ?_)
  clear hK K hS1
  try simp only [Act.put, List.setIfInBounds_toArray, List.set_cons_zero, List.set_cons_succ]
  refine wpAnyH_take (i := 20) (oi := { dst := some 5, op := Go.Op.assign (Go.Operand.const (Go.Value.int Go.IntKind.i64 0)), type := 26, pos := "ref.go:24", after := #[{ on := 19, ground := Go.Ground.chain }, { on := 0, ground := Go.Ground.phase }, { on := 1, ground := Go.Ground.phase }, { on := 2, ground := Go.Ground.phase }, { on := 3, ground := Go.Ground.phase }, { on := 4, ground := Go.Ground.phase }, { on := 5, ground := Go.Ground.phase }, { on := 6, ground := Go.Ground.phase }, { on := 7, ground := Go.Ground.phase }, { on := 8, ground := Go.Ground.phase }, { on := 9, ground := Go.Ground.phase }, { on := 10, ground := Go.Ground.phase }, { on := 11, ground := Go.Ground.phase }, { on := 12, ground := Go.Ground.phase }, { on := 13, ground := Go.Ground.phase }, { on := 14, ground := Go.Ground.phase }, { on := 15, ground := Go.Ground.phase }, { on := 16, ground := Go.Ground.phase }, { on := 17, ground := Go.Ground.phase }, { on := 18, ground := Go.Ground.phase }, { on := 19, ground := Go.Ground.phase }], guard := none }) (v := ?_) rfl (by kernel_rfl) (by kernel_rfl) (by kernel_rfl) (fun _ _ _ h => h) (Or.inl ⟨by rfl, ?_⟩) hS2 ?_; rotate_left; (· (intro wq hSw; obtain ⟨a0, a1, a2, hq⟩ := labsAt_head hSw.1; obtain ⟨b0, b1, b2, _⟩ := labsAt_head hq; go_simp; try with_reducible rfl))
  try simp only [Act.put, List.setIfInBounds_toArray, List.set_cons_zero, List.set_cons_succ]
  refine wpAnyH_done (by kernel_rfl) ?_ _
  have HC := Lib.hid (And.intro (setO (x := .int .i64 b.i) (b := ⟨w.heap.size + 1 + 1, 2, none⟩) (setO (x := .int .u64 cc) (b := ⟨w.heap.size + 1 + 1, 1, none⟩) (setS (.int .i64 a.l) r0) (ne_off (by omega))) (ne_off (by omega))) (And.intro (setO (x := .int .i64 b.i) (b := ⟨w.heap.size + 1 + 1, 2, none⟩) (setS (.int .u64 cc) (setO (x := .int .i64 a.l) (b := ⟨w.heap.size + 1 + 1, 0, none⟩) r1 (ne_off (by omega)))) (ne_off (by omega))) (setS (.int .i64 b.i) (setO (x := .int .u64 cc) (b := ⟨w.heap.size + 1 + 1, 1, none⟩) (setO (x := .int .i64 a.l) (b := ⟨w.heap.size + 1 + 1, 0, none⟩) r2 (ne_off (by omega))) (ne_off (by omega))))))
  have HB := Lib.hid hS2.1.below
  clear hS2
  go_wp2
  obtain ⟨c0, c1, c2⟩ := HC.out
  refine bodyPost_ret (v := .tuple #[.agg #[.int .i64 a.l, .int .u64 cc, .int .i64 b.i], .int .i64 0]) ?_ rfl ⟨rfl, HB.out⟩
  clear HC HB r0 r1 r2 f0 f1 f2
  replace c0 : (((w2.setCell ⟨w.heap.size + 1 + 1, 0, none⟩ (.int .i64 a.l)).setCell ⟨w.heap.size + 1 + 1, 1, none⟩ (.int .u64 cc)).setCell ⟨w.heap.size + 1 + 1, 2, none⟩ (.int .i64 b.i)).drew.cell? ⟨w.heap.size + 1 + 1, 0, none⟩ = some (.int .i64 a.l) := c0
  replace c1 : (((w2.setCell ⟨w.heap.size + 1 + 1, 0, none⟩ (.int .i64 a.l)).setCell ⟨w.heap.size + 1 + 1, 1, none⟩ (.int .u64 cc)).setCell ⟨w.heap.size + 1 + 1, 2, none⟩ (.int .i64 b.i)).drew.cell? ⟨w.heap.size + 1 + 1, 1, none⟩ = some (.int .u64 cc) := c1
  replace c2 : (((w2.setCell ⟨w.heap.size + 1 + 1, 0, none⟩ (.int .i64 a.l)).setCell ⟨w.heap.size + 1 + 1, 1, none⟩ (.int .u64 cc)).setCell ⟨w.heap.size + 1 + 1, 2, none⟩ (.int .i64 b.i)).drew.cell? ⟨w.heap.size + 1 + 1, 2, none⟩ = some (.int .i64 b.i) := c2
  generalize (((w2.setCell ⟨w.heap.size + 1 + 1, 0, none⟩ (.int .i64 a.l)).setCell ⟨w.heap.size + 1 + 1, 1, none⟩ (.int .u64 cc)).setCell ⟨w.heap.size + 1 + 1, 2, none⟩ (.int .i64 b.i)).drew = WF at c0 c1 c2 ⊢
  simp [results, Tryd.results31, go_sem, c0, c1, c2]

set_option maxRecDepth 100000 in
set_option maxHeartbeats 2000000 in
theorem refJoin_gg (a b : Lab) (ha : a.fits) (hb0 : b.fits) (h1 : a.right = true) (h2 : b.right = true) (p1 : ¬ a.l < b.l) (p2 : ¬ b.i < a.i) (w : World) (hg : ErrT w) :
    Calls Tryd.prog 31 #[.agg #[.int .i64 a.l, .int .u64 a.c, .int .i64 a.i], .agg #[.int .i64 b.l, .int .u64 b.c, .int .i64 b.i]] w fun e w' => e = .returned (.tuple #[.agg #[.int .i64 a.l, .int .u64 (a.c ||| b.c : Nat), .int .i64 a.i], .int .i64 0]) ∧ Below w.heap.size w w' := by
  have H1 := Lib.hid h1
  have H2 := Lib.hid h2
  clear h1 h2
  have z1 : (if a.l < b.l then b.l else a.l) = a.l := if_neg p1
  have z2 : (if b.i < a.i then b.i else a.i) = a.i := if_neg p2
  obtain ⟨cc, hcc⟩ : ∃ cc : Nat, a.c ||| b.c = cc := ⟨_, rfl⟩
  have hw := add_less a.c b.c ha hb0
  rw [hcc] at hw
  rw [hcc]
  clear hcc
  have hR := room_new w (.cells #[.int .i64 a.l, .int .u64 a.c, .int .i64 a.i] 24) (.cells #[.int .i64 b.l, .int .u64 b.c, .int .i64 b.i] 24) hg
  obtain ⟨⟨a0, a1, a2⟩, ⟨b0, b1, b2⟩⟩ := two_new w a b (.cells #[.int .i64 0, .int .u64 0, .int .i64 0] 24)
  clear hg
  go_enter Tryd.func31, Tryd.ntmps31
  go_wp2_with fail
  refine (refRight_any a _).mono ?_
  rintro e w1 ⟨he, hb⟩
  rw [H1.out] at he
  subst he
  replace a0 := cell_later hb a0
  replace a1 := cell_later hb a1
  replace a2 := cell_later hb a2
  replace b0 := cell_later hb b0
  replace b1 := cell_later hb b1
  replace b2 := cell_later hb b2
  replace hR := hR.below hb
  clear hb
  go_wp2_with fail
  refine (refRight_any b _).mono ?_
  rintro e w2 ⟨he, hb⟩
  rw [H2.out] at he
  subst he
  replace a0 := cell_later hb a0
  replace a1 := cell_later hb a1
  replace a2 := cell_later hb a2
  replace b0 := cell_later hb b0
  replace b1 := cell_later hb b1
  replace b2 := cell_later hb b2
  replace hR := hR.below hb
  clear hb
  go_wp2_with fail
  have hM : RefS w a b w2 := ⟨labsAt_cons a0 a1 a2 (labsAt_cons b0 b1 b2 (labsAt_nil hR.mid hR.err)), hR.1, hR.2.2.2⟩
  obtain ⟨v0, v1, v2, r0, r1, r2, f0, f1, f2⟩ := hR.1
  clear a0 a1 a2 b0 b1 b2 hR
  refine wp_region_held_drew (S := RefS w a b) (by kernel_rfl) (hM.drew) (fun hS0 => ?_)
  clear hM
  refine wpAnyH_take (i := 0) (oi := { dst := some 15, op := Go.Op.fieldAddr 24 (Go.Operand.tmp 2) 0, type := 0, pos := "ref.go:24", after := #[], guard := none }) (v := ?_) rfl (by kernel_rfl) (by kernel_rfl) (by kernel_rfl) (fun _ _ _ h => h) (Or.inl ⟨by rfl, ?_⟩) hS0 ?_; rotate_left; (· (intro wq hSw; obtain ⟨a0, a1, a2, hq⟩ := labsAt_head hSw.1; obtain ⟨b0, b1, b2, _⟩ := labsAt_head hq; go_simp; try with_reducible rfl))
  try simp only [Act.put, List.setIfInBounds_toArray, List.set_cons_zero, List.set_cons_succ]
  refine wpAnyH_take (i := 1) (oi := { dst := some 16, op := Go.Op.load 3 (Go.Operand.tmp 15), type := 3, pos := "ref.go:24", after := #[{ on := 0, ground := Go.Ground.data }], guard := none }) (v := ?_) rfl (by kernel_rfl) (by kernel_rfl) (by kernel_rfl) (fun _ _ _ h => h) (Or.inl ⟨by rfl, ?_⟩) hS0 ?_; rotate_left; (· (intro wq hSw; obtain ⟨a0, a1, a2, hq⟩ := labsAt_head hSw.1; obtain ⟨b0, b1, b2, _⟩ := labsAt_head hq; go_simp; try with_reducible rfl))
  try simp only [Act.put, List.setIfInBounds_toArray, List.set_cons_zero, List.set_cons_succ]
  refine wpAnyH_take (i := 2) (oi := { dst := some 17, op := Go.Op.fieldAddr 24 (Go.Operand.tmp 3) 0, type := 0, pos := "ref.go:24", after := #[], guard := none }) (v := ?_) rfl (by kernel_rfl) (by kernel_rfl) (by kernel_rfl) (fun _ _ _ h => h) (Or.inl ⟨by rfl, ?_⟩) hS0 ?_; rotate_left; (· (intro wq hSw; obtain ⟨a0, a1, a2, hq⟩ := labsAt_head hSw.1; obtain ⟨b0, b1, b2, _⟩ := labsAt_head hq; go_simp; try with_reducible rfl))
  try simp only [Act.put, List.setIfInBounds_toArray, List.set_cons_zero, List.set_cons_succ]
  refine wpAnyH_take (i := 3) (oi := { dst := some 18, op := Go.Op.load 3 (Go.Operand.tmp 17), type := 3, pos := "ref.go:24", after := #[{ on := 2, ground := Go.Ground.data }], guard := none }) (v := ?_) rfl (by kernel_rfl) (by kernel_rfl) (by kernel_rfl) (fun _ _ _ h => h) (Or.inl ⟨by rfl, ?_⟩) hS0 ?_; rotate_left; (· (intro wq hSw; obtain ⟨a0, a1, a2, hq⟩ := labsAt_head hSw.1; obtain ⟨b0, b1, b2, _⟩ := labsAt_head hq; go_simp; try with_reducible rfl))
  try simp only [Act.put, List.setIfInBounds_toArray, List.set_cons_zero, List.set_cons_succ]
  refine wpAnyH_take (i := 4) (oi := { dst := some 19, op := Go.Op.call { callee := Go.Callee.builtin Go.Builtin.max, args := #[Go.Operand.tmp 16, Go.Operand.tmp 18], argTypes := #[3, 3] }, type := 3, pos := "ref.go:24", after := #[{ on := 1, ground := Go.Ground.data }, { on := 3, ground := Go.Ground.data }], guard := none }) (v := ?_) rfl (by kernel_rfl) (by kernel_rfl) (by kernel_rfl) (fun _ _ _ h => h) (Or.inl ⟨by rfl, ?_⟩) hS0 ?_; rotate_left; (· (intro wq hSw; obtain ⟨a0, a1, a2, hq⟩ := labsAt_head hSw.1; obtain ⟨b0, b1, b2, _⟩ := labsAt_head hq; go_simp; try with_reducible rfl))
  try simp only [Act.put, List.setIfInBounds_toArray, List.set_cons_zero, List.set_cons_succ]
  refine wpAnyH_take (i := 5) (oi := { dst := some 20, op := Go.Op.fieldAddr 24 (Go.Operand.tmp 2) 1, type := 0, pos := "ref.go:24", after := #[], guard := none }) (v := ?_) rfl (by kernel_rfl) (by kernel_rfl) (by kernel_rfl) (fun _ _ _ h => h) (Or.inl ⟨by rfl, ?_⟩) hS0 ?_; rotate_left; (· (intro wq hSw; obtain ⟨a0, a1, a2, hq⟩ := labsAt_head hSw.1; obtain ⟨b0, b1, b2, _⟩ := labsAt_head hq; go_simp; try with_reducible rfl))
  try simp only [Act.put, List.setIfInBounds_toArray, List.set_cons_zero, List.set_cons_succ]
  refine wpAnyH_take (i := 6) (oi := { dst := some 21, op := Go.Op.load 22 (Go.Operand.tmp 20), type := 22, pos := "ref.go:24", after := #[{ on := 5, ground := Go.Ground.data }], guard := none }) (v := ?_) rfl (by kernel_rfl) (by kernel_rfl) (by kernel_rfl) (fun _ _ _ h => h) (Or.inl ⟨by rfl, ?_⟩) hS0 ?_; rotate_left; (· (intro wq hSw; obtain ⟨a0, a1, a2, hq⟩ := labsAt_head hSw.1; obtain ⟨b0, b1, b2, _⟩ := labsAt_head hq; go_simp; try with_reducible rfl))
  try simp only [Act.put, List.setIfInBounds_toArray, List.set_cons_zero, List.set_cons_succ]
  refine wpAnyH_take (i := 7) (oi := { dst := some 22, op := Go.Op.fieldAddr 24 (Go.Operand.tmp 3) 1, type := 0, pos := "ref.go:24", after := #[], guard := none }) (v := ?_) rfl (by kernel_rfl) (by kernel_rfl) (by kernel_rfl) (fun _ _ _ h => h) (Or.inl ⟨by rfl, ?_⟩) hS0 ?_; rotate_left; (· (intro wq hSw; obtain ⟨a0, a1, a2, hq⟩ := labsAt_head hSw.1; obtain ⟨b0, b1, b2, _⟩ := labsAt_head hq; go_simp; try with_reducible rfl))
  try simp only [Act.put, List.setIfInBounds_toArray, List.set_cons_zero, List.set_cons_succ]
  refine wpAnyH_take (i := 8) (oi := { dst := some 23, op := Go.Op.load 22 (Go.Operand.tmp 22), type := 22, pos := "ref.go:24", after := #[{ on := 7, ground := Go.Ground.data }], guard := none }) (v := ?_) rfl (by kernel_rfl) (by kernel_rfl) (by kernel_rfl) (fun _ _ _ h => h) (Or.inl ⟨by rfl, ?_⟩) hS0 ?_; rotate_left; (· (intro wq hSw; obtain ⟨a0, a1, a2, hq⟩ := labsAt_head hSw.1; obtain ⟨b0, b1, b2, _⟩ := labsAt_head hq; go_simp; try with_reducible rfl))
  try simp only [Act.put, List.setIfInBounds_toArray, List.set_cons_zero, List.set_cons_succ]
  refine wpAnyH_take (i := 9) (oi := { dst := some 24, op := Go.Op.fieldAddr 24 (Go.Operand.tmp 2) 1, type := 0, pos := "ref.go:24", after := #[], guard := none }) (v := ?_) rfl (by kernel_rfl) (by kernel_rfl) (by kernel_rfl) (fun _ _ _ h => h) (Or.inl ⟨by rfl, ?_⟩) hS0 ?_; rotate_left; (· (intro wq hSw; obtain ⟨a0, a1, a2, hq⟩ := labsAt_head hSw.1; obtain ⟨b0, b1, b2, _⟩ := labsAt_head hq; go_simp; try with_reducible rfl))
  try simp only [Act.put, List.setIfInBounds_toArray, List.set_cons_zero, List.set_cons_succ]
  refine wpAnyH_take (i := 10) (oi := { dst := some 25, op := Go.Op.load 22 (Go.Operand.tmp 24), type := 22, pos := "ref.go:24", after := #[{ on := 9, ground := Go.Ground.data }], guard := none }) (v := ?_) rfl (by kernel_rfl) (by kernel_rfl) (by kernel_rfl) (fun _ _ _ h => h) (Or.inl ⟨by rfl, ?_⟩) hS0 ?_; rotate_left; (· (intro wq hSw; obtain ⟨a0, a1, a2, hq⟩ := labsAt_head hSw.1; obtain ⟨b0, b1, b2, _⟩ := labsAt_head hq; go_simp; try with_reducible rfl))
  try simp only [Act.put, List.setIfInBounds_toArray, List.set_cons_zero, List.set_cons_succ]
  refine wpAnyH_take (i := 13) (oi := { dst := some 28, op := Go.Op.fieldAddr 24 (Go.Operand.tmp 2) 2, type := 0, pos := "ref.go:24", after := #[], guard := none }) (v := ?_) rfl (by kernel_rfl) (by kernel_rfl) (by kernel_rfl) (fun _ _ _ h => h) (Or.inl ⟨by rfl, ?_⟩) hS0 ?_; rotate_left; (· (intro wq hSw; obtain ⟨a0, a1, a2, hq⟩ := labsAt_head hSw.1; obtain ⟨b0, b1, b2, _⟩ := labsAt_head hq; go_simp; try with_reducible rfl))
  try simp only [Act.put, List.setIfInBounds_toArray, List.set_cons_zero, List.set_cons_succ]
  refine wpAnyH_take (i := 14) (oi := { dst := some 29, op := Go.Op.load 3 (Go.Operand.tmp 28), type := 3, pos := "ref.go:24", after := #[{ on := 13, ground := Go.Ground.data }], guard := none }) (v := ?_) rfl (by kernel_rfl) (by kernel_rfl) (by kernel_rfl) (fun _ _ _ h => h) (Or.inl ⟨by rfl, ?_⟩) hS0 ?_; rotate_left; (· (intro wq hSw; obtain ⟨a0, a1, a2, hq⟩ := labsAt_head hSw.1; obtain ⟨b0, b1, b2, _⟩ := labsAt_head hq; go_simp; try with_reducible rfl))
  try simp only [Act.put, List.setIfInBounds_toArray, List.set_cons_zero, List.set_cons_succ]
  refine wpAnyH_take (i := 15) (oi := { dst := some 30, op := Go.Op.fieldAddr 24 (Go.Operand.tmp 3) 2, type := 0, pos := "ref.go:24", after := #[], guard := none }) (v := ?_) rfl (by kernel_rfl) (by kernel_rfl) (by kernel_rfl) (fun _ _ _ h => h) (Or.inl ⟨by rfl, ?_⟩) hS0 ?_; rotate_left; (· (intro wq hSw; obtain ⟨a0, a1, a2, hq⟩ := labsAt_head hSw.1; obtain ⟨b0, b1, b2, _⟩ := labsAt_head hq; go_simp; try with_reducible rfl))
  try simp only [Act.put, List.setIfInBounds_toArray, List.set_cons_zero, List.set_cons_succ]
  refine wpAnyH_take (i := 16) (oi := { dst := some 31, op := Go.Op.load 3 (Go.Operand.tmp 30), type := 3, pos := "ref.go:24", after := #[{ on := 15, ground := Go.Ground.data }], guard := none }) (v := ?_) rfl (by kernel_rfl) (by kernel_rfl) (by kernel_rfl) (fun _ _ _ h => h) (Or.inl ⟨by rfl, ?_⟩) hS0 ?_; rotate_left; (· (intro wq hSw; obtain ⟨a0, a1, a2, hq⟩ := labsAt_head hSw.1; obtain ⟨b0, b1, b2, _⟩ := labsAt_head hq; go_simp; try with_reducible rfl))
  try simp only [Act.put, List.setIfInBounds_toArray, List.set_cons_zero, List.set_cons_succ]
  refine wpAnyH_take (i := 17) (oi := { dst := some 32, op := Go.Op.call { callee := Go.Callee.builtin Go.Builtin.min, args := #[Go.Operand.tmp 29, Go.Operand.tmp 31], argTypes := #[3, 3] }, type := 3, pos := "ref.go:24", after := #[{ on := 14, ground := Go.Ground.data }, { on := 16, ground := Go.Ground.data }], guard := none }) (v := ?_) rfl (by kernel_rfl) (by kernel_rfl) (by kernel_rfl) (fun _ _ _ h => h) (Or.inl ⟨by rfl, ?_⟩) hS0 ?_; rotate_left; (· (intro wq hSw; obtain ⟨a0, a1, a2, hq⟩ := labsAt_head hSw.1; obtain ⟨b0, b1, b2, _⟩ := labsAt_head hq; go_simp; try with_reducible rfl))
  try simp only [Act.put, List.setIfInBounds_toArray, List.set_cons_zero, List.set_cons_succ]
  refine wpAnyH_ready (rs := [11]) (by kernel_rfl) (by simp) ?_
  refine AllReadyH.cons (o := { dst := some 26, op := Go.Op.call { callee := Go.Callee.value (Go.Operand.func 36), args := #[Go.Operand.tmp 23, Go.Operand.tmp 25], argTypes := #[22, 22] }, type := 22, pos := "ref.go:24", after := #[{ on := 8, ground := Go.Ground.data }, { on := 10, ground := Go.Ground.data }], guard := none }) rfl (fun K hK => ?_) AllReadyH.nil
  go_simp
  refine (refLess_any b.c a.c hb0 ha _).mono ?_
  rintro e wz ⟨he, rfl⟩
  subst he
  refine hK.out _ _ hS0 (fun hS1 => ?_)
  clear hK K hS0
  try simp only [Act.put, List.setIfInBounds_toArray, List.set_cons_zero, List.set_cons_succ]
  refine wpAnyH_take (i := 12) (oi := { dst := some 27, op := Go.Op.binOp Go.BinOp.add 22 (Go.Operand.tmp 21) (Go.Operand.tmp 26) 22, type := 22, pos := "ref.go:24", after := #[{ on := 6, ground := Go.Ground.data }, { on := 11, ground := Go.Ground.data }], guard := none }) (v := ?_) rfl (by kernel_rfl) (by kernel_rfl) (by kernel_rfl) (fun _ _ _ h => h) (Or.inl ⟨by rfl, ?_⟩) hS1 ?_; rotate_left; (· (intro wq hSw; obtain ⟨a0, a1, a2, hq⟩ := labsAt_head hSw.1; obtain ⟨b0, b1, b2, _⟩ := labsAt_head hq; go_simp; try with_reducible rfl))
  try simp only [Act.put, List.setIfInBounds_toArray, List.set_cons_zero, List.set_cons_succ]
  refine wpAnyH_take (i := 18) (oi := { dst := some 33, op := Go.Op.build 24 #[(0, Go.Operand.tmp 19), (1, Go.Operand.tmp 27), (2, Go.Operand.tmp 32)], type := 24, pos := "ref.go:24", after := #[{ on := 4, ground := Go.Ground.data }, { on := 12, ground := Go.Ground.data }, { on := 17, ground := Go.Ground.data }], guard := none }) (v := ?_) rfl (by kernel_rfl) (by kernel_rfl) (by kernel_rfl) (fun _ _ _ h => h) (Or.inl ⟨by rfl, ?_⟩) hS1 ?_; rotate_left; (· (intro wq hSw; obtain ⟨a0, a1, a2, hq⟩ := labsAt_head hSw.1; obtain ⟨b0, b1, b2, _⟩ := labsAt_head hq; go_simp; try with_reducible rfl))
  try simp only [Act.put, List.setIfInBounds_toArray, List.set_cons_zero, List.set_cons_succ]
  refine wpAnyH_ready (rs := [19]) (by kernel_rfl) (by simp) ?_
  refine AllReadyH.cons (o := { dst := none, op := Go.Op.store 24 (Go.Operand.tmp 4) (Go.Operand.tmp 33), type := 0, pos := "ref.go:24", after := #[{ on := 18, ground := Go.Ground.data }, { on := 11, ground := Go.Ground.chain }, { on := 0, ground := Go.Ground.phase }, { on := 1, ground := Go.Ground.phase }, { on := 2, ground := Go.Ground.phase }, { on := 3, ground := Go.Ground.phase }, { on := 4, ground := Go.Ground.phase }, { on := 5, ground := Go.Ground.phase }, { on := 6, ground := Go.Ground.phase }, { on := 7, ground := Go.Ground.phase }, { on := 8, ground := Go.Ground.phase }, { on := 9, ground := Go.Ground.phase }, { on := 10, ground := Go.Ground.phase }, { on := 11, ground := Go.Ground.phase }, { on := 12, ground := Go.Ground.phase }, { on := 13, ground := Go.Ground.phase }, { on := 14, ground := Go.Ground.phase }, { on := 15, ground := Go.Ground.phase }, { on := 16, ground := Go.Ground.phase }, { on := 17, ground := Go.Ground.phase }, { on := 18, ground := Go.Ground.phase }], guard := none }) rfl (fun K hK => ?_) AllReadyH.nil
  go_simp
  refine hK.out _ _ (RefS.set hS1 (.int .i64 a.l) (.int .u64 cc) (.int .i64 a.i)) (fun hS2 => ?_)
  clear hK K hS1
  try simp only [Act.put, List.setIfInBounds_toArray, List.set_cons_zero, List.set_cons_succ]
  refine wpAnyH_take (i := 20) (oi := { dst := some 5, op := Go.Op.assign (Go.Operand.const (Go.Value.int Go.IntKind.i64 0)), type := 26, pos := "ref.go:24", after := #[{ on := 19, ground := Go.Ground.chain }, { on := 0, ground := Go.Ground.phase }, { on := 1, ground := Go.Ground.phase }, { on := 2, ground := Go.Ground.phase }, { on := 3, ground := Go.Ground.phase }, { on := 4, ground := Go.Ground.phase }, { on := 5, ground := Go.Ground.phase }, { on := 6, ground := Go.Ground.phase }, { on := 7, ground := Go.Ground.phase }, { on := 8, ground := Go.Ground.phase }, { on := 9, ground := Go.Ground.phase }, { on := 10, ground := Go.Ground.phase }, { on := 11, ground := Go.Ground.phase }, { on := 12, ground := Go.Ground.phase }, { on := 13, ground := Go.Ground.phase }, { on := 14, ground := Go.Ground.phase }, { on := 15, ground := Go.Ground.phase }, { on := 16, ground := Go.Ground.phase }, { on := 17, ground := Go.Ground.phase }, { on := 18, ground := Go.Ground.phase }, { on := 19, ground := Go.Ground.phase }], guard := none }) (v := ?_) rfl (by kernel_rfl) (by kernel_rfl) (by kernel_rfl) (fun _ _ _ h => h) (Or.inl ⟨by rfl, ?_⟩) hS2 ?_; rotate_left; (· (intro wq hSw; obtain ⟨a0, a1, a2, hq⟩ := labsAt_head hSw.1; obtain ⟨b0, b1, b2, _⟩ := labsAt_head hq; go_simp; try with_reducible rfl))
  try simp only [Act.put, List.setIfInBounds_toArray, List.set_cons_zero, List.set_cons_succ]
  refine wpAnyH_done (by kernel_rfl) ?_ _
  have HC := Lib.hid (And.intro (setO (x := .int .i64 a.i) (b := ⟨w.heap.size + 1 + 1, 2, none⟩) (setO (x := .int .u64 cc) (b := ⟨w.heap.size + 1 + 1, 1, none⟩) (setS (.int .i64 a.l) r0) (ne_off (by omega))) (ne_off (by omega))) (And.intro (setO (x := .int .i64 a.i) (b := ⟨w.heap.size + 1 + 1, 2, none⟩) (setS (.int .u64 cc) (setO (x := .int .i64 a.l) (b := ⟨w.heap.size + 1 + 1, 0, none⟩) r1 (ne_off (by omega)))) (ne_off (by omega))) (setS (.int .i64 a.i) (setO (x := .int .u64 cc) (b := ⟨w.heap.size + 1 + 1, 1, none⟩) (setO (x := .int .i64 a.l) (b := ⟨w.heap.size + 1 + 1, 0, none⟩) r2 (ne_off (by omega))) (ne_off (by omega))))))
  have HB := Lib.hid hS2.1.below
  clear hS2
  go_wp2
  obtain ⟨c0, c1, c2⟩ := HC.out
  refine bodyPost_ret (v := .tuple #[.agg #[.int .i64 a.l, .int .u64 cc, .int .i64 a.i], .int .i64 0]) ?_ rfl ⟨rfl, HB.out⟩
  clear HC HB r0 r1 r2 f0 f1 f2
  replace c0 : (((w2.setCell ⟨w.heap.size + 1 + 1, 0, none⟩ (.int .i64 a.l)).setCell ⟨w.heap.size + 1 + 1, 1, none⟩ (.int .u64 cc)).setCell ⟨w.heap.size + 1 + 1, 2, none⟩ (.int .i64 a.i)).drew.cell? ⟨w.heap.size + 1 + 1, 0, none⟩ = some (.int .i64 a.l) := c0
  replace c1 : (((w2.setCell ⟨w.heap.size + 1 + 1, 0, none⟩ (.int .i64 a.l)).setCell ⟨w.heap.size + 1 + 1, 1, none⟩ (.int .u64 cc)).setCell ⟨w.heap.size + 1 + 1, 2, none⟩ (.int .i64 a.i)).drew.cell? ⟨w.heap.size + 1 + 1, 1, none⟩ = some (.int .u64 cc) := c1
  replace c2 : (((w2.setCell ⟨w.heap.size + 1 + 1, 0, none⟩ (.int .i64 a.l)).setCell ⟨w.heap.size + 1 + 1, 1, none⟩ (.int .u64 cc)).setCell ⟨w.heap.size + 1 + 1, 2, none⟩ (.int .i64 a.i)).drew.cell? ⟨w.heap.size + 1 + 1, 2, none⟩ = some (.int .i64 a.i) := c2
  generalize (((w2.setCell ⟨w.heap.size + 1 + 1, 0, none⟩ (.int .i64 a.l)).setCell ⟨w.heap.size + 1 + 1, 1, none⟩ (.int .u64 cc)).setCell ⟨w.heap.size + 1 + 1, 2, none⟩ (.int .i64 a.i)).drew = WF at c0 c1 c2 ⊢
  simp [results, Tryd.results31, go_sem, c0, c1, c2]

theorem refJoin_any (a b : Lab) (ha : a.fits) (hb : b.fits) (w : World) (hg : ErrT w) :
    Calls Tryd.prog 31 #[.agg #[.int .i64 a.l, .int .u64 a.c, .int .i64 a.i], .agg #[.int .i64 b.l, .int .u64 b.c, .int .i64 b.i]] w fun e w' =>
      e = .returned (.tuple #[.agg #[.int .i64 (twoJ a b).l, .int .u64 (twoJ a b).c, .int .i64 (twoJ a b).i], .int .i64 (twoE a b)]) ∧ Below w.heap.size w w' := by
  cases h1 : a.right
  · have hr : (a.right && b.right) = false := by rw [h1]; rfl
    rw [twoJ_no hr, twoE_no hr]
    exact refJoin_no1 a b h1 w hg
  · cases h2 : b.right
    · have hr : (a.right && b.right) = false := by rw [h1, h2]; rfl
      rw [twoJ_no hr, twoE_no hr]
      exact refJoin_no2 a b h1 h2 w hg
    · have hr : (a.right && b.right) = true := by rw [h1, h2]; rfl
      rw [twoJ_yes hr, twoE_yes hr]
      by_cases p1 : a.l < b.l
      · by_cases p2 : b.i < a.i
        · rw [show (a.join b).l = b.l by simp only [Lab.join]; omega, show (a.join b).i = b.i by simp only [Lab.join]; omega]
          exact refJoin_ll a b ha hb h1 h2 p1 p2 w hg
        · rw [show (a.join b).l = b.l by simp only [Lab.join]; omega, show (a.join b).i = a.i by simp only [Lab.join]; omega]
          exact refJoin_lg a b ha hb h1 h2 p1 p2 w hg
      · by_cases p2 : b.i < a.i
        · rw [show (a.join b).l = a.l by simp only [Lab.join]; omega, show (a.join b).i = b.i by simp only [Lab.join]; omega]
          exact refJoin_gl a b ha hb h1 h2 p1 p2 w hg
        · rw [show (a.join b).l = a.l by simp only [Lab.join]; omega, show (a.join b).i = a.i by simp only [Lab.join]; omega]
          exact refJoin_gg a b ha hb h1 h2 p1 p2 w hg

end Go.Proofs.YtciohfeifihobaaDoor
