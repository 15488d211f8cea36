/- What is known: shown. -/
import Derived.Test.YtciohfeifihobaaDoorCeFace
import Derived.Test.YtciohfeifihobaaDoorCeRefF
namespace Go.Proofs.YtciohfeifihobaaDoor
open Go.RowKit Go.Proofs.Cats Go.Proofs.Cel Go.Shelf Go.Sort

def aS : Lab := ⟨2, 1, 5⟩
def hS : Lab := ⟨3, 3, 0⟩
section
variable {w : World}
theorem csh1 (H : Api) (hs : Ce w) : Calls Tryd.prog 12 #[.agg #[.int .i64 0, .int .u64 0, .int .i64 7], .agg #[.int .i64 2, .int .u64 1, .int .i64 5], .agg #[.int .i64 3, .int .u64 3, .int .i64 0]] w (fun e w' => e = .returned (.tuple #[.agg #[.int .i64 2, .int .u64 1, .int .i64 5], .int .i64 0]) ∧ Below w.heap.size w w') := H.float (cur := Lab.bot) (a := aS) (high := hS) (x := aS) (c := 0) Lab.fits_bot (by unfold Lab.fits U64; decide) (by unfold Lab.fits U64; decide) (by rfl) hs
theorem csh2 (H : Api) (hs : Ce w) : Calls Tryd.prog 12 #[.agg #[.int .i64 0, .int .u64 0, .int .i64 7], .agg #[.int .i64 15, .int .u64 18446744073709551615, .int .i64 0], .agg #[.int .i64 3, .int .u64 3, .int .i64 0]] w (fun e w' => e = .returned (.tuple #[.agg #[.int .i64 0, .int .u64 0, .int .i64 0], .int .i64 120]) ∧ Below w.heap.size w w') := H.float (cur := Lab.bot) (a := Lab.top) (high := hS) (x := Lab.zero) (c := 120) Lab.fits_bot (by unfold Lab.fits U64; decide) (by unfold Lab.fits U64; decide) (by rfl) hs
theorem csh3 (H : Api) (hs : Ce w) : Calls Tryd.prog 14 #[.agg #[.int .i64 0, .int .u64 0, .int .i64 7], .agg #[.int .i64 2, .int .u64 1, .int .i64 5]] w (BeP 0 true w) := H.send (cur := Lab.bot) (a := aS) Lab.fits_bot (by unfold Lab.fits U64; decide) (by rfl) hs
theorem csh4 (H : Api) (hs : Ce w) : Calls Tryd.prog 14 #[.agg #[.int .i64 2, .int .u64 1, .int .i64 5], .agg #[.int .i64 0, .int .u64 0, .int .i64 7]] w (BeP 121 false w) := H.send (cur := aS) (a := Lab.bot) (by unfold Lab.fits U64; decide) Lab.fits_bot (by rfl) hs
theorem csh5 (H : Api) (hs : Ce w) : Calls Tryd.prog 18 #[.agg #[.int .i64 2, .int .u64 1, .int .i64 5], .agg #[.int .i64 0, .int .u64 0, .int .i64 7]] w (BoolP true w) := H.reads (cur := aS) (a := Lab.bot) (by unfold Lab.fits U64; decide) Lab.fits_bot (by rfl) hs
theorem csh6 (H : Api) (hs : Ce w) : Calls Tryd.prog 20 #[.agg #[.int .i64 2, .int .u64 1, .int .i64 5], .agg #[.int .i64 2, .int .u64 1, .int .i64 5]] w (BoolP true w) := H.writes (cur := aS) (a := aS) (by unfold Lab.fits U64; decide) (by unfold Lab.fits U64; decide) (by rfl) hs
end
/-- What the head carries. -/
structure ShC (w W : World) : Prop where
  b : Below w.heap.size w W
  a : BoxL W w.heap.size aS
  h : BoxL W (w.heap.size + 1) hS
theorem ShC.cells {w W : World} (k : ShC w W) : (W.cell? ⟨w.heap.size, 0, none⟩ = some (.int .i64 2) ∧ W.cell? ⟨w.heap.size, 1, none⟩ = some (.int .u64 1) ∧ W.cell? ⟨w.heap.size, 2, none⟩ = some (.int .i64 5)) ∧ (W.cell? ⟨w.heap.size + 1, 0, none⟩ = some (.int .i64 3) ∧ W.cell? ⟨w.heap.size + 1, 1, none⟩ = some (.int .u64 3) ∧ W.cell? ⟨w.heap.size + 1, 2, none⟩ = some (.int .i64 0)) := ⟨k.a.lab, k.h.lab⟩
structure ShD (w : World) (X : Nat) (W : World) : Prop where
  c : ShC w W
  x : BoxL W X aS
theorem ShD.more {w W W' : World} {X : Nat} (k : ShD w X W) (hb : Below W.heap.size W W') : ShD w X W' := ⟨⟨below_more k.c.b hb, k.c.a.more hb, k.c.h.more hb⟩, k.x.more hb⟩
theorem ShD.xs {w W : World} {X : Nat} (k : ShD w X W) : W.cell? ⟨X, 0, none⟩ = some (.int .i64 2) ∧ W.cell? ⟨X, 1, none⟩ = some (.int .u64 1) ∧ W.cell? ⟨X, 2, none⟩ = some (.int .i64 5) := k.x.lab
theorem ShD.set3 {w Wp W : World} {X Y : Nat} {u v t : Value} (p : ShD w X Wp) (hY : Wp.heap.size ≤ Y) (k : ShD w X W) : ShD w X (((W.setCell ⟨Y, 0, none⟩ u).setCell ⟨Y, 1, none⟩ v).setCell ⟨Y, 2, none⟩ t) := by
  have h1 := p.c.a.lt
  have h2 := p.c.h.lt
  have h3 := p.x.lt
  exact ⟨⟨below_set3 k.c.b (by omega) _ _ _, k.c.a.other3 (by omega), k.c.h.other3 (by omega)⟩, k.x.other3 (by omega)⟩
theorem ShD.of (w : World) : ShD w w.heap.size ((w.alloc (.cells #[.int .i64 2, .int .u64 1, .int .i64 5] 24)).alloc (.cells #[.int .i64 3, .int .u64 3, .int .i64 0] 24)) := by
  obtain ⟨h1, h2, h3⟩ := two_boxes w aS hS
  exact ⟨⟨h1, h2, h3⟩, h2⟩
theorem eqA (w : World) : (binOp .eql 24 (.agg #[.int .i64 2, .int .u64 1, .int .i64 5]) (.agg #[.int .i64 2, .int .u64 1, .int .i64 5])).run Tryd.prog w = .ok (.bool true) w := eqL aS aS w
theorem eqAIn (w : World) : (Op.equalIn 10000 24 (.agg #[.int .i64 2, .int .u64 1, .int .i64 5]) (.agg #[.int .i64 2, .int .u64 1, .int .i64 5])).run Tryd.prog w = .ok true w := eqInL aS aS w
set_option maxRecDepth 100000 in
set_option maxHeartbeats 16000000 in
theorem shown_w (H : Api) (w : World) (hs : Ce w) : Calls Tryd.prog 11 #[] w (BoolP true w) := by
  have D := Lib.hid (ShD.of w)
  have HE := Lib.hid hs
  have heq := eqA
  have heq2 := eqAIn
  clear hs
  go_enter Tryd.func11, Tryd.ntmps11
  go_wp2
  obtain ⟨V, hV⟩ : ∃ V, (w.alloc (.cells #[.int .i64 2, .int .u64 1, .int .i64 5] 24)).alloc (.cells #[.int .i64 3, .int .u64 3, .int .i64 0] 24) = V := ⟨_, rfl⟩
  rw [hV] at D ⊢
  clear hV
  refine wp_region_held_drew (S := ShD w w.heap.size) (by kernel_rfl) (D.out.more ((Below.refl _ V).drew)) (fun hS0 => ?_)
  refine wpAnyH_take (i := 1) (oi := { dst := some 15, op := Go.Op.load 24 (Go.Operand.tmp 1), type := 24, pos := "law.go:15", after := #[], guard := none }) (v := ?_) rfl (by kernel_rfl) (by kernel_rfl) (by kernel_rfl) (fun _ _ _ h => h) (Or.inl ⟨by rfl, ?_⟩) hS0 ?_
  rotate_left
  · (intro wq hSw; obtain ⟨⟨y0, y1, y2⟩, y3, y4, y5⟩ := ShC.cells hSw.c; go_simp; try with_reducible rfl)
  try simp only [Act.put, List.setIfInBounds_toArray, List.set_cons_zero, List.set_cons_succ]
  refine wpAnyH_take (i := 2) (oi := { dst := some 16, op := Go.Op.load 24 (Go.Operand.tmp 2), type := 24, pos := "law.go:15", after := #[], guard := none }) (v := ?_) rfl (by kernel_rfl) (by kernel_rfl) (by kernel_rfl) (fun _ _ _ h => h) (Or.inl ⟨by rfl, ?_⟩) hS0 ?_
  rotate_left
  · (intro wq hSw; obtain ⟨⟨y0, y1, y2⟩, y3, y4, y5⟩ := ShC.cells hSw.c; go_simp; try with_reducible rfl)
  try simp only [Act.put, List.setIfInBounds_toArray, List.set_cons_zero, List.set_cons_succ]
  refine wpAnyH_ready (rs := [0, 7]) (by kernel_rfl) (by simp) ?_
  refine AllReadyH.cons (o := { dst := some 14, op := Go.Op.call { callee := Go.Callee.value (Go.Operand.func 27), args := #[], argTypes := #[] }, type := 24, pos := "law.go:15", after := #[], guard := none }) rfl (fun K hK => ?_) (AllReadyH.cons (o := { dst := some 3, op := Go.Op.alloc 24, type := 0, pos := "law.go:15", after := #[], guard := none }) rfl (fun K hK => ?_) AllReadyH.nil)
  · skip
    go_simp
    refine (bottom_any _).mono ?_
    rintro e we2 ⟨rfl, hb3⟩
    refine hK.out _ _ (ShD.more hS0 hb3) (fun hS1 => ?_)
    clear hK K
    try simp only [Act.put, List.setIfInBounds_toArray, List.set_cons_zero, List.set_cons_succ]
    refine wpAnyH_ready (rs := [3, 7]) (by kernel_rfl) (by simp) ?_
    refine AllReadyH.cons (o := { dst := some 17, op := Go.Op.call { callee := Go.Callee.value (Go.Operand.func 12), args := #[Go.Operand.tmp 14, Go.Operand.tmp 15, Go.Operand.tmp 16], argTypes := #[24, 24, 24] }, type := 27, pos := "law.go:15", after := #[{ on := 0, ground := Go.Ground.data }, { on := 1, ground := Go.Ground.data }, { on := 2, ground := Go.Ground.data }, { on := 0, ground := Go.Ground.chain }], guard := none }) rfl (fun K hK => ?_) (AllReadyH.cons (o := { dst := some 3, op := Go.Op.alloc 24, type := 0, pos := "law.go:15", after := #[], guard := none }) rfl (fun K hK => ?_) AllReadyH.nil)
    · skip
      go_simp
      refine (csh1 H (HE.out.more hS1.c.b)).mono ?_
      rintro e we5 ⟨rfl, hb6⟩
      refine hK.out _ _ (ShD.more hS1 hb6) (fun hS4 => ?_)
      clear hK K
      try simp only [Act.put, List.setIfInBounds_toArray, List.set_cons_zero, List.set_cons_succ]
      refine wpAnyH_take (i := 4) (oi := { dst := some 13, op := Go.Op.move (Go.Operand.tmp 17), type := 27, pos := "law.go:15", after := #[{ on := 3, ground := Go.Ground.data }], guard := none }) (v := ?_) rfl (by kernel_rfl) (by kernel_rfl) (by kernel_rfl) (fun _ _ _ h => h) (Or.inl ⟨by rfl, ?_⟩) hS4 ?_
      rotate_left
      · (intro wq hSw; obtain ⟨⟨y0, y1, y2⟩, y3, y4, y5⟩ := ShC.cells hSw.c; go_simp; try with_reducible rfl)
      try simp only [Act.put, List.setIfInBounds_toArray, List.set_cons_zero, List.set_cons_succ]
      refine wpAnyH_take (i := 5) (oi := { dst := some 18, op := Go.Op.extract (Go.Operand.tmp 13) 0, type := 24, pos := "law.go:15", after := #[{ on := 4, ground := Go.Ground.data }], guard := none }) (v := ?_) rfl (by kernel_rfl) (by kernel_rfl) (by kernel_rfl) (fun _ _ _ h => h) (Or.inl ⟨by rfl, ?_⟩) hS4 ?_
      rotate_left
      · (intro wq hSw; obtain ⟨⟨y0, y1, y2⟩, y3, y4, y5⟩ := ShC.cells hSw.c; go_simp; try with_reducible rfl)
      try simp only [Act.put, List.setIfInBounds_toArray, List.set_cons_zero, List.set_cons_succ]
      refine wpAnyH_take (i := 6) (oi := { dst := some 19, op := Go.Op.extract (Go.Operand.tmp 13) 1, type := 26, pos := "law.go:15", after := #[{ on := 4, ground := Go.Ground.data }, { on := 8, ground := Go.Ground.gcOnly Go.Departure.lateStores }], guard := none }) (v := ?_) rfl (by kernel_rfl) (by kernel_rfl) (by kernel_rfl) (fun _ _ _ h => h) (Or.inl ⟨by rfl, ?_⟩) hS4 ?_
      rotate_left
      · (intro wq hSw; obtain ⟨⟨y0, y1, y2⟩, y3, y4, y5⟩ := ShC.cells hSw.c; go_simp; try with_reducible rfl)
      try simp only [Act.put, List.setIfInBounds_toArray, List.set_cons_zero, List.set_cons_succ]
      refine wpAnyH_ready (rs := [7]) (by kernel_rfl) (by simp) ?_
      refine AllReadyH.cons (o := { dst := some 3, op := Go.Op.alloc 24, type := 0, pos := "law.go:15", after := #[], guard := none }) rfl (fun K hK => ?_) AllReadyH.nil
      go_simp
      refine hK.out _ _ (ShD.more hS4 (Below.new _ _)) (fun hS7 => ?_)
      clear hK K
      try simp only [Act.put, List.setIfInBounds_toArray, List.set_cons_zero, List.set_cons_succ]
      refine wpAnyH_ready (rs := [8]) (by kernel_rfl) (by simp) ?_
      refine AllReadyH.cons (o := { dst := none, op := Go.Op.store 24 (Go.Operand.tmp 3) (Go.Operand.tmp 18), type := 0, pos := "law.go:15", after := #[{ on := 7, ground := Go.Ground.data }, { on := 5, ground := Go.Ground.data }, { on := 3, ground := Go.Ground.chain }, { on := 0, ground := Go.Ground.phase }, { on := 1, ground := Go.Ground.phase }, { on := 2, ground := Go.Ground.phase }, { on := 3, ground := Go.Ground.phase }, { on := 4, ground := Go.Ground.phase }, { on := 5, ground := Go.Ground.phase }, { on := 6, ground := Go.Ground.textOnly Go.Departure.lateStores }, { on := 7, ground := Go.Ground.phase }], guard := none }) rfl (fun K hK => ?_) AllReadyH.nil
      go_simp
      refine hK.out _ _ (ShD.more hS4 (Below.new we5 (.cells #[.int .i64 2, .int .u64 1, .int .i64 5] 24))) (fun hS8 => ?_)
      clear hK K
      try simp only [Act.put, List.setIfInBounds_toArray, List.set_cons_zero, List.set_cons_succ]
      refine wpAnyH_take (i := 9) (oi := { dst := some 4, op := Go.Op.assign (Go.Operand.tmp 19), type := 26, pos := "law.go:15", after := #[{ on := 6, ground := Go.Ground.data }, { on := 8, ground := Go.Ground.chain }, { on := 0, ground := Go.Ground.phase }, { on := 1, ground := Go.Ground.phase }, { on := 2, ground := Go.Ground.phase }, { on := 3, ground := Go.Ground.phase }, { on := 4, ground := Go.Ground.phase }, { on := 5, ground := Go.Ground.phase }, { on := 6, ground := Go.Ground.phase }, { on := 7, ground := Go.Ground.phase }, { on := 8, ground := Go.Ground.phase }], guard := none }) (v := ?_) rfl (by kernel_rfl) (by kernel_rfl) (by kernel_rfl) (fun _ _ _ h => h) (Or.inl ⟨by rfl, ?_⟩) hS8 ?_
      rotate_left
      · (intro wq hSw; obtain ⟨⟨y0, y1, y2⟩, y3, y4, y5⟩ := ShC.cells hSw.c; go_simp; try with_reducible rfl)
      try simp only [Act.put, List.setIfInBounds_toArray, List.set_cons_zero, List.set_cons_succ]
      refine wpAnyH_done (by kernel_rfl) ?_ _
      replace D := Lib.hid (show ShD w we5.heap.size (we5.alloc (.cells #[.int .i64 2, .int .u64 1, .int .i64 5] 24)) from ⟨hS8.c, (BoxL.new we5 aS)⟩)
      obtain ⟨V9, hV9⟩ : ∃ Vx, (we5.alloc (.cells #[.int .i64 2, .int .u64 1, .int .i64 5] 24)) = Vx := ⟨_, rfl⟩
      obtain ⟨X10, hX10⟩ : ∃ Xx, we5.heap.size = Xx := ⟨_, rfl⟩
      rw [hV9, hX10] at D
      rw [hV9, hX10]
      clear hV9 hX10 hS8 hS7 hb6 hS4 hb3 hS1 hS0
      go_wp2
      refine wp_region_held_drew (S := ShD w X10) (by kernel_rfl) (D.out.more ((Below.refl _ V9).drew)) (fun hS11 => ?_)
      refine wpAnyH_take (i := 2) (oi := { dst := some 23, op := Go.Op.load 24 (Go.Operand.tmp 2), type := 24, pos := "law.go:16", after := #[], guard := none }) (v := ?_) rfl (by kernel_rfl) (by kernel_rfl) (by kernel_rfl) (fun _ _ _ h => h) (Or.inl ⟨by rfl, ?_⟩) hS11 ?_
      rotate_left
      · (intro wq hSw; obtain ⟨⟨y0, y1, y2⟩, y3, y4, y5⟩ := ShC.cells hSw.c; go_simp; try with_reducible rfl)
      try simp only [Act.put, List.setIfInBounds_toArray, List.set_cons_zero, List.set_cons_succ]
      refine wpAnyH_ready (rs := [0, 7]) (by kernel_rfl) (by simp) ?_
      refine AllReadyH.cons (o := { dst := some 21, op := Go.Op.call { callee := Go.Callee.value (Go.Operand.func 27), args := #[], argTypes := #[] }, type := 24, pos := "law.go:16", after := #[], guard := none }) rfl (fun K hK => ?_) (AllReadyH.cons (o := { dst := some 5, op := Go.Op.alloc 24, type := 0, pos := "law.go:16", after := #[], guard := none }) rfl (fun K hK => ?_) AllReadyH.nil)
      · skip
        go_simp
        refine (bottom_any _).mono ?_
        rintro e we13 ⟨rfl, hb14⟩
        refine hK.out _ _ (ShD.more hS11 hb14) (fun hS12 => ?_)
        clear hK K
        try simp only [Act.put, List.setIfInBounds_toArray, List.set_cons_zero, List.set_cons_succ]
        refine wpAnyH_ready (rs := [1, 7]) (by kernel_rfl) (by simp) ?_
        refine AllReadyH.cons (o := { dst := some 22, op := Go.Op.call { callee := Go.Callee.value (Go.Operand.func 28), args := #[], argTypes := #[] }, type := 24, pos := "law.go:16", after := #[{ on := 0, ground := Go.Ground.chain }], guard := none }) rfl (fun K hK => ?_) (AllReadyH.cons (o := { dst := some 5, op := Go.Op.alloc 24, type := 0, pos := "law.go:16", after := #[], guard := none }) rfl (fun K hK => ?_) AllReadyH.nil)
        · skip
          go_simp
          refine (top_any _).mono ?_
          rintro e we16 ⟨rfl, hb17⟩
          refine hK.out _ _ (ShD.more hS12 hb17) (fun hS15 => ?_)
          clear hK K
          try simp only [Act.put, List.setIfInBounds_toArray, List.set_cons_zero, List.set_cons_succ]
          refine wpAnyH_ready (rs := [3, 7]) (by kernel_rfl) (by simp) ?_
          refine AllReadyH.cons (o := { dst := some 24, op := Go.Op.call { callee := Go.Callee.value (Go.Operand.func 12), args := #[Go.Operand.tmp 21, Go.Operand.tmp 22, Go.Operand.tmp 23], argTypes := #[24, 24, 24] }, type := 27, pos := "law.go:16", after := #[{ on := 0, ground := Go.Ground.data }, { on := 1, ground := Go.Ground.data }, { on := 2, ground := Go.Ground.data }, { on := 1, ground := Go.Ground.chain }], guard := none }) rfl (fun K hK => ?_) (AllReadyH.cons (o := { dst := some 5, op := Go.Op.alloc 24, type := 0, pos := "law.go:16", after := #[], guard := none }) rfl (fun K hK => ?_) AllReadyH.nil)
          · skip
            go_simp
            refine (csh2 H (HE.out.more hS15.c.b)).mono ?_
            rintro e we19 ⟨rfl, hb20⟩
            refine hK.out _ _ (ShD.more hS15 hb20) (fun hS18 => ?_)
            clear hK K
            try simp only [Act.put, List.setIfInBounds_toArray, List.set_cons_zero, List.set_cons_succ]
            refine wpAnyH_take (i := 4) (oi := { dst := some 20, op := Go.Op.move (Go.Operand.tmp 24), type := 27, pos := "law.go:16", after := #[{ on := 3, ground := Go.Ground.data }], guard := none }) (v := ?_) rfl (by kernel_rfl) (by kernel_rfl) (by kernel_rfl) (fun _ _ _ h => h) (Or.inl ⟨by rfl, ?_⟩) hS18 ?_
            rotate_left
            · (intro wq hSw; obtain ⟨⟨y0, y1, y2⟩, y3, y4, y5⟩ := ShC.cells hSw.c; go_simp; try with_reducible rfl)
            try simp only [Act.put, List.setIfInBounds_toArray, List.set_cons_zero, List.set_cons_succ]
            refine wpAnyH_take (i := 5) (oi := { dst := some 25, op := Go.Op.extract (Go.Operand.tmp 20) 0, type := 24, pos := "law.go:16", after := #[{ on := 4, ground := Go.Ground.data }], guard := none }) (v := ?_) rfl (by kernel_rfl) (by kernel_rfl) (by kernel_rfl) (fun _ _ _ h => h) (Or.inl ⟨by rfl, ?_⟩) hS18 ?_
            rotate_left
            · (intro wq hSw; obtain ⟨⟨y0, y1, y2⟩, y3, y4, y5⟩ := ShC.cells hSw.c; go_simp; try with_reducible rfl)
            try simp only [Act.put, List.setIfInBounds_toArray, List.set_cons_zero, List.set_cons_succ]
            refine wpAnyH_take (i := 6) (oi := { dst := some 26, op := Go.Op.extract (Go.Operand.tmp 20) 1, type := 26, pos := "law.go:16", after := #[{ on := 4, ground := Go.Ground.data }, { on := 8, ground := Go.Ground.gcOnly Go.Departure.lateStores }], guard := none }) (v := ?_) rfl (by kernel_rfl) (by kernel_rfl) (by kernel_rfl) (fun _ _ _ h => h) (Or.inl ⟨by rfl, ?_⟩) hS18 ?_
            rotate_left
            · (intro wq hSw; obtain ⟨⟨y0, y1, y2⟩, y3, y4, y5⟩ := ShC.cells hSw.c; go_simp; try with_reducible rfl)
            try simp only [Act.put, List.setIfInBounds_toArray, List.set_cons_zero, List.set_cons_succ]
            refine wpAnyH_ready (rs := [7]) (by kernel_rfl) (by simp) ?_
            refine AllReadyH.cons (o := { dst := some 5, op := Go.Op.alloc 24, type := 0, pos := "law.go:16", after := #[], guard := none }) rfl (fun K hK => ?_) AllReadyH.nil
            go_simp
            refine hK.out _ _ (ShD.more hS18 (Below.new _ _)) (fun hS21 => ?_)
            clear hK K
            try simp only [Act.put, List.setIfInBounds_toArray, List.set_cons_zero, List.set_cons_succ]
            refine wpAnyH_ready (rs := [8]) (by kernel_rfl) (by simp) ?_
            refine AllReadyH.cons (o := { dst := none, op := Go.Op.store 24 (Go.Operand.tmp 5) (Go.Operand.tmp 25), type := 0, pos := "law.go:16", after := #[{ on := 7, ground := Go.Ground.data }, { on := 5, ground := Go.Ground.data }, { on := 3, ground := Go.Ground.chain }, { on := 0, ground := Go.Ground.phase }, { on := 1, ground := Go.Ground.phase }, { on := 2, ground := Go.Ground.phase }, { on := 3, ground := Go.Ground.phase }, { on := 4, ground := Go.Ground.phase }, { on := 5, ground := Go.Ground.phase }, { on := 6, ground := Go.Ground.textOnly Go.Departure.lateStores }, { on := 7, ground := Go.Ground.phase }], guard := none }) rfl (fun K hK => ?_) AllReadyH.nil
            go_simp
            refine hK.out _ _ (ShD.more hS18 (Below.new we19 (.cells #[.int .i64 0, .int .u64 0, .int .i64 0] 24))) (fun hS22 => ?_)
            clear hK K
            try simp only [Act.put, List.setIfInBounds_toArray, List.set_cons_zero, List.set_cons_succ]
            refine wpAnyH_take (i := 9) (oi := { dst := some 6, op := Go.Op.assign (Go.Operand.tmp 26), type := 26, pos := "law.go:16", after := #[{ on := 6, ground := Go.Ground.data }, { on := 8, ground := Go.Ground.chain }, { on := 0, ground := Go.Ground.phase }, { on := 1, ground := Go.Ground.phase }, { on := 2, ground := Go.Ground.phase }, { on := 3, ground := Go.Ground.phase }, { on := 4, ground := Go.Ground.phase }, { on := 5, ground := Go.Ground.phase }, { on := 6, ground := Go.Ground.phase }, { on := 7, ground := Go.Ground.phase }, { on := 8, ground := Go.Ground.phase }], guard := none }) (v := ?_) rfl (by kernel_rfl) (by kernel_rfl) (by kernel_rfl) (fun _ _ _ h => h) (Or.inl ⟨by rfl, ?_⟩) hS22 ?_
            rotate_left
            · (intro wq hSw; obtain ⟨⟨y0, y1, y2⟩, y3, y4, y5⟩ := ShC.cells hSw.c; go_simp; try with_reducible rfl)
            try simp only [Act.put, List.setIfInBounds_toArray, List.set_cons_zero, List.set_cons_succ]
            refine wpAnyH_done (by kernel_rfl) ?_ _
            replace D := Lib.hid hS22
            obtain ⟨V23, hV23⟩ : ∃ Vx, (we19.alloc (.cells #[.int .i64 0, .int .u64 0, .int .i64 0] 24)) = Vx := ⟨_, rfl⟩
            rw [hV23] at D ⊢
            clear hV23 hS22 hS21 hb20 hS18 hb17 hS15 hb14 hS12 hS11
            go_wp2
            obtain ⟨⟨a0, a1, a2⟩, b0, b1, b2⟩ := D.out.c.cells
            replace a0 := cell_regrown a0
            replace a1 := cell_regrown a1
            replace a2 := cell_regrown a2
            clear b0 b1 b2
            have cB : ∀ d os, Calls Tryd.prog 27 #[] (grow (redrawn V23 d) os) fun e w'' => e = .returned (.agg #[.int .i64 0, .int .u64 0, .int .i64 7]) ∧ ∃ p : Regrown, w'' = grow (redrawn V23 p.d) p.os := fun d os => Calls.regrown_of (bottom_any _)
            have cS := rg_be (V := V23) fun W hb => csh3 H (HE.out.more (below_more D.out.c.b hb))
            refine wp_region_quiet_below (by kernel_rfl) (by kernel_rfl) ?_
            repeat (quiet_step (with_reducible (first | exact cB _ _ | exact cS _ _)))
            refine wpQuiet_nil ?_
            intro _ hw'
            obtain ⟨⟨dq, osq⟩, hw''⟩ := hw'
            subst hw''
            clear cB cS a0 a1 a2
            have Dn := Lib.hid (ShD.more D.out (below_regrown V23 dq osq))
            obtain ⟨V24, hV24⟩ : ∃ V2, grow (redrawn V23 dq) osq = V2 := ⟨_, rfl⟩
            rw [hV24] at Dn ⊢
            clear hV24 D
            have D := Lib.hid Dn.out
            clear Dn
            go_wp2
            obtain ⟨⟨a0, a1, a2⟩, b0, b1, b2⟩ := D.out.c.cells
            replace a0 := cell_regrown a0
            replace a1 := cell_regrown a1
            replace a2 := cell_regrown a2
            clear b0 b1 b2
            have cB : ∀ d os, Calls Tryd.prog 27 #[] (grow (redrawn V24 d) os) fun e w'' => e = .returned (.agg #[.int .i64 0, .int .u64 0, .int .i64 7]) ∧ ∃ p : Regrown, w'' = grow (redrawn V24 p.d) p.os := fun d os => Calls.regrown_of (bottom_any _)
            have cS := rg_be (V := V24) fun W hb => csh4 H (HE.out.more (below_more D.out.c.b hb))
            refine wp_region_quiet_below (by kernel_rfl) (by kernel_rfl) ?_
            repeat (quiet_step (with_reducible (first | exact cB _ _ | exact cS _ _)))
            refine wpQuiet_nil ?_
            intro _ hw'
            obtain ⟨⟨dq, osq⟩, hw''⟩ := hw'
            subst hw''
            clear cB cS a0 a1 a2
            have Dn := Lib.hid (ShD.more D.out (below_regrown V24 dq osq))
            obtain ⟨V25, hV25⟩ : ∃ V2, grow (redrawn V24 dq) osq = V2 := ⟨_, rfl⟩
            rw [hV25] at Dn ⊢
            clear hV25 D
            have D := Lib.hid Dn.out
            clear Dn
            go_wp2
            obtain ⟨⟨a0, a1, a2⟩, b0, b1, b2⟩ := D.out.c.cells
            replace a0 := cell_regrown a0
            replace a1 := cell_regrown a1
            replace a2 := cell_regrown a2
            clear b0 b1 b2
            obtain ⟨x0, x1, x2⟩ := D.out.xs
            replace x0 := cell_regrown x0
            replace x1 := cell_regrown x1
            replace x2 := cell_regrown x2
            have cB : ∀ d os, Calls Tryd.prog 27 #[] (grow (redrawn V25 d) os) fun e w'' => e = .returned (.agg #[.int .i64 0, .int .u64 0, .int .i64 7]) ∧ ∃ p : Regrown, w'' = grow (redrawn V25 p.d) p.os := fun d os => Calls.regrown_of (bottom_any _)
            have cR := rg_bool (V := V25) fun W hb => csh5 H (HE.out.more (below_more D.out.c.b hb))
            have cW := rg_bool (V := V25) fun W hb => csh6 H (HE.out.more (below_more D.out.c.b hb))
            refine wp_region_quiet_below (by kernel_rfl) (by kernel_rfl) ?_
            repeat (quiet_step (with_reducible (first | exact cB _ _ | exact cR _ _ | exact cW _ _)))
            refine wpQuiet_nil ?_
            intro _ hw'
            obtain ⟨⟨dq, osq⟩, hw''⟩ := hw'
            subst hw''
            go_wp2
            go_ret
            exact ⟨rfl, below_more D.out.c.b (below_regrown V25 dq osq)⟩
          · skip
            go_simp
            refine hK.out _ _ (ShD.more hS15 (Below.new we16 (.cells #[.int .i64 0, .int .u64 0, .int .i64 0] 24))) (fun hS26 => ?_)
            clear hK K
            try simp only [Act.put, List.setIfInBounds_toArray, List.set_cons_zero, List.set_cons_succ]
            refine wpAnyH_ready (rs := [3]) (by kernel_rfl) (by simp) ?_
            refine AllReadyH.cons (o := { dst := some 24, op := Go.Op.call { callee := Go.Callee.value (Go.Operand.func 12), args := #[Go.Operand.tmp 21, Go.Operand.tmp 22, Go.Operand.tmp 23], argTypes := #[24, 24, 24] }, type := 27, pos := "law.go:16", after := #[{ on := 0, ground := Go.Ground.data }, { on := 1, ground := Go.Ground.data }, { on := 2, ground := Go.Ground.data }, { on := 1, ground := Go.Ground.chain }], guard := none }) rfl (fun K hK => ?_) AllReadyH.nil
            go_simp
            refine (csh2 H (HE.out.more hS26.c.b)).mono ?_
            rintro e we28 ⟨rfl, hb29⟩
            refine hK.out _ _ (ShD.more hS26 hb29) (fun hS27 => ?_)
            clear hK K
            try simp only [Act.put, List.setIfInBounds_toArray, List.set_cons_zero, List.set_cons_succ]
            refine wpAnyH_take (i := 4) (oi := { dst := some 20, op := Go.Op.move (Go.Operand.tmp 24), type := 27, pos := "law.go:16", after := #[{ on := 3, ground := Go.Ground.data }], guard := none }) (v := ?_) rfl (by kernel_rfl) (by kernel_rfl) (by kernel_rfl) (fun _ _ _ h => h) (Or.inl ⟨by rfl, ?_⟩) hS27 ?_
            rotate_left
            · (intro wq hSw; obtain ⟨⟨y0, y1, y2⟩, y3, y4, y5⟩ := ShC.cells hSw.c; go_simp; try with_reducible rfl)
            try simp only [Act.put, List.setIfInBounds_toArray, List.set_cons_zero, List.set_cons_succ]
            refine wpAnyH_take (i := 5) (oi := { dst := some 25, op := Go.Op.extract (Go.Operand.tmp 20) 0, type := 24, pos := "law.go:16", after := #[{ on := 4, ground := Go.Ground.data }], guard := none }) (v := ?_) rfl (by kernel_rfl) (by kernel_rfl) (by kernel_rfl) (fun _ _ _ h => h) (Or.inl ⟨by rfl, ?_⟩) hS27 ?_
            rotate_left
            · (intro wq hSw; obtain ⟨⟨y0, y1, y2⟩, y3, y4, y5⟩ := ShC.cells hSw.c; go_simp; try with_reducible rfl)
            try simp only [Act.put, List.setIfInBounds_toArray, List.set_cons_zero, List.set_cons_succ]
            refine wpAnyH_take (i := 6) (oi := { dst := some 26, op := Go.Op.extract (Go.Operand.tmp 20) 1, type := 26, pos := "law.go:16", after := #[{ on := 4, ground := Go.Ground.data }, { on := 8, ground := Go.Ground.gcOnly Go.Departure.lateStores }], guard := none }) (v := ?_) rfl (by kernel_rfl) (by kernel_rfl) (by kernel_rfl) (fun _ _ _ h => h) (Or.inl ⟨by rfl, ?_⟩) hS27 ?_
            rotate_left
            · (intro wq hSw; obtain ⟨⟨y0, y1, y2⟩, y3, y4, y5⟩ := ShC.cells hSw.c; go_simp; try with_reducible rfl)
            try simp only [Act.put, List.setIfInBounds_toArray, List.set_cons_zero, List.set_cons_succ]
            refine wpAnyH_ready (rs := [8]) (by kernel_rfl) (by simp) ?_
            refine AllReadyH.cons (o := { dst := none, op := Go.Op.store 24 (Go.Operand.tmp 5) (Go.Operand.tmp 25), type := 0, pos := "law.go:16", after := #[{ on := 7, ground := Go.Ground.data }, { on := 5, ground := Go.Ground.data }, { on := 3, ground := Go.Ground.chain }, { on := 0, ground := Go.Ground.phase }, { on := 1, ground := Go.Ground.phase }, { on := 2, ground := Go.Ground.phase }, { on := 3, ground := Go.Ground.phase }, { on := 4, ground := Go.Ground.phase }, { on := 5, ground := Go.Ground.phase }, { on := 6, ground := Go.Ground.textOnly Go.Departure.lateStores }, { on := 7, ground := Go.Ground.phase }], guard := none }) rfl (fun K hK => ?_) AllReadyH.nil
            have hz31 : BoxL we28 we16.heap.size Lab.zero := ((boxZ_new we16).more hb29)
            obtain ⟨g0, g1, g2⟩ := hz31.lab
            obtain ⟨fg0, fg1, fg2⟩ := hz31.frozen
            go_simp
            refine hK.out _ _ (ShD.set3 (Y := we16.heap.size) hS15 (Nat.le_refl _) hS27) (fun hS30 => ?_)
            clear hK K g0 g1 g2 fg0 fg1 fg2
            try simp only [Act.put, List.setIfInBounds_toArray, List.set_cons_zero, List.set_cons_succ]
            refine wpAnyH_take (i := 9) (oi := { dst := some 6, op := Go.Op.assign (Go.Operand.tmp 26), type := 26, pos := "law.go:16", after := #[{ on := 6, ground := Go.Ground.data }, { on := 8, ground := Go.Ground.chain }, { on := 0, ground := Go.Ground.phase }, { on := 1, ground := Go.Ground.phase }, { on := 2, ground := Go.Ground.phase }, { on := 3, ground := Go.Ground.phase }, { on := 4, ground := Go.Ground.phase }, { on := 5, ground := Go.Ground.phase }, { on := 6, ground := Go.Ground.phase }, { on := 7, ground := Go.Ground.phase }, { on := 8, ground := Go.Ground.phase }], guard := none }) (v := ?_) rfl (by kernel_rfl) (by kernel_rfl) (by kernel_rfl) (fun _ _ _ h => h) (Or.inl ⟨by rfl, ?_⟩) hS30 ?_
            rotate_left
            · (intro wq hSw; obtain ⟨⟨y0, y1, y2⟩, y3, y4, y5⟩ := ShC.cells hSw.c; go_simp; try with_reducible rfl)
            try simp only [Act.put, List.setIfInBounds_toArray, List.set_cons_zero, List.set_cons_succ]
            refine wpAnyH_done (by kernel_rfl) ?_ _
            replace D := Lib.hid hS30
            obtain ⟨V32, hV32⟩ : ∃ Vx, (((we28.setCell ⟨we16.heap.size, 0, none⟩ (.int .i64 0)).setCell ⟨we16.heap.size, 1, none⟩ (.int .u64 0)).setCell ⟨we16.heap.size, 2, none⟩ (.int .i64 0)) = Vx := ⟨_, rfl⟩
            rw [hV32] at D ⊢
            clear hV32 hz31 hS30 hb29 hS27 hS26 hb17 hS15 hb14 hS12 hS11
            go_wp2
            obtain ⟨⟨a0, a1, a2⟩, b0, b1, b2⟩ := D.out.c.cells
            replace a0 := cell_regrown a0
            replace a1 := cell_regrown a1
            replace a2 := cell_regrown a2
            clear b0 b1 b2
            have cB : ∀ d os, Calls Tryd.prog 27 #[] (grow (redrawn V32 d) os) fun e w'' => e = .returned (.agg #[.int .i64 0, .int .u64 0, .int .i64 7]) ∧ ∃ p : Regrown, w'' = grow (redrawn V32 p.d) p.os := fun d os => Calls.regrown_of (bottom_any _)
            have cS := rg_be (V := V32) fun W hb => csh3 H (HE.out.more (below_more D.out.c.b hb))
            refine wp_region_quiet_below (by kernel_rfl) (by kernel_rfl) ?_
            repeat (quiet_step (with_reducible (first | exact cB _ _ | exact cS _ _)))
            refine wpQuiet_nil ?_
            intro _ hw'
            obtain ⟨⟨dq, osq⟩, hw''⟩ := hw'
            subst hw''
            clear cB cS a0 a1 a2
            have Dn := Lib.hid (ShD.more D.out (below_regrown V32 dq osq))
            obtain ⟨V33, hV33⟩ : ∃ V2, grow (redrawn V32 dq) osq = V2 := ⟨_, rfl⟩
            rw [hV33] at Dn ⊢
            clear hV33 D
            have D := Lib.hid Dn.out
            clear Dn
            go_wp2
            obtain ⟨⟨a0, a1, a2⟩, b0, b1, b2⟩ := D.out.c.cells
            replace a0 := cell_regrown a0
            replace a1 := cell_regrown a1
            replace a2 := cell_regrown a2
            clear b0 b1 b2
            have cB : ∀ d os, Calls Tryd.prog 27 #[] (grow (redrawn V33 d) os) fun e w'' => e = .returned (.agg #[.int .i64 0, .int .u64 0, .int .i64 7]) ∧ ∃ p : Regrown, w'' = grow (redrawn V33 p.d) p.os := fun d os => Calls.regrown_of (bottom_any _)
            have cS := rg_be (V := V33) fun W hb => csh4 H (HE.out.more (below_more D.out.c.b hb))
            refine wp_region_quiet_below (by kernel_rfl) (by kernel_rfl) ?_
            repeat (quiet_step (with_reducible (first | exact cB _ _ | exact cS _ _)))
            refine wpQuiet_nil ?_
            intro _ hw'
            obtain ⟨⟨dq, osq⟩, hw''⟩ := hw'
            subst hw''
            clear cB cS a0 a1 a2
            have Dn := Lib.hid (ShD.more D.out (below_regrown V33 dq osq))
            obtain ⟨V34, hV34⟩ : ∃ V2, grow (redrawn V33 dq) osq = V2 := ⟨_, rfl⟩
            rw [hV34] at Dn ⊢
            clear hV34 D
            have D := Lib.hid Dn.out
            clear Dn
            go_wp2
            obtain ⟨⟨a0, a1, a2⟩, b0, b1, b2⟩ := D.out.c.cells
            replace a0 := cell_regrown a0
            replace a1 := cell_regrown a1
            replace a2 := cell_regrown a2
            clear b0 b1 b2
            obtain ⟨x0, x1, x2⟩ := D.out.xs
            replace x0 := cell_regrown x0
            replace x1 := cell_regrown x1
            replace x2 := cell_regrown x2
            have cB : ∀ d os, Calls Tryd.prog 27 #[] (grow (redrawn V34 d) os) fun e w'' => e = .returned (.agg #[.int .i64 0, .int .u64 0, .int .i64 7]) ∧ ∃ p : Regrown, w'' = grow (redrawn V34 p.d) p.os := fun d os => Calls.regrown_of (bottom_any _)
            have cR := rg_bool (V := V34) fun W hb => csh5 H (HE.out.more (below_more D.out.c.b hb))
            have cW := rg_bool (V := V34) fun W hb => csh6 H (HE.out.more (below_more D.out.c.b hb))
            refine wp_region_quiet_below (by kernel_rfl) (by kernel_rfl) ?_
            repeat (quiet_step (with_reducible (first | exact cB _ _ | exact cR _ _ | exact cW _ _)))
            refine wpQuiet_nil ?_
            intro _ hw'
            obtain ⟨⟨dq, osq⟩, hw''⟩ := hw'
            subst hw''
            go_wp2
            go_ret
            exact ⟨rfl, below_more D.out.c.b (below_regrown V34 dq osq)⟩
        · skip
          go_simp
          refine hK.out _ _ (ShD.more hS12 (Below.new we13 (.cells #[.int .i64 0, .int .u64 0, .int .i64 0] 24))) (fun hS35 => ?_)
          clear hK K
          try simp only [Act.put, List.setIfInBounds_toArray, List.set_cons_zero, List.set_cons_succ]
          refine wpAnyH_ready (rs := [1]) (by kernel_rfl) (by simp) ?_
          refine AllReadyH.cons (o := { dst := some 22, op := Go.Op.call { callee := Go.Callee.value (Go.Operand.func 28), args := #[], argTypes := #[] }, type := 24, pos := "law.go:16", after := #[{ on := 0, ground := Go.Ground.chain }], guard := none }) rfl (fun K hK => ?_) AllReadyH.nil
          go_simp
          refine (top_any _).mono ?_
          rintro e we37 ⟨rfl, hb38⟩
          refine hK.out _ _ (ShD.more hS35 hb38) (fun hS36 => ?_)
          clear hK K
          try simp only [Act.put, List.setIfInBounds_toArray, List.set_cons_zero, List.set_cons_succ]
          refine wpAnyH_ready (rs := [3]) (by kernel_rfl) (by simp) ?_
          refine AllReadyH.cons (o := { dst := some 24, op := Go.Op.call { callee := Go.Callee.value (Go.Operand.func 12), args := #[Go.Operand.tmp 21, Go.Operand.tmp 22, Go.Operand.tmp 23], argTypes := #[24, 24, 24] }, type := 27, pos := "law.go:16", after := #[{ on := 0, ground := Go.Ground.data }, { on := 1, ground := Go.Ground.data }, { on := 2, ground := Go.Ground.data }, { on := 1, ground := Go.Ground.chain }], guard := none }) rfl (fun K hK => ?_) AllReadyH.nil
          go_simp
          refine (csh2 H (HE.out.more hS36.c.b)).mono ?_
          rintro e we40 ⟨rfl, hb41⟩
          refine hK.out _ _ (ShD.more hS36 hb41) (fun hS39 => ?_)
          clear hK K
          try simp only [Act.put, List.setIfInBounds_toArray, List.set_cons_zero, List.set_cons_succ]
          refine wpAnyH_take (i := 4) (oi := { dst := some 20, op := Go.Op.move (Go.Operand.tmp 24), type := 27, pos := "law.go:16", after := #[{ on := 3, ground := Go.Ground.data }], guard := none }) (v := ?_) rfl (by kernel_rfl) (by kernel_rfl) (by kernel_rfl) (fun _ _ _ h => h) (Or.inl ⟨by rfl, ?_⟩) hS39 ?_
          rotate_left
          · (intro wq hSw; obtain ⟨⟨y0, y1, y2⟩, y3, y4, y5⟩ := ShC.cells hSw.c; go_simp; try with_reducible rfl)
          try simp only [Act.put, List.setIfInBounds_toArray, List.set_cons_zero, List.set_cons_succ]
          refine wpAnyH_take (i := 5) (oi := { dst := some 25, op := Go.Op.extract (Go.Operand.tmp 20) 0, type := 24, pos := "law.go:16", after := #[{ on := 4, ground := Go.Ground.data }], guard := none }) (v := ?_) rfl (by kernel_rfl) (by kernel_rfl) (by kernel_rfl) (fun _ _ _ h => h) (Or.inl ⟨by rfl, ?_⟩) hS39 ?_
          rotate_left
          · (intro wq hSw; obtain ⟨⟨y0, y1, y2⟩, y3, y4, y5⟩ := ShC.cells hSw.c; go_simp; try with_reducible rfl)
          try simp only [Act.put, List.setIfInBounds_toArray, List.set_cons_zero, List.set_cons_succ]
          refine wpAnyH_take (i := 6) (oi := { dst := some 26, op := Go.Op.extract (Go.Operand.tmp 20) 1, type := 26, pos := "law.go:16", after := #[{ on := 4, ground := Go.Ground.data }, { on := 8, ground := Go.Ground.gcOnly Go.Departure.lateStores }], guard := none }) (v := ?_) rfl (by kernel_rfl) (by kernel_rfl) (by kernel_rfl) (fun _ _ _ h => h) (Or.inl ⟨by rfl, ?_⟩) hS39 ?_
          rotate_left
          · (intro wq hSw; obtain ⟨⟨y0, y1, y2⟩, y3, y4, y5⟩ := ShC.cells hSw.c; go_simp; try with_reducible rfl)
          try simp only [Act.put, List.setIfInBounds_toArray, List.set_cons_zero, List.set_cons_succ]
          refine wpAnyH_ready (rs := [8]) (by kernel_rfl) (by simp) ?_
          refine AllReadyH.cons (o := { dst := none, op := Go.Op.store 24 (Go.Operand.tmp 5) (Go.Operand.tmp 25), type := 0, pos := "law.go:16", after := #[{ on := 7, ground := Go.Ground.data }, { on := 5, ground := Go.Ground.data }, { on := 3, ground := Go.Ground.chain }, { on := 0, ground := Go.Ground.phase }, { on := 1, ground := Go.Ground.phase }, { on := 2, ground := Go.Ground.phase }, { on := 3, ground := Go.Ground.phase }, { on := 4, ground := Go.Ground.phase }, { on := 5, ground := Go.Ground.phase }, { on := 6, ground := Go.Ground.textOnly Go.Departure.lateStores }, { on := 7, ground := Go.Ground.phase }], guard := none }) rfl (fun K hK => ?_) AllReadyH.nil
          have hz43 : BoxL we40 we13.heap.size Lab.zero := (((boxZ_new we13).more hb38).more hb41)
          obtain ⟨g0, g1, g2⟩ := hz43.lab
          obtain ⟨fg0, fg1, fg2⟩ := hz43.frozen
          go_simp
          refine hK.out _ _ (ShD.set3 (Y := we13.heap.size) hS12 (Nat.le_refl _) hS39) (fun hS42 => ?_)
          clear hK K g0 g1 g2 fg0 fg1 fg2
          try simp only [Act.put, List.setIfInBounds_toArray, List.set_cons_zero, List.set_cons_succ]
          refine wpAnyH_take (i := 9) (oi := { dst := some 6, op := Go.Op.assign (Go.Operand.tmp 26), type := 26, pos := "law.go:16", after := #[{ on := 6, ground := Go.Ground.data }, { on := 8, ground := Go.Ground.chain }, { on := 0, ground := Go.Ground.phase }, { on := 1, ground := Go.Ground.phase }, { on := 2, ground := Go.Ground.phase }, { on := 3, ground := Go.Ground.phase }, { on := 4, ground := Go.Ground.phase }, { on := 5, ground := Go.Ground.phase }, { on := 6, ground := Go.Ground.phase }, { on := 7, ground := Go.Ground.phase }, { on := 8, ground := Go.Ground.phase }], guard := none }) (v := ?_) rfl (by kernel_rfl) (by kernel_rfl) (by kernel_rfl) (fun _ _ _ h => h) (Or.inl ⟨by rfl, ?_⟩) hS42 ?_
          rotate_left
          · (intro wq hSw; obtain ⟨⟨y0, y1, y2⟩, y3, y4, y5⟩ := ShC.cells hSw.c; go_simp; try with_reducible rfl)
          try simp only [Act.put, List.setIfInBounds_toArray, List.set_cons_zero, List.set_cons_succ]
          refine wpAnyH_done (by kernel_rfl) ?_ _
          replace D := Lib.hid hS42
          obtain ⟨V44, hV44⟩ : ∃ Vx, (((we40.setCell ⟨we13.heap.size, 0, none⟩ (.int .i64 0)).setCell ⟨we13.heap.size, 1, none⟩ (.int .u64 0)).setCell ⟨we13.heap.size, 2, none⟩ (.int .i64 0)) = Vx := ⟨_, rfl⟩
          rw [hV44] at D ⊢
          clear hV44 hz43 hS42 hb41 hS39 hb38 hS36 hS35 hb14 hS12 hS11
          go_wp2
          obtain ⟨⟨a0, a1, a2⟩, b0, b1, b2⟩ := D.out.c.cells
          replace a0 := cell_regrown a0
          replace a1 := cell_regrown a1
          replace a2 := cell_regrown a2
          clear b0 b1 b2
          have cB : ∀ d os, Calls Tryd.prog 27 #[] (grow (redrawn V44 d) os) fun e w'' => e = .returned (.agg #[.int .i64 0, .int .u64 0, .int .i64 7]) ∧ ∃ p : Regrown, w'' = grow (redrawn V44 p.d) p.os := fun d os => Calls.regrown_of (bottom_any _)
          have cS := rg_be (V := V44) fun W hb => csh3 H (HE.out.more (below_more D.out.c.b hb))
          refine wp_region_quiet_below (by kernel_rfl) (by kernel_rfl) ?_
          repeat (quiet_step (with_reducible (first | exact cB _ _ | exact cS _ _)))
          refine wpQuiet_nil ?_
          intro _ hw'
          obtain ⟨⟨dq, osq⟩, hw''⟩ := hw'
          subst hw''
          clear cB cS a0 a1 a2
          have Dn := Lib.hid (ShD.more D.out (below_regrown V44 dq osq))
          obtain ⟨V45, hV45⟩ : ∃ V2, grow (redrawn V44 dq) osq = V2 := ⟨_, rfl⟩
          rw [hV45] at Dn ⊢
          clear hV45 D
          have D := Lib.hid Dn.out
          clear Dn
          go_wp2
          obtain ⟨⟨a0, a1, a2⟩, b0, b1, b2⟩ := D.out.c.cells
          replace a0 := cell_regrown a0
          replace a1 := cell_regrown a1
          replace a2 := cell_regrown a2
          clear b0 b1 b2
          have cB : ∀ d os, Calls Tryd.prog 27 #[] (grow (redrawn V45 d) os) fun e w'' => e = .returned (.agg #[.int .i64 0, .int .u64 0, .int .i64 7]) ∧ ∃ p : Regrown, w'' = grow (redrawn V45 p.d) p.os := fun d os => Calls.regrown_of (bottom_any _)
          have cS := rg_be (V := V45) fun W hb => csh4 H (HE.out.more (below_more D.out.c.b hb))
          refine wp_region_quiet_below (by kernel_rfl) (by kernel_rfl) ?_
          repeat (quiet_step (with_reducible (first | exact cB _ _ | exact cS _ _)))
          refine wpQuiet_nil ?_
          intro _ hw'
          obtain ⟨⟨dq, osq⟩, hw''⟩ := hw'
          subst hw''
          clear cB cS a0 a1 a2
          have Dn := Lib.hid (ShD.more D.out (below_regrown V45 dq osq))
          obtain ⟨V46, hV46⟩ : ∃ V2, grow (redrawn V45 dq) osq = V2 := ⟨_, rfl⟩
          rw [hV46] at Dn ⊢
          clear hV46 D
          have D := Lib.hid Dn.out
          clear Dn
          go_wp2
          obtain ⟨⟨a0, a1, a2⟩, b0, b1, b2⟩ := D.out.c.cells
          replace a0 := cell_regrown a0
          replace a1 := cell_regrown a1
          replace a2 := cell_regrown a2
          clear b0 b1 b2
          obtain ⟨x0, x1, x2⟩ := D.out.xs
          replace x0 := cell_regrown x0
          replace x1 := cell_regrown x1
          replace x2 := cell_regrown x2
          have cB : ∀ d os, Calls Tryd.prog 27 #[] (grow (redrawn V46 d) os) fun e w'' => e = .returned (.agg #[.int .i64 0, .int .u64 0, .int .i64 7]) ∧ ∃ p : Regrown, w'' = grow (redrawn V46 p.d) p.os := fun d os => Calls.regrown_of (bottom_any _)
          have cR := rg_bool (V := V46) fun W hb => csh5 H (HE.out.more (below_more D.out.c.b hb))
          have cW := rg_bool (V := V46) fun W hb => csh6 H (HE.out.more (below_more D.out.c.b hb))
          refine wp_region_quiet_below (by kernel_rfl) (by kernel_rfl) ?_
          repeat (quiet_step (with_reducible (first | exact cB _ _ | exact cR _ _ | exact cW _ _)))
          refine wpQuiet_nil ?_
          intro _ hw'
          obtain ⟨⟨dq, osq⟩, hw''⟩ := hw'
          subst hw''
          go_wp2
          go_ret
          exact ⟨rfl, below_more D.out.c.b (below_regrown V46 dq osq)⟩
      · skip
        go_simp
        refine hK.out _ _ (ShD.more hS11 (Below.new V9.drew (.cells #[.int .i64 0, .int .u64 0, .int .i64 0] 24))) (fun hS47 => ?_)
        clear hK K
        try simp only [Act.put, List.setIfInBounds_toArray, List.set_cons_zero, List.set_cons_succ]
        refine wpAnyH_ready (rs := [0]) (by kernel_rfl) (by simp) ?_
        refine AllReadyH.cons (o := { dst := some 21, op := Go.Op.call { callee := Go.Callee.value (Go.Operand.func 27), args := #[], argTypes := #[] }, type := 24, pos := "law.go:16", after := #[], guard := none }) rfl (fun K hK => ?_) AllReadyH.nil
        go_simp
        refine (bottom_any _).mono ?_
        rintro e we49 ⟨rfl, hb50⟩
        refine hK.out _ _ (ShD.more hS47 hb50) (fun hS48 => ?_)
        clear hK K
        try simp only [Act.put, List.setIfInBounds_toArray, List.set_cons_zero, List.set_cons_succ]
        refine wpAnyH_ready (rs := [1]) (by kernel_rfl) (by simp) ?_
        refine AllReadyH.cons (o := { dst := some 22, op := Go.Op.call { callee := Go.Callee.value (Go.Operand.func 28), args := #[], argTypes := #[] }, type := 24, pos := "law.go:16", after := #[{ on := 0, ground := Go.Ground.chain }], guard := none }) rfl (fun K hK => ?_) AllReadyH.nil
        go_simp
        refine (top_any _).mono ?_
        rintro e we52 ⟨rfl, hb53⟩
        refine hK.out _ _ (ShD.more hS48 hb53) (fun hS51 => ?_)
        clear hK K
        try simp only [Act.put, List.setIfInBounds_toArray, List.set_cons_zero, List.set_cons_succ]
        refine wpAnyH_ready (rs := [3]) (by kernel_rfl) (by simp) ?_
        refine AllReadyH.cons (o := { dst := some 24, op := Go.Op.call { callee := Go.Callee.value (Go.Operand.func 12), args := #[Go.Operand.tmp 21, Go.Operand.tmp 22, Go.Operand.tmp 23], argTypes := #[24, 24, 24] }, type := 27, pos := "law.go:16", after := #[{ on := 0, ground := Go.Ground.data }, { on := 1, ground := Go.Ground.data }, { on := 2, ground := Go.Ground.data }, { on := 1, ground := Go.Ground.chain }], guard := none }) rfl (fun K hK => ?_) AllReadyH.nil
        go_simp
        refine (csh2 H (HE.out.more hS51.c.b)).mono ?_
        rintro e we55 ⟨rfl, hb56⟩
        refine hK.out _ _ (ShD.more hS51 hb56) (fun hS54 => ?_)
        clear hK K
        try simp only [Act.put, List.setIfInBounds_toArray, List.set_cons_zero, List.set_cons_succ]
        refine wpAnyH_take (i := 4) (oi := { dst := some 20, op := Go.Op.move (Go.Operand.tmp 24), type := 27, pos := "law.go:16", after := #[{ on := 3, ground := Go.Ground.data }], guard := none }) (v := ?_) rfl (by kernel_rfl) (by kernel_rfl) (by kernel_rfl) (fun _ _ _ h => h) (Or.inl ⟨by rfl, ?_⟩) hS54 ?_
        rotate_left
        · (intro wq hSw; obtain ⟨⟨y0, y1, y2⟩, y3, y4, y5⟩ := ShC.cells hSw.c; go_simp; try with_reducible rfl)
        try simp only [Act.put, List.setIfInBounds_toArray, List.set_cons_zero, List.set_cons_succ]
        refine wpAnyH_take (i := 5) (oi := { dst := some 25, op := Go.Op.extract (Go.Operand.tmp 20) 0, type := 24, pos := "law.go:16", after := #[{ on := 4, ground := Go.Ground.data }], guard := none }) (v := ?_) rfl (by kernel_rfl) (by kernel_rfl) (by kernel_rfl) (fun _ _ _ h => h) (Or.inl ⟨by rfl, ?_⟩) hS54 ?_
        rotate_left
        · (intro wq hSw; obtain ⟨⟨y0, y1, y2⟩, y3, y4, y5⟩ := ShC.cells hSw.c; go_simp; try with_reducible rfl)
        try simp only [Act.put, List.setIfInBounds_toArray, List.set_cons_zero, List.set_cons_succ]
        refine wpAnyH_take (i := 6) (oi := { dst := some 26, op := Go.Op.extract (Go.Operand.tmp 20) 1, type := 26, pos := "law.go:16", after := #[{ on := 4, ground := Go.Ground.data }, { on := 8, ground := Go.Ground.gcOnly Go.Departure.lateStores }], guard := none }) (v := ?_) rfl (by kernel_rfl) (by kernel_rfl) (by kernel_rfl) (fun _ _ _ h => h) (Or.inl ⟨by rfl, ?_⟩) hS54 ?_
        rotate_left
        · (intro wq hSw; obtain ⟨⟨y0, y1, y2⟩, y3, y4, y5⟩ := ShC.cells hSw.c; go_simp; try with_reducible rfl)
        try simp only [Act.put, List.setIfInBounds_toArray, List.set_cons_zero, List.set_cons_succ]
        refine wpAnyH_ready (rs := [8]) (by kernel_rfl) (by simp) ?_
        refine AllReadyH.cons (o := { dst := none, op := Go.Op.store 24 (Go.Operand.tmp 5) (Go.Operand.tmp 25), type := 0, pos := "law.go:16", after := #[{ on := 7, ground := Go.Ground.data }, { on := 5, ground := Go.Ground.data }, { on := 3, ground := Go.Ground.chain }, { on := 0, ground := Go.Ground.phase }, { on := 1, ground := Go.Ground.phase }, { on := 2, ground := Go.Ground.phase }, { on := 3, ground := Go.Ground.phase }, { on := 4, ground := Go.Ground.phase }, { on := 5, ground := Go.Ground.phase }, { on := 6, ground := Go.Ground.textOnly Go.Departure.lateStores }, { on := 7, ground := Go.Ground.phase }], guard := none }) rfl (fun K hK => ?_) AllReadyH.nil
        have hz58 : BoxL we55 V9.heap.size Lab.zero := ((((boxZ_new V9.drew).more hb50).more hb53).more hb56)
        obtain ⟨g0, g1, g2⟩ := hz58.lab
        obtain ⟨fg0, fg1, fg2⟩ := hz58.frozen
        go_simp
        refine hK.out _ _ (ShD.set3 (Y := V9.heap.size) hS11 (Nat.le_refl _) hS54) (fun hS57 => ?_)
        clear hK K g0 g1 g2 fg0 fg1 fg2
        try simp only [Act.put, List.setIfInBounds_toArray, List.set_cons_zero, List.set_cons_succ]
        refine wpAnyH_take (i := 9) (oi := { dst := some 6, op := Go.Op.assign (Go.Operand.tmp 26), type := 26, pos := "law.go:16", after := #[{ on := 6, ground := Go.Ground.data }, { on := 8, ground := Go.Ground.chain }, { on := 0, ground := Go.Ground.phase }, { on := 1, ground := Go.Ground.phase }, { on := 2, ground := Go.Ground.phase }, { on := 3, ground := Go.Ground.phase }, { on := 4, ground := Go.Ground.phase }, { on := 5, ground := Go.Ground.phase }, { on := 6, ground := Go.Ground.phase }, { on := 7, ground := Go.Ground.phase }, { on := 8, ground := Go.Ground.phase }], guard := none }) (v := ?_) rfl (by kernel_rfl) (by kernel_rfl) (by kernel_rfl) (fun _ _ _ h => h) (Or.inl ⟨by rfl, ?_⟩) hS57 ?_
        rotate_left
        · (intro wq hSw; obtain ⟨⟨y0, y1, y2⟩, y3, y4, y5⟩ := ShC.cells hSw.c; go_simp; try with_reducible rfl)
        try simp only [Act.put, List.setIfInBounds_toArray, List.set_cons_zero, List.set_cons_succ]
        refine wpAnyH_done (by kernel_rfl) ?_ _
        replace D := Lib.hid hS57
        obtain ⟨V59, hV59⟩ : ∃ Vx, (((we55.setCell ⟨V9.heap.size, 0, none⟩ (.int .i64 0)).setCell ⟨V9.heap.size, 1, none⟩ (.int .u64 0)).setCell ⟨V9.heap.size, 2, none⟩ (.int .i64 0)) = Vx := ⟨_, rfl⟩
        rw [hV59] at D ⊢
        clear hV59 hz58 hS57 hb56 hS54 hb53 hS51 hb50 hS48 hS47 hS11
        go_wp2
        obtain ⟨⟨a0, a1, a2⟩, b0, b1, b2⟩ := D.out.c.cells
        replace a0 := cell_regrown a0
        replace a1 := cell_regrown a1
        replace a2 := cell_regrown a2
        clear b0 b1 b2
        have cB : ∀ d os, Calls Tryd.prog 27 #[] (grow (redrawn V59 d) os) fun e w'' => e = .returned (.agg #[.int .i64 0, .int .u64 0, .int .i64 7]) ∧ ∃ p : Regrown, w'' = grow (redrawn V59 p.d) p.os := fun d os => Calls.regrown_of (bottom_any _)
        have cS := rg_be (V := V59) fun W hb => csh3 H (HE.out.more (below_more D.out.c.b hb))
        refine wp_region_quiet_below (by kernel_rfl) (by kernel_rfl) ?_
        repeat (quiet_step (with_reducible (first | exact cB _ _ | exact cS _ _)))
        refine wpQuiet_nil ?_
        intro _ hw'
        obtain ⟨⟨dq, osq⟩, hw''⟩ := hw'
        subst hw''
        clear cB cS a0 a1 a2
        have Dn := Lib.hid (ShD.more D.out (below_regrown V59 dq osq))
        obtain ⟨V60, hV60⟩ : ∃ V2, grow (redrawn V59 dq) osq = V2 := ⟨_, rfl⟩
        rw [hV60] at Dn ⊢
        clear hV60 D
        have D := Lib.hid Dn.out
        clear Dn
        go_wp2
        obtain ⟨⟨a0, a1, a2⟩, b0, b1, b2⟩ := D.out.c.cells
        replace a0 := cell_regrown a0
        replace a1 := cell_regrown a1
        replace a2 := cell_regrown a2
        clear b0 b1 b2
        have cB : ∀ d os, Calls Tryd.prog 27 #[] (grow (redrawn V60 d) os) fun e w'' => e = .returned (.agg #[.int .i64 0, .int .u64 0, .int .i64 7]) ∧ ∃ p : Regrown, w'' = grow (redrawn V60 p.d) p.os := fun d os => Calls.regrown_of (bottom_any _)
        have cS := rg_be (V := V60) fun W hb => csh4 H (HE.out.more (below_more D.out.c.b hb))
        refine wp_region_quiet_below (by kernel_rfl) (by kernel_rfl) ?_
        repeat (quiet_step (with_reducible (first | exact cB _ _ | exact cS _ _)))
        refine wpQuiet_nil ?_
        intro _ hw'
        obtain ⟨⟨dq, osq⟩, hw''⟩ := hw'
        subst hw''
        clear cB cS a0 a1 a2
        have Dn := Lib.hid (ShD.more D.out (below_regrown V60 dq osq))
        obtain ⟨V61, hV61⟩ : ∃ V2, grow (redrawn V60 dq) osq = V2 := ⟨_, rfl⟩
        rw [hV61] at Dn ⊢
        clear hV61 D
        have D := Lib.hid Dn.out
        clear Dn
        go_wp2
        obtain ⟨⟨a0, a1, a2⟩, b0, b1, b2⟩ := D.out.c.cells
        replace a0 := cell_regrown a0
        replace a1 := cell_regrown a1
        replace a2 := cell_regrown a2
        clear b0 b1 b2
        obtain ⟨x0, x1, x2⟩ := D.out.xs
        replace x0 := cell_regrown x0
        replace x1 := cell_regrown x1
        replace x2 := cell_regrown x2
        have cB : ∀ d os, Calls Tryd.prog 27 #[] (grow (redrawn V61 d) os) fun e w'' => e = .returned (.agg #[.int .i64 0, .int .u64 0, .int .i64 7]) ∧ ∃ p : Regrown, w'' = grow (redrawn V61 p.d) p.os := fun d os => Calls.regrown_of (bottom_any _)
        have cR := rg_bool (V := V61) fun W hb => csh5 H (HE.out.more (below_more D.out.c.b hb))
        have cW := rg_bool (V := V61) fun W hb => csh6 H (HE.out.more (below_more D.out.c.b hb))
        refine wp_region_quiet_below (by kernel_rfl) (by kernel_rfl) ?_
        repeat (quiet_step (with_reducible (first | exact cB _ _ | exact cR _ _ | exact cW _ _)))
        refine wpQuiet_nil ?_
        intro _ hw'
        obtain ⟨⟨dq, osq⟩, hw''⟩ := hw'
        subst hw''
        go_wp2
        go_ret
        exact ⟨rfl, below_more D.out.c.b (below_regrown V61 dq osq)⟩
    · skip
      go_simp
      refine hK.out _ _ (ShD.more hS1 (Below.new we2 (.cells #[.int .i64 0, .int .u64 0, .int .i64 0] 24))) (fun hS62 => ?_)
      clear hK K
      try simp only [Act.put, List.setIfInBounds_toArray, List.set_cons_zero, List.set_cons_succ]
      refine wpAnyH_ready (rs := [3]) (by kernel_rfl) (by simp) ?_
      refine AllReadyH.cons (o := { dst := some 17, op := Go.Op.call { callee := Go.Callee.value (Go.Operand.func 12), args := #[Go.Operand.tmp 14, Go.Operand.tmp 15, Go.Operand.tmp 16], argTypes := #[24, 24, 24] }, type := 27, pos := "law.go:15", after := #[{ on := 0, ground := Go.Ground.data }, { on := 1, ground := Go.Ground.data }, { on := 2, ground := Go.Ground.data }, { on := 0, ground := Go.Ground.chain }], guard := none }) rfl (fun K hK => ?_) AllReadyH.nil
      go_simp
      refine (csh1 H (HE.out.more hS62.c.b)).mono ?_
      rintro e we64 ⟨rfl, hb65⟩
      refine hK.out _ _ (ShD.more hS62 hb65) (fun hS63 => ?_)
      clear hK K
      try simp only [Act.put, List.setIfInBounds_toArray, List.set_cons_zero, List.set_cons_succ]
      refine wpAnyH_take (i := 4) (oi := { dst := some 13, op := Go.Op.move (Go.Operand.tmp 17), type := 27, pos := "law.go:15", after := #[{ on := 3, ground := Go.Ground.data }], guard := none }) (v := ?_) rfl (by kernel_rfl) (by kernel_rfl) (by kernel_rfl) (fun _ _ _ h => h) (Or.inl ⟨by rfl, ?_⟩) hS63 ?_
      rotate_left
      · (intro wq hSw; obtain ⟨⟨y0, y1, y2⟩, y3, y4, y5⟩ := ShC.cells hSw.c; go_simp; try with_reducible rfl)
      try simp only [Act.put, List.setIfInBounds_toArray, List.set_cons_zero, List.set_cons_succ]
      refine wpAnyH_take (i := 5) (oi := { dst := some 18, op := Go.Op.extract (Go.Operand.tmp 13) 0, type := 24, pos := "law.go:15", after := #[{ on := 4, ground := Go.Ground.data }], guard := none }) (v := ?_) rfl (by kernel_rfl) (by kernel_rfl) (by kernel_rfl) (fun _ _ _ h => h) (Or.inl ⟨by rfl, ?_⟩) hS63 ?_
      rotate_left
      · (intro wq hSw; obtain ⟨⟨y0, y1, y2⟩, y3, y4, y5⟩ := ShC.cells hSw.c; go_simp; try with_reducible rfl)
      try simp only [Act.put, List.setIfInBounds_toArray, List.set_cons_zero, List.set_cons_succ]
      refine wpAnyH_take (i := 6) (oi := { dst := some 19, op := Go.Op.extract (Go.Operand.tmp 13) 1, type := 26, pos := "law.go:15", after := #[{ on := 4, ground := Go.Ground.data }, { on := 8, ground := Go.Ground.gcOnly Go.Departure.lateStores }], guard := none }) (v := ?_) rfl (by kernel_rfl) (by kernel_rfl) (by kernel_rfl) (fun _ _ _ h => h) (Or.inl ⟨by rfl, ?_⟩) hS63 ?_
      rotate_left
      · (intro wq hSw; obtain ⟨⟨y0, y1, y2⟩, y3, y4, y5⟩ := ShC.cells hSw.c; go_simp; try with_reducible rfl)
      try simp only [Act.put, List.setIfInBounds_toArray, List.set_cons_zero, List.set_cons_succ]
      refine wpAnyH_ready (rs := [8]) (by kernel_rfl) (by simp) ?_
      refine AllReadyH.cons (o := { dst := none, op := Go.Op.store 24 (Go.Operand.tmp 3) (Go.Operand.tmp 18), type := 0, pos := "law.go:15", after := #[{ on := 7, ground := Go.Ground.data }, { on := 5, ground := Go.Ground.data }, { on := 3, ground := Go.Ground.chain }, { on := 0, ground := Go.Ground.phase }, { on := 1, ground := Go.Ground.phase }, { on := 2, ground := Go.Ground.phase }, { on := 3, ground := Go.Ground.phase }, { on := 4, ground := Go.Ground.phase }, { on := 5, ground := Go.Ground.phase }, { on := 6, ground := Go.Ground.textOnly Go.Departure.lateStores }, { on := 7, ground := Go.Ground.phase }], guard := none }) rfl (fun K hK => ?_) AllReadyH.nil
      have hz67 : BoxL we64 we2.heap.size Lab.zero := ((boxZ_new we2).more hb65)
      obtain ⟨g0, g1, g2⟩ := hz67.lab
      obtain ⟨fg0, fg1, fg2⟩ := hz67.frozen
      go_simp
      refine hK.out _ _ (ShD.set3 (Y := we2.heap.size) hS1 (Nat.le_refl _) hS63) (fun hS66 => ?_)
      clear hK K g0 g1 g2 fg0 fg1 fg2
      try simp only [Act.put, List.setIfInBounds_toArray, List.set_cons_zero, List.set_cons_succ]
      refine wpAnyH_take (i := 9) (oi := { dst := some 4, op := Go.Op.assign (Go.Operand.tmp 19), type := 26, pos := "law.go:15", after := #[{ on := 6, ground := Go.Ground.data }, { on := 8, ground := Go.Ground.chain }, { on := 0, ground := Go.Ground.phase }, { on := 1, ground := Go.Ground.phase }, { on := 2, ground := Go.Ground.phase }, { on := 3, ground := Go.Ground.phase }, { on := 4, ground := Go.Ground.phase }, { on := 5, ground := Go.Ground.phase }, { on := 6, ground := Go.Ground.phase }, { on := 7, ground := Go.Ground.phase }, { on := 8, ground := Go.Ground.phase }], guard := none }) (v := ?_) rfl (by kernel_rfl) (by kernel_rfl) (by kernel_rfl) (fun _ _ _ h => h) (Or.inl ⟨by rfl, ?_⟩) hS66 ?_
      rotate_left
      · (intro wq hSw; obtain ⟨⟨y0, y1, y2⟩, y3, y4, y5⟩ := ShC.cells hSw.c; go_simp; try with_reducible rfl)
      try simp only [Act.put, List.setIfInBounds_toArray, List.set_cons_zero, List.set_cons_succ]
      refine wpAnyH_done (by kernel_rfl) ?_ _
      replace D := Lib.hid (show ShD w we2.heap.size (((we64.setCell ⟨we2.heap.size, 0, none⟩ (.int .i64 2)).setCell ⟨we2.heap.size, 1, none⟩ (.int .u64 1)).setCell ⟨we2.heap.size, 2, none⟩ (.int .i64 5)) from ⟨hS66.c, (hz67.set aS)⟩)
      obtain ⟨V68, hV68⟩ : ∃ Vx, (((we64.setCell ⟨we2.heap.size, 0, none⟩ (.int .i64 2)).setCell ⟨we2.heap.size, 1, none⟩ (.int .u64 1)).setCell ⟨we2.heap.size, 2, none⟩ (.int .i64 5)) = Vx := ⟨_, rfl⟩
      obtain ⟨X69, hX69⟩ : ∃ Xx, we2.heap.size = Xx := ⟨_, rfl⟩
      rw [hV68, hX69] at D
      rw [hV68, hX69]
      clear hV68 hX69 hz67 hS66 hb65 hS63 hS62 hb3 hS1 hS0
      go_wp2
      refine wp_region_held_drew (S := ShD w X69) (by kernel_rfl) (D.out.more ((Below.refl _ V68).drew)) (fun hS70 => ?_)
      refine wpAnyH_take (i := 2) (oi := { dst := some 23, op := Go.Op.load 24 (Go.Operand.tmp 2), type := 24, pos := "law.go:16", after := #[], guard := none }) (v := ?_) rfl (by kernel_rfl) (by kernel_rfl) (by kernel_rfl) (fun _ _ _ h => h) (Or.inl ⟨by rfl, ?_⟩) hS70 ?_
      rotate_left
      · (intro wq hSw; obtain ⟨⟨y0, y1, y2⟩, y3, y4, y5⟩ := ShC.cells hSw.c; go_simp; try with_reducible rfl)
      try simp only [Act.put, List.setIfInBounds_toArray, List.set_cons_zero, List.set_cons_succ]
      refine wpAnyH_ready (rs := [0, 7]) (by kernel_rfl) (by simp) ?_
      refine AllReadyH.cons (o := { dst := some 21, op := Go.Op.call { callee := Go.Callee.value (Go.Operand.func 27), args := #[], argTypes := #[] }, type := 24, pos := "law.go:16", after := #[], guard := none }) rfl (fun K hK => ?_) (AllReadyH.cons (o := { dst := some 5, op := Go.Op.alloc 24, type := 0, pos := "law.go:16", after := #[], guard := none }) rfl (fun K hK => ?_) AllReadyH.nil)
      · skip
        go_simp
        refine (bottom_any _).mono ?_
        rintro e we72 ⟨rfl, hb73⟩
        refine hK.out _ _ (ShD.more hS70 hb73) (fun hS71 => ?_)
        clear hK K
        try simp only [Act.put, List.setIfInBounds_toArray, List.set_cons_zero, List.set_cons_succ]
        refine wpAnyH_ready (rs := [1, 7]) (by kernel_rfl) (by simp) ?_
        refine AllReadyH.cons (o := { dst := some 22, op := Go.Op.call { callee := Go.Callee.value (Go.Operand.func 28), args := #[], argTypes := #[] }, type := 24, pos := "law.go:16", after := #[{ on := 0, ground := Go.Ground.chain }], guard := none }) rfl (fun K hK => ?_) (AllReadyH.cons (o := { dst := some 5, op := Go.Op.alloc 24, type := 0, pos := "law.go:16", after := #[], guard := none }) rfl (fun K hK => ?_) AllReadyH.nil)
        · skip
          go_simp
          refine (top_any _).mono ?_
          rintro e we75 ⟨rfl, hb76⟩
          refine hK.out _ _ (ShD.more hS71 hb76) (fun hS74 => ?_)
          clear hK K
          try simp only [Act.put, List.setIfInBounds_toArray, List.set_cons_zero, List.set_cons_succ]
          refine wpAnyH_ready (rs := [3, 7]) (by kernel_rfl) (by simp) ?_
          refine AllReadyH.cons (o := { dst := some 24, op := Go.Op.call { callee := Go.Callee.value (Go.Operand.func 12), args := #[Go.Operand.tmp 21, Go.Operand.tmp 22, Go.Operand.tmp 23], argTypes := #[24, 24, 24] }, type := 27, pos := "law.go:16", after := #[{ on := 0, ground := Go.Ground.data }, { on := 1, ground := Go.Ground.data }, { on := 2, ground := Go.Ground.data }, { on := 1, ground := Go.Ground.chain }], guard := none }) rfl (fun K hK => ?_) (AllReadyH.cons (o := { dst := some 5, op := Go.Op.alloc 24, type := 0, pos := "law.go:16", after := #[], guard := none }) rfl (fun K hK => ?_) AllReadyH.nil)
          · skip
            go_simp
            refine (csh2 H (HE.out.more hS74.c.b)).mono ?_
            rintro e we78 ⟨rfl, hb79⟩
            refine hK.out _ _ (ShD.more hS74 hb79) (fun hS77 => ?_)
            clear hK K
            try simp only [Act.put, List.setIfInBounds_toArray, List.set_cons_zero, List.set_cons_succ]
            refine wpAnyH_take (i := 4) (oi := { dst := some 20, op := Go.Op.move (Go.Operand.tmp 24), type := 27, pos := "law.go:16", after := #[{ on := 3, ground := Go.Ground.data }], guard := none }) (v := ?_) rfl (by kernel_rfl) (by kernel_rfl) (by kernel_rfl) (fun _ _ _ h => h) (Or.inl ⟨by rfl, ?_⟩) hS77 ?_
            rotate_left
            · (intro wq hSw; obtain ⟨⟨y0, y1, y2⟩, y3, y4, y5⟩ := ShC.cells hSw.c; go_simp; try with_reducible rfl)
            try simp only [Act.put, List.setIfInBounds_toArray, List.set_cons_zero, List.set_cons_succ]
            refine wpAnyH_take (i := 5) (oi := { dst := some 25, op := Go.Op.extract (Go.Operand.tmp 20) 0, type := 24, pos := "law.go:16", after := #[{ on := 4, ground := Go.Ground.data }], guard := none }) (v := ?_) rfl (by kernel_rfl) (by kernel_rfl) (by kernel_rfl) (fun _ _ _ h => h) (Or.inl ⟨by rfl, ?_⟩) hS77 ?_
            rotate_left
            · (intro wq hSw; obtain ⟨⟨y0, y1, y2⟩, y3, y4, y5⟩ := ShC.cells hSw.c; go_simp; try with_reducible rfl)
            try simp only [Act.put, List.setIfInBounds_toArray, List.set_cons_zero, List.set_cons_succ]
            refine wpAnyH_take (i := 6) (oi := { dst := some 26, op := Go.Op.extract (Go.Operand.tmp 20) 1, type := 26, pos := "law.go:16", after := #[{ on := 4, ground := Go.Ground.data }, { on := 8, ground := Go.Ground.gcOnly Go.Departure.lateStores }], guard := none }) (v := ?_) rfl (by kernel_rfl) (by kernel_rfl) (by kernel_rfl) (fun _ _ _ h => h) (Or.inl ⟨by rfl, ?_⟩) hS77 ?_
            rotate_left
            · (intro wq hSw; obtain ⟨⟨y0, y1, y2⟩, y3, y4, y5⟩ := ShC.cells hSw.c; go_simp; try with_reducible rfl)
            try simp only [Act.put, List.setIfInBounds_toArray, List.set_cons_zero, List.set_cons_succ]
            refine wpAnyH_ready (rs := [7]) (by kernel_rfl) (by simp) ?_
            refine AllReadyH.cons (o := { dst := some 5, op := Go.Op.alloc 24, type := 0, pos := "law.go:16", after := #[], guard := none }) rfl (fun K hK => ?_) AllReadyH.nil
            go_simp
            refine hK.out _ _ (ShD.more hS77 (Below.new _ _)) (fun hS80 => ?_)
            clear hK K
            try simp only [Act.put, List.setIfInBounds_toArray, List.set_cons_zero, List.set_cons_succ]
            refine wpAnyH_ready (rs := [8]) (by kernel_rfl) (by simp) ?_
            refine AllReadyH.cons (o := { dst := none, op := Go.Op.store 24 (Go.Operand.tmp 5) (Go.Operand.tmp 25), type := 0, pos := "law.go:16", after := #[{ on := 7, ground := Go.Ground.data }, { on := 5, ground := Go.Ground.data }, { on := 3, ground := Go.Ground.chain }, { on := 0, ground := Go.Ground.phase }, { on := 1, ground := Go.Ground.phase }, { on := 2, ground := Go.Ground.phase }, { on := 3, ground := Go.Ground.phase }, { on := 4, ground := Go.Ground.phase }, { on := 5, ground := Go.Ground.phase }, { on := 6, ground := Go.Ground.textOnly Go.Departure.lateStores }, { on := 7, ground := Go.Ground.phase }], guard := none }) rfl (fun K hK => ?_) AllReadyH.nil
            go_simp
            refine hK.out _ _ (ShD.more hS77 (Below.new we78 (.cells #[.int .i64 0, .int .u64 0, .int .i64 0] 24))) (fun hS81 => ?_)
            clear hK K
            try simp only [Act.put, List.setIfInBounds_toArray, List.set_cons_zero, List.set_cons_succ]
            refine wpAnyH_take (i := 9) (oi := { dst := some 6, op := Go.Op.assign (Go.Operand.tmp 26), type := 26, pos := "law.go:16", after := #[{ on := 6, ground := Go.Ground.data }, { on := 8, ground := Go.Ground.chain }, { on := 0, ground := Go.Ground.phase }, { on := 1, ground := Go.Ground.phase }, { on := 2, ground := Go.Ground.phase }, { on := 3, ground := Go.Ground.phase }, { on := 4, ground := Go.Ground.phase }, { on := 5, ground := Go.Ground.phase }, { on := 6, ground := Go.Ground.phase }, { on := 7, ground := Go.Ground.phase }, { on := 8, ground := Go.Ground.phase }], guard := none }) (v := ?_) rfl (by kernel_rfl) (by kernel_rfl) (by kernel_rfl) (fun _ _ _ h => h) (Or.inl ⟨by rfl, ?_⟩) hS81 ?_
            rotate_left
            · (intro wq hSw; obtain ⟨⟨y0, y1, y2⟩, y3, y4, y5⟩ := ShC.cells hSw.c; go_simp; try with_reducible rfl)
            try simp only [Act.put, List.setIfInBounds_toArray, List.set_cons_zero, List.set_cons_succ]
            refine wpAnyH_done (by kernel_rfl) ?_ _
            replace D := Lib.hid hS81
            obtain ⟨V82, hV82⟩ : ∃ Vx, (we78.alloc (.cells #[.int .i64 0, .int .u64 0, .int .i64 0] 24)) = Vx := ⟨_, rfl⟩
            rw [hV82] at D ⊢
            clear hV82 hS81 hS80 hb79 hS77 hb76 hS74 hb73 hS71 hS70
            go_wp2
            obtain ⟨⟨a0, a1, a2⟩, b0, b1, b2⟩ := D.out.c.cells
            replace a0 := cell_regrown a0
            replace a1 := cell_regrown a1
            replace a2 := cell_regrown a2
            clear b0 b1 b2
            have cB : ∀ d os, Calls Tryd.prog 27 #[] (grow (redrawn V82 d) os) fun e w'' => e = .returned (.agg #[.int .i64 0, .int .u64 0, .int .i64 7]) ∧ ∃ p : Regrown, w'' = grow (redrawn V82 p.d) p.os := fun d os => Calls.regrown_of (bottom_any _)
            have cS := rg_be (V := V82) fun W hb => csh3 H (HE.out.more (below_more D.out.c.b hb))
            refine wp_region_quiet_below (by kernel_rfl) (by kernel_rfl) ?_
            repeat (quiet_step (with_reducible (first | exact cB _ _ | exact cS _ _)))
            refine wpQuiet_nil ?_
            intro _ hw'
            obtain ⟨⟨dq, osq⟩, hw''⟩ := hw'
            subst hw''
            clear cB cS a0 a1 a2
            have Dn := Lib.hid (ShD.more D.out (below_regrown V82 dq osq))
            obtain ⟨V83, hV83⟩ : ∃ V2, grow (redrawn V82 dq) osq = V2 := ⟨_, rfl⟩
            rw [hV83] at Dn ⊢
            clear hV83 D
            have D := Lib.hid Dn.out
            clear Dn
            go_wp2
            obtain ⟨⟨a0, a1, a2⟩, b0, b1, b2⟩ := D.out.c.cells
            replace a0 := cell_regrown a0
            replace a1 := cell_regrown a1
            replace a2 := cell_regrown a2
            clear b0 b1 b2
            have cB : ∀ d os, Calls Tryd.prog 27 #[] (grow (redrawn V83 d) os) fun e w'' => e = .returned (.agg #[.int .i64 0, .int .u64 0, .int .i64 7]) ∧ ∃ p : Regrown, w'' = grow (redrawn V83 p.d) p.os := fun d os => Calls.regrown_of (bottom_any _)
            have cS := rg_be (V := V83) fun W hb => csh4 H (HE.out.more (below_more D.out.c.b hb))
            refine wp_region_quiet_below (by kernel_rfl) (by kernel_rfl) ?_
            repeat (quiet_step (with_reducible (first | exact cB _ _ | exact cS _ _)))
            refine wpQuiet_nil ?_
            intro _ hw'
            obtain ⟨⟨dq, osq⟩, hw''⟩ := hw'
            subst hw''
            clear cB cS a0 a1 a2
            have Dn := Lib.hid (ShD.more D.out (below_regrown V83 dq osq))
            obtain ⟨V84, hV84⟩ : ∃ V2, grow (redrawn V83 dq) osq = V2 := ⟨_, rfl⟩
            rw [hV84] at Dn ⊢
            clear hV84 D
            have D := Lib.hid Dn.out
            clear Dn
            go_wp2
            obtain ⟨⟨a0, a1, a2⟩, b0, b1, b2⟩ := D.out.c.cells
            replace a0 := cell_regrown a0
            replace a1 := cell_regrown a1
            replace a2 := cell_regrown a2
            clear b0 b1 b2
            obtain ⟨x0, x1, x2⟩ := D.out.xs
            replace x0 := cell_regrown x0
            replace x1 := cell_regrown x1
            replace x2 := cell_regrown x2
            have cB : ∀ d os, Calls Tryd.prog 27 #[] (grow (redrawn V84 d) os) fun e w'' => e = .returned (.agg #[.int .i64 0, .int .u64 0, .int .i64 7]) ∧ ∃ p : Regrown, w'' = grow (redrawn V84 p.d) p.os := fun d os => Calls.regrown_of (bottom_any _)
            have cR := rg_bool (V := V84) fun W hb => csh5 H (HE.out.more (below_more D.out.c.b hb))
            have cW := rg_bool (V := V84) fun W hb => csh6 H (HE.out.more (below_more D.out.c.b hb))
            refine wp_region_quiet_below (by kernel_rfl) (by kernel_rfl) ?_
            repeat (quiet_step (with_reducible (first | exact cB _ _ | exact cR _ _ | exact cW _ _)))
            refine wpQuiet_nil ?_
            intro _ hw'
            obtain ⟨⟨dq, osq⟩, hw''⟩ := hw'
            subst hw''
            go_wp2
            go_ret
            exact ⟨rfl, below_more D.out.c.b (below_regrown V84 dq osq)⟩
          · skip
            go_simp
            refine hK.out _ _ (ShD.more hS74 (Below.new we75 (.cells #[.int .i64 0, .int .u64 0, .int .i64 0] 24))) (fun hS85 => ?_)
            clear hK K
            try simp only [Act.put, List.setIfInBounds_toArray, List.set_cons_zero, List.set_cons_succ]
            refine wpAnyH_ready (rs := [3]) (by kernel_rfl) (by simp) ?_
            refine AllReadyH.cons (o := { dst := some 24, op := Go.Op.call { callee := Go.Callee.value (Go.Operand.func 12), args := #[Go.Operand.tmp 21, Go.Operand.tmp 22, Go.Operand.tmp 23], argTypes := #[24, 24, 24] }, type := 27, pos := "law.go:16", after := #[{ on := 0, ground := Go.Ground.data }, { on := 1, ground := Go.Ground.data }, { on := 2, ground := Go.Ground.data }, { on := 1, ground := Go.Ground.chain }], guard := none }) rfl (fun K hK => ?_) AllReadyH.nil
            go_simp
            refine (csh2 H (HE.out.more hS85.c.b)).mono ?_
            rintro e we87 ⟨rfl, hb88⟩
            refine hK.out _ _ (ShD.more hS85 hb88) (fun hS86 => ?_)
            clear hK K
            try simp only [Act.put, List.setIfInBounds_toArray, List.set_cons_zero, List.set_cons_succ]
            refine wpAnyH_take (i := 4) (oi := { dst := some 20, op := Go.Op.move (Go.Operand.tmp 24), type := 27, pos := "law.go:16", after := #[{ on := 3, ground := Go.Ground.data }], guard := none }) (v := ?_) rfl (by kernel_rfl) (by kernel_rfl) (by kernel_rfl) (fun _ _ _ h => h) (Or.inl ⟨by rfl, ?_⟩) hS86 ?_
            rotate_left
            · (intro wq hSw; obtain ⟨⟨y0, y1, y2⟩, y3, y4, y5⟩ := ShC.cells hSw.c; go_simp; try with_reducible rfl)
            try simp only [Act.put, List.setIfInBounds_toArray, List.set_cons_zero, List.set_cons_succ]
            refine wpAnyH_take (i := 5) (oi := { dst := some 25, op := Go.Op.extract (Go.Operand.tmp 20) 0, type := 24, pos := "law.go:16", after := #[{ on := 4, ground := Go.Ground.data }], guard := none }) (v := ?_) rfl (by kernel_rfl) (by kernel_rfl) (by kernel_rfl) (fun _ _ _ h => h) (Or.inl ⟨by rfl, ?_⟩) hS86 ?_
            rotate_left
            · (intro wq hSw; obtain ⟨⟨y0, y1, y2⟩, y3, y4, y5⟩ := ShC.cells hSw.c; go_simp; try with_reducible rfl)
            try simp only [Act.put, List.setIfInBounds_toArray, List.set_cons_zero, List.set_cons_succ]
            refine wpAnyH_take (i := 6) (oi := { dst := some 26, op := Go.Op.extract (Go.Operand.tmp 20) 1, type := 26, pos := "law.go:16", after := #[{ on := 4, ground := Go.Ground.data }, { on := 8, ground := Go.Ground.gcOnly Go.Departure.lateStores }], guard := none }) (v := ?_) rfl (by kernel_rfl) (by kernel_rfl) (by kernel_rfl) (fun _ _ _ h => h) (Or.inl ⟨by rfl, ?_⟩) hS86 ?_
            rotate_left
            · (intro wq hSw; obtain ⟨⟨y0, y1, y2⟩, y3, y4, y5⟩ := ShC.cells hSw.c; go_simp; try with_reducible rfl)
            try simp only [Act.put, List.setIfInBounds_toArray, List.set_cons_zero, List.set_cons_succ]
            refine wpAnyH_ready (rs := [8]) (by kernel_rfl) (by simp) ?_
            refine AllReadyH.cons (o := { dst := none, op := Go.Op.store 24 (Go.Operand.tmp 5) (Go.Operand.tmp 25), type := 0, pos := "law.go:16", after := #[{ on := 7, ground := Go.Ground.data }, { on := 5, ground := Go.Ground.data }, { on := 3, ground := Go.Ground.chain }, { on := 0, ground := Go.Ground.phase }, { on := 1, ground := Go.Ground.phase }, { on := 2, ground := Go.Ground.phase }, { on := 3, ground := Go.Ground.phase }, { on := 4, ground := Go.Ground.phase }, { on := 5, ground := Go.Ground.phase }, { on := 6, ground := Go.Ground.textOnly Go.Departure.lateStores }, { on := 7, ground := Go.Ground.phase }], guard := none }) rfl (fun K hK => ?_) AllReadyH.nil
            have hz90 : BoxL we87 we75.heap.size Lab.zero := ((boxZ_new we75).more hb88)
            obtain ⟨g0, g1, g2⟩ := hz90.lab
            obtain ⟨fg0, fg1, fg2⟩ := hz90.frozen
            go_simp
            refine hK.out _ _ (ShD.set3 (Y := we75.heap.size) hS74 (Nat.le_refl _) hS86) (fun hS89 => ?_)
            clear hK K g0 g1 g2 fg0 fg1 fg2
            try simp only [Act.put, List.setIfInBounds_toArray, List.set_cons_zero, List.set_cons_succ]
            refine wpAnyH_take (i := 9) (oi := { dst := some 6, op := Go.Op.assign (Go.Operand.tmp 26), type := 26, pos := "law.go:16", after := #[{ on := 6, ground := Go.Ground.data }, { on := 8, ground := Go.Ground.chain }, { on := 0, ground := Go.Ground.phase }, { on := 1, ground := Go.Ground.phase }, { on := 2, ground := Go.Ground.phase }, { on := 3, ground := Go.Ground.phase }, { on := 4, ground := Go.Ground.phase }, { on := 5, ground := Go.Ground.phase }, { on := 6, ground := Go.Ground.phase }, { on := 7, ground := Go.Ground.phase }, { on := 8, ground := Go.Ground.phase }], guard := none }) (v := ?_) rfl (by kernel_rfl) (by kernel_rfl) (by kernel_rfl) (fun _ _ _ h => h) (Or.inl ⟨by rfl, ?_⟩) hS89 ?_
            rotate_left
            · (intro wq hSw; obtain ⟨⟨y0, y1, y2⟩, y3, y4, y5⟩ := ShC.cells hSw.c; go_simp; try with_reducible rfl)
            try simp only [Act.put, List.setIfInBounds_toArray, List.set_cons_zero, List.set_cons_succ]
            refine wpAnyH_done (by kernel_rfl) ?_ _
            replace D := Lib.hid hS89
            obtain ⟨V91, hV91⟩ : ∃ Vx, (((we87.setCell ⟨we75.heap.size, 0, none⟩ (.int .i64 0)).setCell ⟨we75.heap.size, 1, none⟩ (.int .u64 0)).setCell ⟨we75.heap.size, 2, none⟩ (.int .i64 0)) = Vx := ⟨_, rfl⟩
            rw [hV91] at D ⊢
            clear hV91 hz90 hS89 hb88 hS86 hS85 hb76 hS74 hb73 hS71 hS70
            go_wp2
            obtain ⟨⟨a0, a1, a2⟩, b0, b1, b2⟩ := D.out.c.cells
            replace a0 := cell_regrown a0
            replace a1 := cell_regrown a1
            replace a2 := cell_regrown a2
            clear b0 b1 b2
            have cB : ∀ d os, Calls Tryd.prog 27 #[] (grow (redrawn V91 d) os) fun e w'' => e = .returned (.agg #[.int .i64 0, .int .u64 0, .int .i64 7]) ∧ ∃ p : Regrown, w'' = grow (redrawn V91 p.d) p.os := fun d os => Calls.regrown_of (bottom_any _)
            have cS := rg_be (V := V91) fun W hb => csh3 H (HE.out.more (below_more D.out.c.b hb))
            refine wp_region_quiet_below (by kernel_rfl) (by kernel_rfl) ?_
            repeat (quiet_step (with_reducible (first | exact cB _ _ | exact cS _ _)))
            refine wpQuiet_nil ?_
            intro _ hw'
            obtain ⟨⟨dq, osq⟩, hw''⟩ := hw'
            subst hw''
            clear cB cS a0 a1 a2
            have Dn := Lib.hid (ShD.more D.out (below_regrown V91 dq osq))
            obtain ⟨V92, hV92⟩ : ∃ V2, grow (redrawn V91 dq) osq = V2 := ⟨_, rfl⟩
            rw [hV92] at Dn ⊢
            clear hV92 D
            have D := Lib.hid Dn.out
            clear Dn
            go_wp2
            obtain ⟨⟨a0, a1, a2⟩, b0, b1, b2⟩ := D.out.c.cells
            replace a0 := cell_regrown a0
            replace a1 := cell_regrown a1
            replace a2 := cell_regrown a2
            clear b0 b1 b2
            have cB : ∀ d os, Calls Tryd.prog 27 #[] (grow (redrawn V92 d) os) fun e w'' => e = .returned (.agg #[.int .i64 0, .int .u64 0, .int .i64 7]) ∧ ∃ p : Regrown, w'' = grow (redrawn V92 p.d) p.os := fun d os => Calls.regrown_of (bottom_any _)
            have cS := rg_be (V := V92) fun W hb => csh4 H (HE.out.more (below_more D.out.c.b hb))
            refine wp_region_quiet_below (by kernel_rfl) (by kernel_rfl) ?_
            repeat (quiet_step (with_reducible (first | exact cB _ _ | exact cS _ _)))
            refine wpQuiet_nil ?_
            intro _ hw'
            obtain ⟨⟨dq, osq⟩, hw''⟩ := hw'
            subst hw''
            clear cB cS a0 a1 a2
            have Dn := Lib.hid (ShD.more D.out (below_regrown V92 dq osq))
            obtain ⟨V93, hV93⟩ : ∃ V2, grow (redrawn V92 dq) osq = V2 := ⟨_, rfl⟩
            rw [hV93] at Dn ⊢
            clear hV93 D
            have D := Lib.hid Dn.out
            clear Dn
            go_wp2
            obtain ⟨⟨a0, a1, a2⟩, b0, b1, b2⟩ := D.out.c.cells
            replace a0 := cell_regrown a0
            replace a1 := cell_regrown a1
            replace a2 := cell_regrown a2
            clear b0 b1 b2
            obtain ⟨x0, x1, x2⟩ := D.out.xs
            replace x0 := cell_regrown x0
            replace x1 := cell_regrown x1
            replace x2 := cell_regrown x2
            have cB : ∀ d os, Calls Tryd.prog 27 #[] (grow (redrawn V93 d) os) fun e w'' => e = .returned (.agg #[.int .i64 0, .int .u64 0, .int .i64 7]) ∧ ∃ p : Regrown, w'' = grow (redrawn V93 p.d) p.os := fun d os => Calls.regrown_of (bottom_any _)
            have cR := rg_bool (V := V93) fun W hb => csh5 H (HE.out.more (below_more D.out.c.b hb))
            have cW := rg_bool (V := V93) fun W hb => csh6 H (HE.out.more (below_more D.out.c.b hb))
            refine wp_region_quiet_below (by kernel_rfl) (by kernel_rfl) ?_
            repeat (quiet_step (with_reducible (first | exact cB _ _ | exact cR _ _ | exact cW _ _)))
            refine wpQuiet_nil ?_
            intro _ hw'
            obtain ⟨⟨dq, osq⟩, hw''⟩ := hw'
            subst hw''
            go_wp2
            go_ret
            exact ⟨rfl, below_more D.out.c.b (below_regrown V93 dq osq)⟩
        · skip
          go_simp
          refine hK.out _ _ (ShD.more hS71 (Below.new we72 (.cells #[.int .i64 0, .int .u64 0, .int .i64 0] 24))) (fun hS94 => ?_)
          clear hK K
          try simp only [Act.put, List.setIfInBounds_toArray, List.set_cons_zero, List.set_cons_succ]
          refine wpAnyH_ready (rs := [1]) (by kernel_rfl) (by simp) ?_
          refine AllReadyH.cons (o := { dst := some 22, op := Go.Op.call { callee := Go.Callee.value (Go.Operand.func 28), args := #[], argTypes := #[] }, type := 24, pos := "law.go:16", after := #[{ on := 0, ground := Go.Ground.chain }], guard := none }) rfl (fun K hK => ?_) AllReadyH.nil
          go_simp
          refine (top_any _).mono ?_
          rintro e we96 ⟨rfl, hb97⟩
          refine hK.out _ _ (ShD.more hS94 hb97) (fun hS95 => ?_)
          clear hK K
          try simp only [Act.put, List.setIfInBounds_toArray, List.set_cons_zero, List.set_cons_succ]
          refine wpAnyH_ready (rs := [3]) (by kernel_rfl) (by simp) ?_
          refine AllReadyH.cons (o := { dst := some 24, op := Go.Op.call { callee := Go.Callee.value (Go.Operand.func 12), args := #[Go.Operand.tmp 21, Go.Operand.tmp 22, Go.Operand.tmp 23], argTypes := #[24, 24, 24] }, type := 27, pos := "law.go:16", after := #[{ on := 0, ground := Go.Ground.data }, { on := 1, ground := Go.Ground.data }, { on := 2, ground := Go.Ground.data }, { on := 1, ground := Go.Ground.chain }], guard := none }) rfl (fun K hK => ?_) AllReadyH.nil
          go_simp
          refine (csh2 H (HE.out.more hS95.c.b)).mono ?_
          rintro e we99 ⟨rfl, hb100⟩
          refine hK.out _ _ (ShD.more hS95 hb100) (fun hS98 => ?_)
          clear hK K
          try simp only [Act.put, List.setIfInBounds_toArray, List.set_cons_zero, List.set_cons_succ]
          refine wpAnyH_take (i := 4) (oi := { dst := some 20, op := Go.Op.move (Go.Operand.tmp 24), type := 27, pos := "law.go:16", after := #[{ on := 3, ground := Go.Ground.data }], guard := none }) (v := ?_) rfl (by kernel_rfl) (by kernel_rfl) (by kernel_rfl) (fun _ _ _ h => h) (Or.inl ⟨by rfl, ?_⟩) hS98 ?_
          rotate_left
          · (intro wq hSw; obtain ⟨⟨y0, y1, y2⟩, y3, y4, y5⟩ := ShC.cells hSw.c; go_simp; try with_reducible rfl)
          try simp only [Act.put, List.setIfInBounds_toArray, List.set_cons_zero, List.set_cons_succ]
          refine wpAnyH_take (i := 5) (oi := { dst := some 25, op := Go.Op.extract (Go.Operand.tmp 20) 0, type := 24, pos := "law.go:16", after := #[{ on := 4, ground := Go.Ground.data }], guard := none }) (v := ?_) rfl (by kernel_rfl) (by kernel_rfl) (by kernel_rfl) (fun _ _ _ h => h) (Or.inl ⟨by rfl, ?_⟩) hS98 ?_
          rotate_left
          · (intro wq hSw; obtain ⟨⟨y0, y1, y2⟩, y3, y4, y5⟩ := ShC.cells hSw.c; go_simp; try with_reducible rfl)
          try simp only [Act.put, List.setIfInBounds_toArray, List.set_cons_zero, List.set_cons_succ]
          refine wpAnyH_take (i := 6) (oi := { dst := some 26, op := Go.Op.extract (Go.Operand.tmp 20) 1, type := 26, pos := "law.go:16", after := #[{ on := 4, ground := Go.Ground.data }, { on := 8, ground := Go.Ground.gcOnly Go.Departure.lateStores }], guard := none }) (v := ?_) rfl (by kernel_rfl) (by kernel_rfl) (by kernel_rfl) (fun _ _ _ h => h) (Or.inl ⟨by rfl, ?_⟩) hS98 ?_
          rotate_left
          · (intro wq hSw; obtain ⟨⟨y0, y1, y2⟩, y3, y4, y5⟩ := ShC.cells hSw.c; go_simp; try with_reducible rfl)
          try simp only [Act.put, List.setIfInBounds_toArray, List.set_cons_zero, List.set_cons_succ]
          refine wpAnyH_ready (rs := [8]) (by kernel_rfl) (by simp) ?_
          refine AllReadyH.cons (o := { dst := none, op := Go.Op.store 24 (Go.Operand.tmp 5) (Go.Operand.tmp 25), type := 0, pos := "law.go:16", after := #[{ on := 7, ground := Go.Ground.data }, { on := 5, ground := Go.Ground.data }, { on := 3, ground := Go.Ground.chain }, { on := 0, ground := Go.Ground.phase }, { on := 1, ground := Go.Ground.phase }, { on := 2, ground := Go.Ground.phase }, { on := 3, ground := Go.Ground.phase }, { on := 4, ground := Go.Ground.phase }, { on := 5, ground := Go.Ground.phase }, { on := 6, ground := Go.Ground.textOnly Go.Departure.lateStores }, { on := 7, ground := Go.Ground.phase }], guard := none }) rfl (fun K hK => ?_) AllReadyH.nil
          have hz102 : BoxL we99 we72.heap.size Lab.zero := (((boxZ_new we72).more hb97).more hb100)
          obtain ⟨g0, g1, g2⟩ := hz102.lab
          obtain ⟨fg0, fg1, fg2⟩ := hz102.frozen
          go_simp
          refine hK.out _ _ (ShD.set3 (Y := we72.heap.size) hS71 (Nat.le_refl _) hS98) (fun hS101 => ?_)
          clear hK K g0 g1 g2 fg0 fg1 fg2
          try simp only [Act.put, List.setIfInBounds_toArray, List.set_cons_zero, List.set_cons_succ]
          refine wpAnyH_take (i := 9) (oi := { dst := some 6, op := Go.Op.assign (Go.Operand.tmp 26), type := 26, pos := "law.go:16", after := #[{ on := 6, ground := Go.Ground.data }, { on := 8, ground := Go.Ground.chain }, { on := 0, ground := Go.Ground.phase }, { on := 1, ground := Go.Ground.phase }, { on := 2, ground := Go.Ground.phase }, { on := 3, ground := Go.Ground.phase }, { on := 4, ground := Go.Ground.phase }, { on := 5, ground := Go.Ground.phase }, { on := 6, ground := Go.Ground.phase }, { on := 7, ground := Go.Ground.phase }, { on := 8, ground := Go.Ground.phase }], guard := none }) (v := ?_) rfl (by kernel_rfl) (by kernel_rfl) (by kernel_rfl) (fun _ _ _ h => h) (Or.inl ⟨by rfl, ?_⟩) hS101 ?_
          rotate_left
          · (intro wq hSw; obtain ⟨⟨y0, y1, y2⟩, y3, y4, y5⟩ := ShC.cells hSw.c; go_simp; try with_reducible rfl)
          try simp only [Act.put, List.setIfInBounds_toArray, List.set_cons_zero, List.set_cons_succ]
          refine wpAnyH_done (by kernel_rfl) ?_ _
          replace D := Lib.hid hS101
          obtain ⟨V103, hV103⟩ : ∃ Vx, (((we99.setCell ⟨we72.heap.size, 0, none⟩ (.int .i64 0)).setCell ⟨we72.heap.size, 1, none⟩ (.int .u64 0)).setCell ⟨we72.heap.size, 2, none⟩ (.int .i64 0)) = Vx := ⟨_, rfl⟩
          rw [hV103] at D ⊢
          clear hV103 hz102 hS101 hb100 hS98 hb97 hS95 hS94 hb73 hS71 hS70
          go_wp2
          obtain ⟨⟨a0, a1, a2⟩, b0, b1, b2⟩ := D.out.c.cells
          replace a0 := cell_regrown a0
          replace a1 := cell_regrown a1
          replace a2 := cell_regrown a2
          clear b0 b1 b2
          have cB : ∀ d os, Calls Tryd.prog 27 #[] (grow (redrawn V103 d) os) fun e w'' => e = .returned (.agg #[.int .i64 0, .int .u64 0, .int .i64 7]) ∧ ∃ p : Regrown, w'' = grow (redrawn V103 p.d) p.os := fun d os => Calls.regrown_of (bottom_any _)
          have cS := rg_be (V := V103) fun W hb => csh3 H (HE.out.more (below_more D.out.c.b hb))
          refine wp_region_quiet_below (by kernel_rfl) (by kernel_rfl) ?_
          repeat (quiet_step (with_reducible (first | exact cB _ _ | exact cS _ _)))
          refine wpQuiet_nil ?_
          intro _ hw'
          obtain ⟨⟨dq, osq⟩, hw''⟩ := hw'
          subst hw''
          clear cB cS a0 a1 a2
          have Dn := Lib.hid (ShD.more D.out (below_regrown V103 dq osq))
          obtain ⟨V104, hV104⟩ : ∃ V2, grow (redrawn V103 dq) osq = V2 := ⟨_, rfl⟩
          rw [hV104] at Dn ⊢
          clear hV104 D
          have D := Lib.hid Dn.out
          clear Dn
          go_wp2
          obtain ⟨⟨a0, a1, a2⟩, b0, b1, b2⟩ := D.out.c.cells
          replace a0 := cell_regrown a0
          replace a1 := cell_regrown a1
          replace a2 := cell_regrown a2
          clear b0 b1 b2
          have cB : ∀ d os, Calls Tryd.prog 27 #[] (grow (redrawn V104 d) os) fun e w'' => e = .returned (.agg #[.int .i64 0, .int .u64 0, .int .i64 7]) ∧ ∃ p : Regrown, w'' = grow (redrawn V104 p.d) p.os := fun d os => Calls.regrown_of (bottom_any _)
          have cS := rg_be (V := V104) fun W hb => csh4 H (HE.out.more (below_more D.out.c.b hb))
          refine wp_region_quiet_below (by kernel_rfl) (by kernel_rfl) ?_
          repeat (quiet_step (with_reducible (first | exact cB _ _ | exact cS _ _)))
          refine wpQuiet_nil ?_
          intro _ hw'
          obtain ⟨⟨dq, osq⟩, hw''⟩ := hw'
          subst hw''
          clear cB cS a0 a1 a2
          have Dn := Lib.hid (ShD.more D.out (below_regrown V104 dq osq))
          obtain ⟨V105, hV105⟩ : ∃ V2, grow (redrawn V104 dq) osq = V2 := ⟨_, rfl⟩
          rw [hV105] at Dn ⊢
          clear hV105 D
          have D := Lib.hid Dn.out
          clear Dn
          go_wp2
          obtain ⟨⟨a0, a1, a2⟩, b0, b1, b2⟩ := D.out.c.cells
          replace a0 := cell_regrown a0
          replace a1 := cell_regrown a1
          replace a2 := cell_regrown a2
          clear b0 b1 b2
          obtain ⟨x0, x1, x2⟩ := D.out.xs
          replace x0 := cell_regrown x0
          replace x1 := cell_regrown x1
          replace x2 := cell_regrown x2
          have cB : ∀ d os, Calls Tryd.prog 27 #[] (grow (redrawn V105 d) os) fun e w'' => e = .returned (.agg #[.int .i64 0, .int .u64 0, .int .i64 7]) ∧ ∃ p : Regrown, w'' = grow (redrawn V105 p.d) p.os := fun d os => Calls.regrown_of (bottom_any _)
          have cR := rg_bool (V := V105) fun W hb => csh5 H (HE.out.more (below_more D.out.c.b hb))
          have cW := rg_bool (V := V105) fun W hb => csh6 H (HE.out.more (below_more D.out.c.b hb))
          refine wp_region_quiet_below (by kernel_rfl) (by kernel_rfl) ?_
          repeat (quiet_step (with_reducible (first | exact cB _ _ | exact cR _ _ | exact cW _ _)))
          refine wpQuiet_nil ?_
          intro _ hw'
          obtain ⟨⟨dq, osq⟩, hw''⟩ := hw'
          subst hw''
          go_wp2
          go_ret
          exact ⟨rfl, below_more D.out.c.b (below_regrown V105 dq osq)⟩
      · skip
        go_simp
        refine hK.out _ _ (ShD.more hS70 (Below.new V68.drew (.cells #[.int .i64 0, .int .u64 0, .int .i64 0] 24))) (fun hS106 => ?_)
        clear hK K
        try simp only [Act.put, List.setIfInBounds_toArray, List.set_cons_zero, List.set_cons_succ]
        refine wpAnyH_ready (rs := [0]) (by kernel_rfl) (by simp) ?_
        refine AllReadyH.cons (o := { dst := some 21, op := Go.Op.call { callee := Go.Callee.value (Go.Operand.func 27), args := #[], argTypes := #[] }, type := 24, pos := "law.go:16", after := #[], guard := none }) rfl (fun K hK => ?_) AllReadyH.nil
        go_simp
        refine (bottom_any _).mono ?_
        rintro e we108 ⟨rfl, hb109⟩
        refine hK.out _ _ (ShD.more hS106 hb109) (fun hS107 => ?_)
        clear hK K
        try simp only [Act.put, List.setIfInBounds_toArray, List.set_cons_zero, List.set_cons_succ]
        refine wpAnyH_ready (rs := [1]) (by kernel_rfl) (by simp) ?_
        refine AllReadyH.cons (o := { dst := some 22, op := Go.Op.call { callee := Go.Callee.value (Go.Operand.func 28), args := #[], argTypes := #[] }, type := 24, pos := "law.go:16", after := #[{ on := 0, ground := Go.Ground.chain }], guard := none }) rfl (fun K hK => ?_) AllReadyH.nil
        go_simp
        refine (top_any _).mono ?_
        rintro e we111 ⟨rfl, hb112⟩
        refine hK.out _ _ (ShD.more hS107 hb112) (fun hS110 => ?_)
        clear hK K
        try simp only [Act.put, List.setIfInBounds_toArray, List.set_cons_zero, List.set_cons_succ]
        refine wpAnyH_ready (rs := [3]) (by kernel_rfl) (by simp) ?_
        refine AllReadyH.cons (o := { dst := some 24, op := Go.Op.call { callee := Go.Callee.value (Go.Operand.func 12), args := #[Go.Operand.tmp 21, Go.Operand.tmp 22, Go.Operand.tmp 23], argTypes := #[24, 24, 24] }, type := 27, pos := "law.go:16", after := #[{ on := 0, ground := Go.Ground.data }, { on := 1, ground := Go.Ground.data }, { on := 2, ground := Go.Ground.data }, { on := 1, ground := Go.Ground.chain }], guard := none }) rfl (fun K hK => ?_) AllReadyH.nil
        go_simp
        refine (csh2 H (HE.out.more hS110.c.b)).mono ?_
        rintro e we114 ⟨rfl, hb115⟩
        refine hK.out _ _ (ShD.more hS110 hb115) (fun hS113 => ?_)
        clear hK K
        try simp only [Act.put, List.setIfInBounds_toArray, List.set_cons_zero, List.set_cons_succ]
        refine wpAnyH_take (i := 4) (oi := { dst := some 20, op := Go.Op.move (Go.Operand.tmp 24), type := 27, pos := "law.go:16", after := #[{ on := 3, ground := Go.Ground.data }], guard := none }) (v := ?_) rfl (by kernel_rfl) (by kernel_rfl) (by kernel_rfl) (fun _ _ _ h => h) (Or.inl ⟨by rfl, ?_⟩) hS113 ?_
        rotate_left
        · (intro wq hSw; obtain ⟨⟨y0, y1, y2⟩, y3, y4, y5⟩ := ShC.cells hSw.c; go_simp; try with_reducible rfl)
        try simp only [Act.put, List.setIfInBounds_toArray, List.set_cons_zero, List.set_cons_succ]
        refine wpAnyH_take (i := 5) (oi := { dst := some 25, op := Go.Op.extract (Go.Operand.tmp 20) 0, type := 24, pos := "law.go:16", after := #[{ on := 4, ground := Go.Ground.data }], guard := none }) (v := ?_) rfl (by kernel_rfl) (by kernel_rfl) (by kernel_rfl) (fun _ _ _ h => h) (Or.inl ⟨by rfl, ?_⟩) hS113 ?_
        rotate_left
        · (intro wq hSw; obtain ⟨⟨y0, y1, y2⟩, y3, y4, y5⟩ := ShC.cells hSw.c; go_simp; try with_reducible rfl)
        try simp only [Act.put, List.setIfInBounds_toArray, List.set_cons_zero, List.set_cons_succ]
        refine wpAnyH_take (i := 6) (oi := { dst := some 26, op := Go.Op.extract (Go.Operand.tmp 20) 1, type := 26, pos := "law.go:16", after := #[{ on := 4, ground := Go.Ground.data }, { on := 8, ground := Go.Ground.gcOnly Go.Departure.lateStores }], guard := none }) (v := ?_) rfl (by kernel_rfl) (by kernel_rfl) (by kernel_rfl) (fun _ _ _ h => h) (Or.inl ⟨by rfl, ?_⟩) hS113 ?_
        rotate_left
        · (intro wq hSw; obtain ⟨⟨y0, y1, y2⟩, y3, y4, y5⟩ := ShC.cells hSw.c; go_simp; try with_reducible rfl)
        try simp only [Act.put, List.setIfInBounds_toArray, List.set_cons_zero, List.set_cons_succ]
        refine wpAnyH_ready (rs := [8]) (by kernel_rfl) (by simp) ?_
        refine AllReadyH.cons (o := { dst := none, op := Go.Op.store 24 (Go.Operand.tmp 5) (Go.Operand.tmp 25), type := 0, pos := "law.go:16", after := #[{ on := 7, ground := Go.Ground.data }, { on := 5, ground := Go.Ground.data }, { on := 3, ground := Go.Ground.chain }, { on := 0, ground := Go.Ground.phase }, { on := 1, ground := Go.Ground.phase }, { on := 2, ground := Go.Ground.phase }, { on := 3, ground := Go.Ground.phase }, { on := 4, ground := Go.Ground.phase }, { on := 5, ground := Go.Ground.phase }, { on := 6, ground := Go.Ground.textOnly Go.Departure.lateStores }, { on := 7, ground := Go.Ground.phase }], guard := none }) rfl (fun K hK => ?_) AllReadyH.nil
        have hz117 : BoxL we114 V68.heap.size Lab.zero := ((((boxZ_new V68.drew).more hb109).more hb112).more hb115)
        obtain ⟨g0, g1, g2⟩ := hz117.lab
        obtain ⟨fg0, fg1, fg2⟩ := hz117.frozen
        go_simp
        refine hK.out _ _ (ShD.set3 (Y := V68.heap.size) hS70 (Nat.le_refl _) hS113) (fun hS116 => ?_)
        clear hK K g0 g1 g2 fg0 fg1 fg2
        try simp only [Act.put, List.setIfInBounds_toArray, List.set_cons_zero, List.set_cons_succ]
        refine wpAnyH_take (i := 9) (oi := { dst := some 6, op := Go.Op.assign (Go.Operand.tmp 26), type := 26, pos := "law.go:16", after := #[{ on := 6, ground := Go.Ground.data }, { on := 8, ground := Go.Ground.chain }, { on := 0, ground := Go.Ground.phase }, { on := 1, ground := Go.Ground.phase }, { on := 2, ground := Go.Ground.phase }, { on := 3, ground := Go.Ground.phase }, { on := 4, ground := Go.Ground.phase }, { on := 5, ground := Go.Ground.phase }, { on := 6, ground := Go.Ground.phase }, { on := 7, ground := Go.Ground.phase }, { on := 8, ground := Go.Ground.phase }], guard := none }) (v := ?_) rfl (by kernel_rfl) (by kernel_rfl) (by kernel_rfl) (fun _ _ _ h => h) (Or.inl ⟨by rfl, ?_⟩) hS116 ?_
        rotate_left
        · (intro wq hSw; obtain ⟨⟨y0, y1, y2⟩, y3, y4, y5⟩ := ShC.cells hSw.c; go_simp; try with_reducible rfl)
        try simp only [Act.put, List.setIfInBounds_toArray, List.set_cons_zero, List.set_cons_succ]
        refine wpAnyH_done (by kernel_rfl) ?_ _
        replace D := Lib.hid hS116
        obtain ⟨V118, hV118⟩ : ∃ Vx, (((we114.setCell ⟨V68.heap.size, 0, none⟩ (.int .i64 0)).setCell ⟨V68.heap.size, 1, none⟩ (.int .u64 0)).setCell ⟨V68.heap.size, 2, none⟩ (.int .i64 0)) = Vx := ⟨_, rfl⟩
        rw [hV118] at D ⊢
        clear hV118 hz117 hS116 hb115 hS113 hb112 hS110 hb109 hS107 hS106 hS70
        go_wp2
        obtain ⟨⟨a0, a1, a2⟩, b0, b1, b2⟩ := D.out.c.cells
        replace a0 := cell_regrown a0
        replace a1 := cell_regrown a1
        replace a2 := cell_regrown a2
        clear b0 b1 b2
        have cB : ∀ d os, Calls Tryd.prog 27 #[] (grow (redrawn V118 d) os) fun e w'' => e = .returned (.agg #[.int .i64 0, .int .u64 0, .int .i64 7]) ∧ ∃ p : Regrown, w'' = grow (redrawn V118 p.d) p.os := fun d os => Calls.regrown_of (bottom_any _)
        have cS := rg_be (V := V118) fun W hb => csh3 H (HE.out.more (below_more D.out.c.b hb))
        refine wp_region_quiet_below (by kernel_rfl) (by kernel_rfl) ?_
        repeat (quiet_step (with_reducible (first | exact cB _ _ | exact cS _ _)))
        refine wpQuiet_nil ?_
        intro _ hw'
        obtain ⟨⟨dq, osq⟩, hw''⟩ := hw'
        subst hw''
        clear cB cS a0 a1 a2
        have Dn := Lib.hid (ShD.more D.out (below_regrown V118 dq osq))
        obtain ⟨V119, hV119⟩ : ∃ V2, grow (redrawn V118 dq) osq = V2 := ⟨_, rfl⟩
        rw [hV119] at Dn ⊢
        clear hV119 D
        have D := Lib.hid Dn.out
        clear Dn
        go_wp2
        obtain ⟨⟨a0, a1, a2⟩, b0, b1, b2⟩ := D.out.c.cells
        replace a0 := cell_regrown a0
        replace a1 := cell_regrown a1
        replace a2 := cell_regrown a2
        clear b0 b1 b2
        have cB : ∀ d os, Calls Tryd.prog 27 #[] (grow (redrawn V119 d) os) fun e w'' => e = .returned (.agg #[.int .i64 0, .int .u64 0, .int .i64 7]) ∧ ∃ p : Regrown, w'' = grow (redrawn V119 p.d) p.os := fun d os => Calls.regrown_of (bottom_any _)
        have cS := rg_be (V := V119) fun W hb => csh4 H (HE.out.more (below_more D.out.c.b hb))
        refine wp_region_quiet_below (by kernel_rfl) (by kernel_rfl) ?_
        repeat (quiet_step (with_reducible (first | exact cB _ _ | exact cS _ _)))
        refine wpQuiet_nil ?_
        intro _ hw'
        obtain ⟨⟨dq, osq⟩, hw''⟩ := hw'
        subst hw''
        clear cB cS a0 a1 a2
        have Dn := Lib.hid (ShD.more D.out (below_regrown V119 dq osq))
        obtain ⟨V120, hV120⟩ : ∃ V2, grow (redrawn V119 dq) osq = V2 := ⟨_, rfl⟩
        rw [hV120] at Dn ⊢
        clear hV120 D
        have D := Lib.hid Dn.out
        clear Dn
        go_wp2
        obtain ⟨⟨a0, a1, a2⟩, b0, b1, b2⟩ := D.out.c.cells
        replace a0 := cell_regrown a0
        replace a1 := cell_regrown a1
        replace a2 := cell_regrown a2
        clear b0 b1 b2
        obtain ⟨x0, x1, x2⟩ := D.out.xs
        replace x0 := cell_regrown x0
        replace x1 := cell_regrown x1
        replace x2 := cell_regrown x2
        have cB : ∀ d os, Calls Tryd.prog 27 #[] (grow (redrawn V120 d) os) fun e w'' => e = .returned (.agg #[.int .i64 0, .int .u64 0, .int .i64 7]) ∧ ∃ p : Regrown, w'' = grow (redrawn V120 p.d) p.os := fun d os => Calls.regrown_of (bottom_any _)
        have cR := rg_bool (V := V120) fun W hb => csh5 H (HE.out.more (below_more D.out.c.b hb))
        have cW := rg_bool (V := V120) fun W hb => csh6 H (HE.out.more (below_more D.out.c.b hb))
        refine wp_region_quiet_below (by kernel_rfl) (by kernel_rfl) ?_
        repeat (quiet_step (with_reducible (first | exact cB _ _ | exact cR _ _ | exact cW _ _)))
        refine wpQuiet_nil ?_
        intro _ hw'
        obtain ⟨⟨dq, osq⟩, hw''⟩ := hw'
        subst hw''
        go_wp2
        go_ret
        exact ⟨rfl, below_more D.out.c.b (below_regrown V120 dq osq)⟩
  · skip
    go_simp
    refine hK.out _ _ (ShD.more hS0 (Below.new V.drew (.cells #[.int .i64 0, .int .u64 0, .int .i64 0] 24))) (fun hS121 => ?_)
    clear hK K
    try simp only [Act.put, List.setIfInBounds_toArray, List.set_cons_zero, List.set_cons_succ]
    refine wpAnyH_ready (rs := [0]) (by kernel_rfl) (by simp) ?_
    refine AllReadyH.cons (o := { dst := some 14, op := Go.Op.call { callee := Go.Callee.value (Go.Operand.func 27), args := #[], argTypes := #[] }, type := 24, pos := "law.go:15", after := #[], guard := none }) rfl (fun K hK => ?_) AllReadyH.nil
    go_simp
    refine (bottom_any _).mono ?_
    rintro e we123 ⟨rfl, hb124⟩
    refine hK.out _ _ (ShD.more hS121 hb124) (fun hS122 => ?_)
    clear hK K
    try simp only [Act.put, List.setIfInBounds_toArray, List.set_cons_zero, List.set_cons_succ]
    refine wpAnyH_ready (rs := [3]) (by kernel_rfl) (by simp) ?_
    refine AllReadyH.cons (o := { dst := some 17, op := Go.Op.call { callee := Go.Callee.value (Go.Operand.func 12), args := #[Go.Operand.tmp 14, Go.Operand.tmp 15, Go.Operand.tmp 16], argTypes := #[24, 24, 24] }, type := 27, pos := "law.go:15", after := #[{ on := 0, ground := Go.Ground.data }, { on := 1, ground := Go.Ground.data }, { on := 2, ground := Go.Ground.data }, { on := 0, ground := Go.Ground.chain }], guard := none }) rfl (fun K hK => ?_) AllReadyH.nil
    go_simp
    refine (csh1 H (HE.out.more hS122.c.b)).mono ?_
    rintro e we126 ⟨rfl, hb127⟩
    refine hK.out _ _ (ShD.more hS122 hb127) (fun hS125 => ?_)
    clear hK K
    try simp only [Act.put, List.setIfInBounds_toArray, List.set_cons_zero, List.set_cons_succ]
    refine wpAnyH_take (i := 4) (oi := { dst := some 13, op := Go.Op.move (Go.Operand.tmp 17), type := 27, pos := "law.go:15", after := #[{ on := 3, ground := Go.Ground.data }], guard := none }) (v := ?_) rfl (by kernel_rfl) (by kernel_rfl) (by kernel_rfl) (fun _ _ _ h => h) (Or.inl ⟨by rfl, ?_⟩) hS125 ?_
    rotate_left
    · (intro wq hSw; obtain ⟨⟨y0, y1, y2⟩, y3, y4, y5⟩ := ShC.cells hSw.c; go_simp; try with_reducible rfl)
    try simp only [Act.put, List.setIfInBounds_toArray, List.set_cons_zero, List.set_cons_succ]
    refine wpAnyH_take (i := 5) (oi := { dst := some 18, op := Go.Op.extract (Go.Operand.tmp 13) 0, type := 24, pos := "law.go:15", after := #[{ on := 4, ground := Go.Ground.data }], guard := none }) (v := ?_) rfl (by kernel_rfl) (by kernel_rfl) (by kernel_rfl) (fun _ _ _ h => h) (Or.inl ⟨by rfl, ?_⟩) hS125 ?_
    rotate_left
    · (intro wq hSw; obtain ⟨⟨y0, y1, y2⟩, y3, y4, y5⟩ := ShC.cells hSw.c; go_simp; try with_reducible rfl)
    try simp only [Act.put, List.setIfInBounds_toArray, List.set_cons_zero, List.set_cons_succ]
    refine wpAnyH_take (i := 6) (oi := { dst := some 19, op := Go.Op.extract (Go.Operand.tmp 13) 1, type := 26, pos := "law.go:15", after := #[{ on := 4, ground := Go.Ground.data }, { on := 8, ground := Go.Ground.gcOnly Go.Departure.lateStores }], guard := none }) (v := ?_) rfl (by kernel_rfl) (by kernel_rfl) (by kernel_rfl) (fun _ _ _ h => h) (Or.inl ⟨by rfl, ?_⟩) hS125 ?_
    rotate_left
    · (intro wq hSw; obtain ⟨⟨y0, y1, y2⟩, y3, y4, y5⟩ := ShC.cells hSw.c; go_simp; try with_reducible rfl)
    try simp only [Act.put, List.setIfInBounds_toArray, List.set_cons_zero, List.set_cons_succ]
    refine wpAnyH_ready (rs := [8]) (by kernel_rfl) (by simp) ?_
    refine AllReadyH.cons (o := { dst := none, op := Go.Op.store 24 (Go.Operand.tmp 3) (Go.Operand.tmp 18), type := 0, pos := "law.go:15", after := #[{ on := 7, ground := Go.Ground.data }, { on := 5, ground := Go.Ground.data }, { on := 3, ground := Go.Ground.chain }, { on := 0, ground := Go.Ground.phase }, { on := 1, ground := Go.Ground.phase }, { on := 2, ground := Go.Ground.phase }, { on := 3, ground := Go.Ground.phase }, { on := 4, ground := Go.Ground.phase }, { on := 5, ground := Go.Ground.phase }, { on := 6, ground := Go.Ground.textOnly Go.Departure.lateStores }, { on := 7, ground := Go.Ground.phase }], guard := none }) rfl (fun K hK => ?_) AllReadyH.nil
    have hz129 : BoxL we126 V.heap.size Lab.zero := (((boxZ_new V.drew).more hb124).more hb127)
    obtain ⟨g0, g1, g2⟩ := hz129.lab
    obtain ⟨fg0, fg1, fg2⟩ := hz129.frozen
    go_simp
    refine hK.out _ _ (ShD.set3 (Y := V.heap.size) hS0 (Nat.le_refl _) hS125) (fun hS128 => ?_)
    clear hK K g0 g1 g2 fg0 fg1 fg2
    try simp only [Act.put, List.setIfInBounds_toArray, List.set_cons_zero, List.set_cons_succ]
    refine wpAnyH_take (i := 9) (oi := { dst := some 4, op := Go.Op.assign (Go.Operand.tmp 19), type := 26, pos := "law.go:15", after := #[{ on := 6, ground := Go.Ground.data }, { on := 8, ground := Go.Ground.chain }, { on := 0, ground := Go.Ground.phase }, { on := 1, ground := Go.Ground.phase }, { on := 2, ground := Go.Ground.phase }, { on := 3, ground := Go.Ground.phase }, { on := 4, ground := Go.Ground.phase }, { on := 5, ground := Go.Ground.phase }, { on := 6, ground := Go.Ground.phase }, { on := 7, ground := Go.Ground.phase }, { on := 8, ground := Go.Ground.phase }], guard := none }) (v := ?_) rfl (by kernel_rfl) (by kernel_rfl) (by kernel_rfl) (fun _ _ _ h => h) (Or.inl ⟨by rfl, ?_⟩) hS128 ?_
    rotate_left
    · (intro wq hSw; obtain ⟨⟨y0, y1, y2⟩, y3, y4, y5⟩ := ShC.cells hSw.c; go_simp; try with_reducible rfl)
    try simp only [Act.put, List.setIfInBounds_toArray, List.set_cons_zero, List.set_cons_succ]
    refine wpAnyH_done (by kernel_rfl) ?_ _
    replace D := Lib.hid (show ShD w V.heap.size (((we126.setCell ⟨V.heap.size, 0, none⟩ (.int .i64 2)).setCell ⟨V.heap.size, 1, none⟩ (.int .u64 1)).setCell ⟨V.heap.size, 2, none⟩ (.int .i64 5)) from ⟨hS128.c, (hz129.set aS)⟩)
    obtain ⟨V130, hV130⟩ : ∃ Vx, (((we126.setCell ⟨V.heap.size, 0, none⟩ (.int .i64 2)).setCell ⟨V.heap.size, 1, none⟩ (.int .u64 1)).setCell ⟨V.heap.size, 2, none⟩ (.int .i64 5)) = Vx := ⟨_, rfl⟩
    obtain ⟨X131, hX131⟩ : ∃ Xx, V.heap.size = Xx := ⟨_, rfl⟩
    rw [hV130, hX131] at D
    rw [hV130, hX131]
    clear hV130 hX131 hz129 hS128 hb127 hS125 hb124 hS122 hS121 hS0
    go_wp2
    refine wp_region_held_drew (S := ShD w X131) (by kernel_rfl) (D.out.more ((Below.refl _ V130).drew)) (fun hS132 => ?_)
    refine wpAnyH_take (i := 2) (oi := { dst := some 23, op := Go.Op.load 24 (Go.Operand.tmp 2), type := 24, pos := "law.go:16", after := #[], guard := none }) (v := ?_) rfl (by kernel_rfl) (by kernel_rfl) (by kernel_rfl) (fun _ _ _ h => h) (Or.inl ⟨by rfl, ?_⟩) hS132 ?_
    rotate_left
    · (intro wq hSw; obtain ⟨⟨y0, y1, y2⟩, y3, y4, y5⟩ := ShC.cells hSw.c; go_simp; try with_reducible rfl)
    try simp only [Act.put, List.setIfInBounds_toArray, List.set_cons_zero, List.set_cons_succ]
    refine wpAnyH_ready (rs := [0, 7]) (by kernel_rfl) (by simp) ?_
    refine AllReadyH.cons (o := { dst := some 21, op := Go.Op.call { callee := Go.Callee.value (Go.Operand.func 27), args := #[], argTypes := #[] }, type := 24, pos := "law.go:16", after := #[], guard := none }) rfl (fun K hK => ?_) (AllReadyH.cons (o := { dst := some 5, op := Go.Op.alloc 24, type := 0, pos := "law.go:16", after := #[], guard := none }) rfl (fun K hK => ?_) AllReadyH.nil)
    · skip
      go_simp
      refine (bottom_any _).mono ?_
      rintro e we134 ⟨rfl, hb135⟩
      refine hK.out _ _ (ShD.more hS132 hb135) (fun hS133 => ?_)
      clear hK K
      try simp only [Act.put, List.setIfInBounds_toArray, List.set_cons_zero, List.set_cons_succ]
      refine wpAnyH_ready (rs := [1, 7]) (by kernel_rfl) (by simp) ?_
      refine AllReadyH.cons (o := { dst := some 22, op := Go.Op.call { callee := Go.Callee.value (Go.Operand.func 28), args := #[], argTypes := #[] }, type := 24, pos := "law.go:16", after := #[{ on := 0, ground := Go.Ground.chain }], guard := none }) rfl (fun K hK => ?_) (AllReadyH.cons (o := { dst := some 5, op := Go.Op.alloc 24, type := 0, pos := "law.go:16", after := #[], guard := none }) rfl (fun K hK => ?_) AllReadyH.nil)
      · skip
        go_simp
        refine (top_any _).mono ?_
        rintro e we137 ⟨rfl, hb138⟩
        refine hK.out _ _ (ShD.more hS133 hb138) (fun hS136 => ?_)
        clear hK K
        try simp only [Act.put, List.setIfInBounds_toArray, List.set_cons_zero, List.set_cons_succ]
        refine wpAnyH_ready (rs := [3, 7]) (by kernel_rfl) (by simp) ?_
        refine AllReadyH.cons (o := { dst := some 24, op := Go.Op.call { callee := Go.Callee.value (Go.Operand.func 12), args := #[Go.Operand.tmp 21, Go.Operand.tmp 22, Go.Operand.tmp 23], argTypes := #[24, 24, 24] }, type := 27, pos := "law.go:16", after := #[{ on := 0, ground := Go.Ground.data }, { on := 1, ground := Go.Ground.data }, { on := 2, ground := Go.Ground.data }, { on := 1, ground := Go.Ground.chain }], guard := none }) rfl (fun K hK => ?_) (AllReadyH.cons (o := { dst := some 5, op := Go.Op.alloc 24, type := 0, pos := "law.go:16", after := #[], guard := none }) rfl (fun K hK => ?_) AllReadyH.nil)
        · skip
          go_simp
          refine (csh2 H (HE.out.more hS136.c.b)).mono ?_
          rintro e we140 ⟨rfl, hb141⟩
          refine hK.out _ _ (ShD.more hS136 hb141) (fun hS139 => ?_)
          clear hK K
          try simp only [Act.put, List.setIfInBounds_toArray, List.set_cons_zero, List.set_cons_succ]
          refine wpAnyH_take (i := 4) (oi := { dst := some 20, op := Go.Op.move (Go.Operand.tmp 24), type := 27, pos := "law.go:16", after := #[{ on := 3, ground := Go.Ground.data }], guard := none }) (v := ?_) rfl (by kernel_rfl) (by kernel_rfl) (by kernel_rfl) (fun _ _ _ h => h) (Or.inl ⟨by rfl, ?_⟩) hS139 ?_
          rotate_left
          · (intro wq hSw; obtain ⟨⟨y0, y1, y2⟩, y3, y4, y5⟩ := ShC.cells hSw.c; go_simp; try with_reducible rfl)
          try simp only [Act.put, List.setIfInBounds_toArray, List.set_cons_zero, List.set_cons_succ]
          refine wpAnyH_take (i := 5) (oi := { dst := some 25, op := Go.Op.extract (Go.Operand.tmp 20) 0, type := 24, pos := "law.go:16", after := #[{ on := 4, ground := Go.Ground.data }], guard := none }) (v := ?_) rfl (by kernel_rfl) (by kernel_rfl) (by kernel_rfl) (fun _ _ _ h => h) (Or.inl ⟨by rfl, ?_⟩) hS139 ?_
          rotate_left
          · (intro wq hSw; obtain ⟨⟨y0, y1, y2⟩, y3, y4, y5⟩ := ShC.cells hSw.c; go_simp; try with_reducible rfl)
          try simp only [Act.put, List.setIfInBounds_toArray, List.set_cons_zero, List.set_cons_succ]
          refine wpAnyH_take (i := 6) (oi := { dst := some 26, op := Go.Op.extract (Go.Operand.tmp 20) 1, type := 26, pos := "law.go:16", after := #[{ on := 4, ground := Go.Ground.data }, { on := 8, ground := Go.Ground.gcOnly Go.Departure.lateStores }], guard := none }) (v := ?_) rfl (by kernel_rfl) (by kernel_rfl) (by kernel_rfl) (fun _ _ _ h => h) (Or.inl ⟨by rfl, ?_⟩) hS139 ?_
          rotate_left
          · (intro wq hSw; obtain ⟨⟨y0, y1, y2⟩, y3, y4, y5⟩ := ShC.cells hSw.c; go_simp; try with_reducible rfl)
          try simp only [Act.put, List.setIfInBounds_toArray, List.set_cons_zero, List.set_cons_succ]
          refine wpAnyH_ready (rs := [7]) (by kernel_rfl) (by simp) ?_
          refine AllReadyH.cons (o := { dst := some 5, op := Go.Op.alloc 24, type := 0, pos := "law.go:16", after := #[], guard := none }) rfl (fun K hK => ?_) AllReadyH.nil
          go_simp
          refine hK.out _ _ (ShD.more hS139 (Below.new _ _)) (fun hS142 => ?_)
          clear hK K
          try simp only [Act.put, List.setIfInBounds_toArray, List.set_cons_zero, List.set_cons_succ]
          refine wpAnyH_ready (rs := [8]) (by kernel_rfl) (by simp) ?_
          refine AllReadyH.cons (o := { dst := none, op := Go.Op.store 24 (Go.Operand.tmp 5) (Go.Operand.tmp 25), type := 0, pos := "law.go:16", after := #[{ on := 7, ground := Go.Ground.data }, { on := 5, ground := Go.Ground.data }, { on := 3, ground := Go.Ground.chain }, { on := 0, ground := Go.Ground.phase }, { on := 1, ground := Go.Ground.phase }, { on := 2, ground := Go.Ground.phase }, { on := 3, ground := Go.Ground.phase }, { on := 4, ground := Go.Ground.phase }, { on := 5, ground := Go.Ground.phase }, { on := 6, ground := Go.Ground.textOnly Go.Departure.lateStores }, { on := 7, ground := Go.Ground.phase }], guard := none }) rfl (fun K hK => ?_) AllReadyH.nil
          go_simp
          refine hK.out _ _ (ShD.more hS139 (Below.new we140 (.cells #[.int .i64 0, .int .u64 0, .int .i64 0] 24))) (fun hS143 => ?_)
          clear hK K
          try simp only [Act.put, List.setIfInBounds_toArray, List.set_cons_zero, List.set_cons_succ]
          refine wpAnyH_take (i := 9) (oi := { dst := some 6, op := Go.Op.assign (Go.Operand.tmp 26), type := 26, pos := "law.go:16", after := #[{ on := 6, ground := Go.Ground.data }, { on := 8, ground := Go.Ground.chain }, { on := 0, ground := Go.Ground.phase }, { on := 1, ground := Go.Ground.phase }, { on := 2, ground := Go.Ground.phase }, { on := 3, ground := Go.Ground.phase }, { on := 4, ground := Go.Ground.phase }, { on := 5, ground := Go.Ground.phase }, { on := 6, ground := Go.Ground.phase }, { on := 7, ground := Go.Ground.phase }, { on := 8, ground := Go.Ground.phase }], guard := none }) (v := ?_) rfl (by kernel_rfl) (by kernel_rfl) (by kernel_rfl) (fun _ _ _ h => h) (Or.inl ⟨by rfl, ?_⟩) hS143 ?_
          rotate_left
          · (intro wq hSw; obtain ⟨⟨y0, y1, y2⟩, y3, y4, y5⟩ := ShC.cells hSw.c; go_simp; try with_reducible rfl)
          try simp only [Act.put, List.setIfInBounds_toArray, List.set_cons_zero, List.set_cons_succ]
          refine wpAnyH_done (by kernel_rfl) ?_ _
          replace D := Lib.hid hS143
          obtain ⟨V144, hV144⟩ : ∃ Vx, (we140.alloc (.cells #[.int .i64 0, .int .u64 0, .int .i64 0] 24)) = Vx := ⟨_, rfl⟩
          rw [hV144] at D ⊢
          clear hV144 hS143 hS142 hb141 hS139 hb138 hS136 hb135 hS133 hS132
          go_wp2
          obtain ⟨⟨a0, a1, a2⟩, b0, b1, b2⟩ := D.out.c.cells
          replace a0 := cell_regrown a0
          replace a1 := cell_regrown a1
          replace a2 := cell_regrown a2
          clear b0 b1 b2
          have cB : ∀ d os, Calls Tryd.prog 27 #[] (grow (redrawn V144 d) os) fun e w'' => e = .returned (.agg #[.int .i64 0, .int .u64 0, .int .i64 7]) ∧ ∃ p : Regrown, w'' = grow (redrawn V144 p.d) p.os := fun d os => Calls.regrown_of (bottom_any _)
          have cS := rg_be (V := V144) fun W hb => csh3 H (HE.out.more (below_more D.out.c.b hb))
          refine wp_region_quiet_below (by kernel_rfl) (by kernel_rfl) ?_
          repeat (quiet_step (with_reducible (first | exact cB _ _ | exact cS _ _)))
          refine wpQuiet_nil ?_
          intro _ hw'
          obtain ⟨⟨dq, osq⟩, hw''⟩ := hw'
          subst hw''
          clear cB cS a0 a1 a2
          have Dn := Lib.hid (ShD.more D.out (below_regrown V144 dq osq))
          obtain ⟨V145, hV145⟩ : ∃ V2, grow (redrawn V144 dq) osq = V2 := ⟨_, rfl⟩
          rw [hV145] at Dn ⊢
          clear hV145 D
          have D := Lib.hid Dn.out
          clear Dn
          go_wp2
          obtain ⟨⟨a0, a1, a2⟩, b0, b1, b2⟩ := D.out.c.cells
          replace a0 := cell_regrown a0
          replace a1 := cell_regrown a1
          replace a2 := cell_regrown a2
          clear b0 b1 b2
          have cB : ∀ d os, Calls Tryd.prog 27 #[] (grow (redrawn V145 d) os) fun e w'' => e = .returned (.agg #[.int .i64 0, .int .u64 0, .int .i64 7]) ∧ ∃ p : Regrown, w'' = grow (redrawn V145 p.d) p.os := fun d os => Calls.regrown_of (bottom_any _)
          have cS := rg_be (V := V145) fun W hb => csh4 H (HE.out.more (below_more D.out.c.b hb))
          refine wp_region_quiet_below (by kernel_rfl) (by kernel_rfl) ?_
          repeat (quiet_step (with_reducible (first | exact cB _ _ | exact cS _ _)))
          refine wpQuiet_nil ?_
          intro _ hw'
          obtain ⟨⟨dq, osq⟩, hw''⟩ := hw'
          subst hw''
          clear cB cS a0 a1 a2
          have Dn := Lib.hid (ShD.more D.out (below_regrown V145 dq osq))
          obtain ⟨V146, hV146⟩ : ∃ V2, grow (redrawn V145 dq) osq = V2 := ⟨_, rfl⟩
          rw [hV146] at Dn ⊢
          clear hV146 D
          have D := Lib.hid Dn.out
          clear Dn
          go_wp2
          obtain ⟨⟨a0, a1, a2⟩, b0, b1, b2⟩ := D.out.c.cells
          replace a0 := cell_regrown a0
          replace a1 := cell_regrown a1
          replace a2 := cell_regrown a2
          clear b0 b1 b2
          obtain ⟨x0, x1, x2⟩ := D.out.xs
          replace x0 := cell_regrown x0
          replace x1 := cell_regrown x1
          replace x2 := cell_regrown x2
          have cB : ∀ d os, Calls Tryd.prog 27 #[] (grow (redrawn V146 d) os) fun e w'' => e = .returned (.agg #[.int .i64 0, .int .u64 0, .int .i64 7]) ∧ ∃ p : Regrown, w'' = grow (redrawn V146 p.d) p.os := fun d os => Calls.regrown_of (bottom_any _)
          have cR := rg_bool (V := V146) fun W hb => csh5 H (HE.out.more (below_more D.out.c.b hb))
          have cW := rg_bool (V := V146) fun W hb => csh6 H (HE.out.more (below_more D.out.c.b hb))
          refine wp_region_quiet_below (by kernel_rfl) (by kernel_rfl) ?_
          repeat (quiet_step (with_reducible (first | exact cB _ _ | exact cR _ _ | exact cW _ _)))
          refine wpQuiet_nil ?_
          intro _ hw'
          obtain ⟨⟨dq, osq⟩, hw''⟩ := hw'
          subst hw''
          go_wp2
          go_ret
          exact ⟨rfl, below_more D.out.c.b (below_regrown V146 dq osq)⟩
        · skip
          go_simp
          refine hK.out _ _ (ShD.more hS136 (Below.new we137 (.cells #[.int .i64 0, .int .u64 0, .int .i64 0] 24))) (fun hS147 => ?_)
          clear hK K
          try simp only [Act.put, List.setIfInBounds_toArray, List.set_cons_zero, List.set_cons_succ]
          refine wpAnyH_ready (rs := [3]) (by kernel_rfl) (by simp) ?_
          refine AllReadyH.cons (o := { dst := some 24, op := Go.Op.call { callee := Go.Callee.value (Go.Operand.func 12), args := #[Go.Operand.tmp 21, Go.Operand.tmp 22, Go.Operand.tmp 23], argTypes := #[24, 24, 24] }, type := 27, pos := "law.go:16", after := #[{ on := 0, ground := Go.Ground.data }, { on := 1, ground := Go.Ground.data }, { on := 2, ground := Go.Ground.data }, { on := 1, ground := Go.Ground.chain }], guard := none }) rfl (fun K hK => ?_) AllReadyH.nil
          go_simp
          refine (csh2 H (HE.out.more hS147.c.b)).mono ?_
          rintro e we149 ⟨rfl, hb150⟩
          refine hK.out _ _ (ShD.more hS147 hb150) (fun hS148 => ?_)
          clear hK K
          try simp only [Act.put, List.setIfInBounds_toArray, List.set_cons_zero, List.set_cons_succ]
          refine wpAnyH_take (i := 4) (oi := { dst := some 20, op := Go.Op.move (Go.Operand.tmp 24), type := 27, pos := "law.go:16", after := #[{ on := 3, ground := Go.Ground.data }], guard := none }) (v := ?_) rfl (by kernel_rfl) (by kernel_rfl) (by kernel_rfl) (fun _ _ _ h => h) (Or.inl ⟨by rfl, ?_⟩) hS148 ?_
          rotate_left
          · (intro wq hSw; obtain ⟨⟨y0, y1, y2⟩, y3, y4, y5⟩ := ShC.cells hSw.c; go_simp; try with_reducible rfl)
          try simp only [Act.put, List.setIfInBounds_toArray, List.set_cons_zero, List.set_cons_succ]
          refine wpAnyH_take (i := 5) (oi := { dst := some 25, op := Go.Op.extract (Go.Operand.tmp 20) 0, type := 24, pos := "law.go:16", after := #[{ on := 4, ground := Go.Ground.data }], guard := none }) (v := ?_) rfl (by kernel_rfl) (by kernel_rfl) (by kernel_rfl) (fun _ _ _ h => h) (Or.inl ⟨by rfl, ?_⟩) hS148 ?_
          rotate_left
          · (intro wq hSw; obtain ⟨⟨y0, y1, y2⟩, y3, y4, y5⟩ := ShC.cells hSw.c; go_simp; try with_reducible rfl)
          try simp only [Act.put, List.setIfInBounds_toArray, List.set_cons_zero, List.set_cons_succ]
          refine wpAnyH_take (i := 6) (oi := { dst := some 26, op := Go.Op.extract (Go.Operand.tmp 20) 1, type := 26, pos := "law.go:16", after := #[{ on := 4, ground := Go.Ground.data }, { on := 8, ground := Go.Ground.gcOnly Go.Departure.lateStores }], guard := none }) (v := ?_) rfl (by kernel_rfl) (by kernel_rfl) (by kernel_rfl) (fun _ _ _ h => h) (Or.inl ⟨by rfl, ?_⟩) hS148 ?_
          rotate_left
          · (intro wq hSw; obtain ⟨⟨y0, y1, y2⟩, y3, y4, y5⟩ := ShC.cells hSw.c; go_simp; try with_reducible rfl)
          try simp only [Act.put, List.setIfInBounds_toArray, List.set_cons_zero, List.set_cons_succ]
          refine wpAnyH_ready (rs := [8]) (by kernel_rfl) (by simp) ?_
          refine AllReadyH.cons (o := { dst := none, op := Go.Op.store 24 (Go.Operand.tmp 5) (Go.Operand.tmp 25), type := 0, pos := "law.go:16", after := #[{ on := 7, ground := Go.Ground.data }, { on := 5, ground := Go.Ground.data }, { on := 3, ground := Go.Ground.chain }, { on := 0, ground := Go.Ground.phase }, { on := 1, ground := Go.Ground.phase }, { on := 2, ground := Go.Ground.phase }, { on := 3, ground := Go.Ground.phase }, { on := 4, ground := Go.Ground.phase }, { on := 5, ground := Go.Ground.phase }, { on := 6, ground := Go.Ground.textOnly Go.Departure.lateStores }, { on := 7, ground := Go.Ground.phase }], guard := none }) rfl (fun K hK => ?_) AllReadyH.nil
          have hz152 : BoxL we149 we137.heap.size Lab.zero := ((boxZ_new we137).more hb150)
          obtain ⟨g0, g1, g2⟩ := hz152.lab
          obtain ⟨fg0, fg1, fg2⟩ := hz152.frozen
          go_simp
          refine hK.out _ _ (ShD.set3 (Y := we137.heap.size) hS136 (Nat.le_refl _) hS148) (fun hS151 => ?_)
          clear hK K g0 g1 g2 fg0 fg1 fg2
          try simp only [Act.put, List.setIfInBounds_toArray, List.set_cons_zero, List.set_cons_succ]
          refine wpAnyH_take (i := 9) (oi := { dst := some 6, op := Go.Op.assign (Go.Operand.tmp 26), type := 26, pos := "law.go:16", after := #[{ on := 6, ground := Go.Ground.data }, { on := 8, ground := Go.Ground.chain }, { on := 0, ground := Go.Ground.phase }, { on := 1, ground := Go.Ground.phase }, { on := 2, ground := Go.Ground.phase }, { on := 3, ground := Go.Ground.phase }, { on := 4, ground := Go.Ground.phase }, { on := 5, ground := Go.Ground.phase }, { on := 6, ground := Go.Ground.phase }, { on := 7, ground := Go.Ground.phase }, { on := 8, ground := Go.Ground.phase }], guard := none }) (v := ?_) rfl (by kernel_rfl) (by kernel_rfl) (by kernel_rfl) (fun _ _ _ h => h) (Or.inl ⟨by rfl, ?_⟩) hS151 ?_
          rotate_left
          · (intro wq hSw; obtain ⟨⟨y0, y1, y2⟩, y3, y4, y5⟩ := ShC.cells hSw.c; go_simp; try with_reducible rfl)
          try simp only [Act.put, List.setIfInBounds_toArray, List.set_cons_zero, List.set_cons_succ]
          refine wpAnyH_done (by kernel_rfl) ?_ _
          replace D := Lib.hid hS151
          obtain ⟨V153, hV153⟩ : ∃ Vx, (((we149.setCell ⟨we137.heap.size, 0, none⟩ (.int .i64 0)).setCell ⟨we137.heap.size, 1, none⟩ (.int .u64 0)).setCell ⟨we137.heap.size, 2, none⟩ (.int .i64 0)) = Vx := ⟨_, rfl⟩
          rw [hV153] at D ⊢
          clear hV153 hz152 hS151 hb150 hS148 hS147 hb138 hS136 hb135 hS133 hS132
          go_wp2
          obtain ⟨⟨a0, a1, a2⟩, b0, b1, b2⟩ := D.out.c.cells
          replace a0 := cell_regrown a0
          replace a1 := cell_regrown a1
          replace a2 := cell_regrown a2
          clear b0 b1 b2
          have cB : ∀ d os, Calls Tryd.prog 27 #[] (grow (redrawn V153 d) os) fun e w'' => e = .returned (.agg #[.int .i64 0, .int .u64 0, .int .i64 7]) ∧ ∃ p : Regrown, w'' = grow (redrawn V153 p.d) p.os := fun d os => Calls.regrown_of (bottom_any _)
          have cS := rg_be (V := V153) fun W hb => csh3 H (HE.out.more (below_more D.out.c.b hb))
          refine wp_region_quiet_below (by kernel_rfl) (by kernel_rfl) ?_
          repeat (quiet_step (with_reducible (first | exact cB _ _ | exact cS _ _)))
          refine wpQuiet_nil ?_
          intro _ hw'
          obtain ⟨⟨dq, osq⟩, hw''⟩ := hw'
          subst hw''
          clear cB cS a0 a1 a2
          have Dn := Lib.hid (ShD.more D.out (below_regrown V153 dq osq))
          obtain ⟨V154, hV154⟩ : ∃ V2, grow (redrawn V153 dq) osq = V2 := ⟨_, rfl⟩
          rw [hV154] at Dn ⊢
          clear hV154 D
          have D := Lib.hid Dn.out
          clear Dn
          go_wp2
          obtain ⟨⟨a0, a1, a2⟩, b0, b1, b2⟩ := D.out.c.cells
          replace a0 := cell_regrown a0
          replace a1 := cell_regrown a1
          replace a2 := cell_regrown a2
          clear b0 b1 b2
          have cB : ∀ d os, Calls Tryd.prog 27 #[] (grow (redrawn V154 d) os) fun e w'' => e = .returned (.agg #[.int .i64 0, .int .u64 0, .int .i64 7]) ∧ ∃ p : Regrown, w'' = grow (redrawn V154 p.d) p.os := fun d os => Calls.regrown_of (bottom_any _)
          have cS := rg_be (V := V154) fun W hb => csh4 H (HE.out.more (below_more D.out.c.b hb))
          refine wp_region_quiet_below (by kernel_rfl) (by kernel_rfl) ?_
          repeat (quiet_step (with_reducible (first | exact cB _ _ | exact cS _ _)))
          refine wpQuiet_nil ?_
          intro _ hw'
          obtain ⟨⟨dq, osq⟩, hw''⟩ := hw'
          subst hw''
          clear cB cS a0 a1 a2
          have Dn := Lib.hid (ShD.more D.out (below_regrown V154 dq osq))
          obtain ⟨V155, hV155⟩ : ∃ V2, grow (redrawn V154 dq) osq = V2 := ⟨_, rfl⟩
          rw [hV155] at Dn ⊢
          clear hV155 D
          have D := Lib.hid Dn.out
          clear Dn
          go_wp2
          obtain ⟨⟨a0, a1, a2⟩, b0, b1, b2⟩ := D.out.c.cells
          replace a0 := cell_regrown a0
          replace a1 := cell_regrown a1
          replace a2 := cell_regrown a2
          clear b0 b1 b2
          obtain ⟨x0, x1, x2⟩ := D.out.xs
          replace x0 := cell_regrown x0
          replace x1 := cell_regrown x1
          replace x2 := cell_regrown x2
          have cB : ∀ d os, Calls Tryd.prog 27 #[] (grow (redrawn V155 d) os) fun e w'' => e = .returned (.agg #[.int .i64 0, .int .u64 0, .int .i64 7]) ∧ ∃ p : Regrown, w'' = grow (redrawn V155 p.d) p.os := fun d os => Calls.regrown_of (bottom_any _)
          have cR := rg_bool (V := V155) fun W hb => csh5 H (HE.out.more (below_more D.out.c.b hb))
          have cW := rg_bool (V := V155) fun W hb => csh6 H (HE.out.more (below_more D.out.c.b hb))
          refine wp_region_quiet_below (by kernel_rfl) (by kernel_rfl) ?_
          repeat (quiet_step (with_reducible (first | exact cB _ _ | exact cR _ _ | exact cW _ _)))
          refine wpQuiet_nil ?_
          intro _ hw'
          obtain ⟨⟨dq, osq⟩, hw''⟩ := hw'
          subst hw''
          go_wp2
          go_ret
          exact ⟨rfl, below_more D.out.c.b (below_regrown V155 dq osq)⟩
      · skip
        go_simp
        refine hK.out _ _ (ShD.more hS133 (Below.new we134 (.cells #[.int .i64 0, .int .u64 0, .int .i64 0] 24))) (fun hS156 => ?_)
        clear hK K
        try simp only [Act.put, List.setIfInBounds_toArray, List.set_cons_zero, List.set_cons_succ]
        refine wpAnyH_ready (rs := [1]) (by kernel_rfl) (by simp) ?_
        refine AllReadyH.cons (o := { dst := some 22, op := Go.Op.call { callee := Go.Callee.value (Go.Operand.func 28), args := #[], argTypes := #[] }, type := 24, pos := "law.go:16", after := #[{ on := 0, ground := Go.Ground.chain }], guard := none }) rfl (fun K hK => ?_) AllReadyH.nil
        go_simp
        refine (top_any _).mono ?_
        rintro e we158 ⟨rfl, hb159⟩
        refine hK.out _ _ (ShD.more hS156 hb159) (fun hS157 => ?_)
        clear hK K
        try simp only [Act.put, List.setIfInBounds_toArray, List.set_cons_zero, List.set_cons_succ]
        refine wpAnyH_ready (rs := [3]) (by kernel_rfl) (by simp) ?_
        refine AllReadyH.cons (o := { dst := some 24, op := Go.Op.call { callee := Go.Callee.value (Go.Operand.func 12), args := #[Go.Operand.tmp 21, Go.Operand.tmp 22, Go.Operand.tmp 23], argTypes := #[24, 24, 24] }, type := 27, pos := "law.go:16", after := #[{ on := 0, ground := Go.Ground.data }, { on := 1, ground := Go.Ground.data }, { on := 2, ground := Go.Ground.data }, { on := 1, ground := Go.Ground.chain }], guard := none }) rfl (fun K hK => ?_) AllReadyH.nil
        go_simp
        refine (csh2 H (HE.out.more hS157.c.b)).mono ?_
        rintro e we161 ⟨rfl, hb162⟩
        refine hK.out _ _ (ShD.more hS157 hb162) (fun hS160 => ?_)
        clear hK K
        try simp only [Act.put, List.setIfInBounds_toArray, List.set_cons_zero, List.set_cons_succ]
        refine wpAnyH_take (i := 4) (oi := { dst := some 20, op := Go.Op.move (Go.Operand.tmp 24), type := 27, pos := "law.go:16", after := #[{ on := 3, ground := Go.Ground.data }], guard := none }) (v := ?_) rfl (by kernel_rfl) (by kernel_rfl) (by kernel_rfl) (fun _ _ _ h => h) (Or.inl ⟨by rfl, ?_⟩) hS160 ?_
        rotate_left
        · (intro wq hSw; obtain ⟨⟨y0, y1, y2⟩, y3, y4, y5⟩ := ShC.cells hSw.c; go_simp; try with_reducible rfl)
        try simp only [Act.put, List.setIfInBounds_toArray, List.set_cons_zero, List.set_cons_succ]
        refine wpAnyH_take (i := 5) (oi := { dst := some 25, op := Go.Op.extract (Go.Operand.tmp 20) 0, type := 24, pos := "law.go:16", after := #[{ on := 4, ground := Go.Ground.data }], guard := none }) (v := ?_) rfl (by kernel_rfl) (by kernel_rfl) (by kernel_rfl) (fun _ _ _ h => h) (Or.inl ⟨by rfl, ?_⟩) hS160 ?_
        rotate_left
        · (intro wq hSw; obtain ⟨⟨y0, y1, y2⟩, y3, y4, y5⟩ := ShC.cells hSw.c; go_simp; try with_reducible rfl)
        try simp only [Act.put, List.setIfInBounds_toArray, List.set_cons_zero, List.set_cons_succ]
        refine wpAnyH_take (i := 6) (oi := { dst := some 26, op := Go.Op.extract (Go.Operand.tmp 20) 1, type := 26, pos := "law.go:16", after := #[{ on := 4, ground := Go.Ground.data }, { on := 8, ground := Go.Ground.gcOnly Go.Departure.lateStores }], guard := none }) (v := ?_) rfl (by kernel_rfl) (by kernel_rfl) (by kernel_rfl) (fun _ _ _ h => h) (Or.inl ⟨by rfl, ?_⟩) hS160 ?_
        rotate_left
        · (intro wq hSw; obtain ⟨⟨y0, y1, y2⟩, y3, y4, y5⟩ := ShC.cells hSw.c; go_simp; try with_reducible rfl)
        try simp only [Act.put, List.setIfInBounds_toArray, List.set_cons_zero, List.set_cons_succ]
        refine wpAnyH_ready (rs := [8]) (by kernel_rfl) (by simp) ?_
        refine AllReadyH.cons (o := { dst := none, op := Go.Op.store 24 (Go.Operand.tmp 5) (Go.Operand.tmp 25), type := 0, pos := "law.go:16", after := #[{ on := 7, ground := Go.Ground.data }, { on := 5, ground := Go.Ground.data }, { on := 3, ground := Go.Ground.chain }, { on := 0, ground := Go.Ground.phase }, { on := 1, ground := Go.Ground.phase }, { on := 2, ground := Go.Ground.phase }, { on := 3, ground := Go.Ground.phase }, { on := 4, ground := Go.Ground.phase }, { on := 5, ground := Go.Ground.phase }, { on := 6, ground := Go.Ground.textOnly Go.Departure.lateStores }, { on := 7, ground := Go.Ground.phase }], guard := none }) rfl (fun K hK => ?_) AllReadyH.nil
        have hz164 : BoxL we161 we134.heap.size Lab.zero := (((boxZ_new we134).more hb159).more hb162)
        obtain ⟨g0, g1, g2⟩ := hz164.lab
        obtain ⟨fg0, fg1, fg2⟩ := hz164.frozen
        go_simp
        refine hK.out _ _ (ShD.set3 (Y := we134.heap.size) hS133 (Nat.le_refl _) hS160) (fun hS163 => ?_)
        clear hK K g0 g1 g2 fg0 fg1 fg2
        try simp only [Act.put, List.setIfInBounds_toArray, List.set_cons_zero, List.set_cons_succ]
        refine wpAnyH_take (i := 9) (oi := { dst := some 6, op := Go.Op.assign (Go.Operand.tmp 26), type := 26, pos := "law.go:16", after := #[{ on := 6, ground := Go.Ground.data }, { on := 8, ground := Go.Ground.chain }, { on := 0, ground := Go.Ground.phase }, { on := 1, ground := Go.Ground.phase }, { on := 2, ground := Go.Ground.phase }, { on := 3, ground := Go.Ground.phase }, { on := 4, ground := Go.Ground.phase }, { on := 5, ground := Go.Ground.phase }, { on := 6, ground := Go.Ground.phase }, { on := 7, ground := Go.Ground.phase }, { on := 8, ground := Go.Ground.phase }], guard := none }) (v := ?_) rfl (by kernel_rfl) (by kernel_rfl) (by kernel_rfl) (fun _ _ _ h => h) (Or.inl ⟨by rfl, ?_⟩) hS163 ?_
        rotate_left
        · (intro wq hSw; obtain ⟨⟨y0, y1, y2⟩, y3, y4, y5⟩ := ShC.cells hSw.c; go_simp; try with_reducible rfl)
        try simp only [Act.put, List.setIfInBounds_toArray, List.set_cons_zero, List.set_cons_succ]
        refine wpAnyH_done (by kernel_rfl) ?_ _
        replace D := Lib.hid hS163
        obtain ⟨V165, hV165⟩ : ∃ Vx, (((we161.setCell ⟨we134.heap.size, 0, none⟩ (.int .i64 0)).setCell ⟨we134.heap.size, 1, none⟩ (.int .u64 0)).setCell ⟨we134.heap.size, 2, none⟩ (.int .i64 0)) = Vx := ⟨_, rfl⟩
        rw [hV165] at D ⊢
        clear hV165 hz164 hS163 hb162 hS160 hb159 hS157 hS156 hb135 hS133 hS132
        go_wp2
        obtain ⟨⟨a0, a1, a2⟩, b0, b1, b2⟩ := D.out.c.cells
        replace a0 := cell_regrown a0
        replace a1 := cell_regrown a1
        replace a2 := cell_regrown a2
        clear b0 b1 b2
        have cB : ∀ d os, Calls Tryd.prog 27 #[] (grow (redrawn V165 d) os) fun e w'' => e = .returned (.agg #[.int .i64 0, .int .u64 0, .int .i64 7]) ∧ ∃ p : Regrown, w'' = grow (redrawn V165 p.d) p.os := fun d os => Calls.regrown_of (bottom_any _)
        have cS := rg_be (V := V165) fun W hb => csh3 H (HE.out.more (below_more D.out.c.b hb))
        refine wp_region_quiet_below (by kernel_rfl) (by kernel_rfl) ?_
        repeat (quiet_step (with_reducible (first | exact cB _ _ | exact cS _ _)))
        refine wpQuiet_nil ?_
        intro _ hw'
        obtain ⟨⟨dq, osq⟩, hw''⟩ := hw'
        subst hw''
        clear cB cS a0 a1 a2
        have Dn := Lib.hid (ShD.more D.out (below_regrown V165 dq osq))
        obtain ⟨V166, hV166⟩ : ∃ V2, grow (redrawn V165 dq) osq = V2 := ⟨_, rfl⟩
        rw [hV166] at Dn ⊢
        clear hV166 D
        have D := Lib.hid Dn.out
        clear Dn
        go_wp2
        obtain ⟨⟨a0, a1, a2⟩, b0, b1, b2⟩ := D.out.c.cells
        replace a0 := cell_regrown a0
        replace a1 := cell_regrown a1
        replace a2 := cell_regrown a2
        clear b0 b1 b2
        have cB : ∀ d os, Calls Tryd.prog 27 #[] (grow (redrawn V166 d) os) fun e w'' => e = .returned (.agg #[.int .i64 0, .int .u64 0, .int .i64 7]) ∧ ∃ p : Regrown, w'' = grow (redrawn V166 p.d) p.os := fun d os => Calls.regrown_of (bottom_any _)
        have cS := rg_be (V := V166) fun W hb => csh4 H (HE.out.more (below_more D.out.c.b hb))
        refine wp_region_quiet_below (by kernel_rfl) (by kernel_rfl) ?_
        repeat (quiet_step (with_reducible (first | exact cB _ _ | exact cS _ _)))
        refine wpQuiet_nil ?_
        intro _ hw'
        obtain ⟨⟨dq, osq⟩, hw''⟩ := hw'
        subst hw''
        clear cB cS a0 a1 a2
        have Dn := Lib.hid (ShD.more D.out (below_regrown V166 dq osq))
        obtain ⟨V167, hV167⟩ : ∃ V2, grow (redrawn V166 dq) osq = V2 := ⟨_, rfl⟩
        rw [hV167] at Dn ⊢
        clear hV167 D
        have D := Lib.hid Dn.out
        clear Dn
        go_wp2
        obtain ⟨⟨a0, a1, a2⟩, b0, b1, b2⟩ := D.out.c.cells
        replace a0 := cell_regrown a0
        replace a1 := cell_regrown a1
        replace a2 := cell_regrown a2
        clear b0 b1 b2
        obtain ⟨x0, x1, x2⟩ := D.out.xs
        replace x0 := cell_regrown x0
        replace x1 := cell_regrown x1
        replace x2 := cell_regrown x2
        have cB : ∀ d os, Calls Tryd.prog 27 #[] (grow (redrawn V167 d) os) fun e w'' => e = .returned (.agg #[.int .i64 0, .int .u64 0, .int .i64 7]) ∧ ∃ p : Regrown, w'' = grow (redrawn V167 p.d) p.os := fun d os => Calls.regrown_of (bottom_any _)
        have cR := rg_bool (V := V167) fun W hb => csh5 H (HE.out.more (below_more D.out.c.b hb))
        have cW := rg_bool (V := V167) fun W hb => csh6 H (HE.out.more (below_more D.out.c.b hb))
        refine wp_region_quiet_below (by kernel_rfl) (by kernel_rfl) ?_
        repeat (quiet_step (with_reducible (first | exact cB _ _ | exact cR _ _ | exact cW _ _)))
        refine wpQuiet_nil ?_
        intro _ hw'
        obtain ⟨⟨dq, osq⟩, hw''⟩ := hw'
        subst hw''
        go_wp2
        go_ret
        exact ⟨rfl, below_more D.out.c.b (below_regrown V167 dq osq)⟩
    · skip
      go_simp
      refine hK.out _ _ (ShD.more hS132 (Below.new V130.drew (.cells #[.int .i64 0, .int .u64 0, .int .i64 0] 24))) (fun hS168 => ?_)
      clear hK K
      try simp only [Act.put, List.setIfInBounds_toArray, List.set_cons_zero, List.set_cons_succ]
      refine wpAnyH_ready (rs := [0]) (by kernel_rfl) (by simp) ?_
      refine AllReadyH.cons (o := { dst := some 21, op := Go.Op.call { callee := Go.Callee.value (Go.Operand.func 27), args := #[], argTypes := #[] }, type := 24, pos := "law.go:16", after := #[], guard := none }) rfl (fun K hK => ?_) AllReadyH.nil
      go_simp
      refine (bottom_any _).mono ?_
      rintro e we170 ⟨rfl, hb171⟩
      refine hK.out _ _ (ShD.more hS168 hb171) (fun hS169 => ?_)
      clear hK K
      try simp only [Act.put, List.setIfInBounds_toArray, List.set_cons_zero, List.set_cons_succ]
      refine wpAnyH_ready (rs := [1]) (by kernel_rfl) (by simp) ?_
      refine AllReadyH.cons (o := { dst := some 22, op := Go.Op.call { callee := Go.Callee.value (Go.Operand.func 28), args := #[], argTypes := #[] }, type := 24, pos := "law.go:16", after := #[{ on := 0, ground := Go.Ground.chain }], guard := none }) rfl (fun K hK => ?_) AllReadyH.nil
      go_simp
      refine (top_any _).mono ?_
      rintro e we173 ⟨rfl, hb174⟩
      refine hK.out _ _ (ShD.more hS169 hb174) (fun hS172 => ?_)
      clear hK K
      try simp only [Act.put, List.setIfInBounds_toArray, List.set_cons_zero, List.set_cons_succ]
      refine wpAnyH_ready (rs := [3]) (by kernel_rfl) (by simp) ?_
      refine AllReadyH.cons (o := { dst := some 24, op := Go.Op.call { callee := Go.Callee.value (Go.Operand.func 12), args := #[Go.Operand.tmp 21, Go.Operand.tmp 22, Go.Operand.tmp 23], argTypes := #[24, 24, 24] }, type := 27, pos := "law.go:16", after := #[{ on := 0, ground := Go.Ground.data }, { on := 1, ground := Go.Ground.data }, { on := 2, ground := Go.Ground.data }, { on := 1, ground := Go.Ground.chain }], guard := none }) rfl (fun K hK => ?_) AllReadyH.nil
      go_simp
      refine (csh2 H (HE.out.more hS172.c.b)).mono ?_
      rintro e we176 ⟨rfl, hb177⟩
      refine hK.out _ _ (ShD.more hS172 hb177) (fun hS175 => ?_)
      clear hK K
      try simp only [Act.put, List.setIfInBounds_toArray, List.set_cons_zero, List.set_cons_succ]
      refine wpAnyH_take (i := 4) (oi := { dst := some 20, op := Go.Op.move (Go.Operand.tmp 24), type := 27, pos := "law.go:16", after := #[{ on := 3, ground := Go.Ground.data }], guard := none }) (v := ?_) rfl (by kernel_rfl) (by kernel_rfl) (by kernel_rfl) (fun _ _ _ h => h) (Or.inl ⟨by rfl, ?_⟩) hS175 ?_
      rotate_left
      · (intro wq hSw; obtain ⟨⟨y0, y1, y2⟩, y3, y4, y5⟩ := ShC.cells hSw.c; go_simp; try with_reducible rfl)
      try simp only [Act.put, List.setIfInBounds_toArray, List.set_cons_zero, List.set_cons_succ]
      refine wpAnyH_take (i := 5) (oi := { dst := some 25, op := Go.Op.extract (Go.Operand.tmp 20) 0, type := 24, pos := "law.go:16", after := #[{ on := 4, ground := Go.Ground.data }], guard := none }) (v := ?_) rfl (by kernel_rfl) (by kernel_rfl) (by kernel_rfl) (fun _ _ _ h => h) (Or.inl ⟨by rfl, ?_⟩) hS175 ?_
      rotate_left
      · (intro wq hSw; obtain ⟨⟨y0, y1, y2⟩, y3, y4, y5⟩ := ShC.cells hSw.c; go_simp; try with_reducible rfl)
      try simp only [Act.put, List.setIfInBounds_toArray, List.set_cons_zero, List.set_cons_succ]
      refine wpAnyH_take (i := 6) (oi := { dst := some 26, op := Go.Op.extract (Go.Operand.tmp 20) 1, type := 26, pos := "law.go:16", after := #[{ on := 4, ground := Go.Ground.data }, { on := 8, ground := Go.Ground.gcOnly Go.Departure.lateStores }], guard := none }) (v := ?_) rfl (by kernel_rfl) (by kernel_rfl) (by kernel_rfl) (fun _ _ _ h => h) (Or.inl ⟨by rfl, ?_⟩) hS175 ?_
      rotate_left
      · (intro wq hSw; obtain ⟨⟨y0, y1, y2⟩, y3, y4, y5⟩ := ShC.cells hSw.c; go_simp; try with_reducible rfl)
      try simp only [Act.put, List.setIfInBounds_toArray, List.set_cons_zero, List.set_cons_succ]
      refine wpAnyH_ready (rs := [8]) (by kernel_rfl) (by simp) ?_
      refine AllReadyH.cons (o := { dst := none, op := Go.Op.store 24 (Go.Operand.tmp 5) (Go.Operand.tmp 25), type := 0, pos := "law.go:16", after := #[{ on := 7, ground := Go.Ground.data }, { on := 5, ground := Go.Ground.data }, { on := 3, ground := Go.Ground.chain }, { on := 0, ground := Go.Ground.phase }, { on := 1, ground := Go.Ground.phase }, { on := 2, ground := Go.Ground.phase }, { on := 3, ground := Go.Ground.phase }, { on := 4, ground := Go.Ground.phase }, { on := 5, ground := Go.Ground.phase }, { on := 6, ground := Go.Ground.textOnly Go.Departure.lateStores }, { on := 7, ground := Go.Ground.phase }], guard := none }) rfl (fun K hK => ?_) AllReadyH.nil
      have hz179 : BoxL we176 V130.heap.size Lab.zero := ((((boxZ_new V130.drew).more hb171).more hb174).more hb177)
      obtain ⟨g0, g1, g2⟩ := hz179.lab
      obtain ⟨fg0, fg1, fg2⟩ := hz179.frozen
      go_simp
      refine hK.out _ _ (ShD.set3 (Y := V130.heap.size) hS132 (Nat.le_refl _) hS175) (fun hS178 => ?_)
      clear hK K g0 g1 g2 fg0 fg1 fg2
      try simp only [Act.put, List.setIfInBounds_toArray, List.set_cons_zero, List.set_cons_succ]
      refine wpAnyH_take (i := 9) (oi := { dst := some 6, op := Go.Op.assign (Go.Operand.tmp 26), type := 26, pos := "law.go:16", after := #[{ on := 6, ground := Go.Ground.data }, { on := 8, ground := Go.Ground.chain }, { on := 0, ground := Go.Ground.phase }, { on := 1, ground := Go.Ground.phase }, { on := 2, ground := Go.Ground.phase }, { on := 3, ground := Go.Ground.phase }, { on := 4, ground := Go.Ground.phase }, { on := 5, ground := Go.Ground.phase }, { on := 6, ground := Go.Ground.phase }, { on := 7, ground := Go.Ground.phase }, { on := 8, ground := Go.Ground.phase }], guard := none }) (v := ?_) rfl (by kernel_rfl) (by kernel_rfl) (by kernel_rfl) (fun _ _ _ h => h) (Or.inl ⟨by rfl, ?_⟩) hS178 ?_
      rotate_left
      · (intro wq hSw; obtain ⟨⟨y0, y1, y2⟩, y3, y4, y5⟩ := ShC.cells hSw.c; go_simp; try with_reducible rfl)
      try simp only [Act.put, List.setIfInBounds_toArray, List.set_cons_zero, List.set_cons_succ]
      refine wpAnyH_done (by kernel_rfl) ?_ _
      replace D := Lib.hid hS178
      obtain ⟨V180, hV180⟩ : ∃ Vx, (((we176.setCell ⟨V130.heap.size, 0, none⟩ (.int .i64 0)).setCell ⟨V130.heap.size, 1, none⟩ (.int .u64 0)).setCell ⟨V130.heap.size, 2, none⟩ (.int .i64 0)) = Vx := ⟨_, rfl⟩
      rw [hV180] at D ⊢
      clear hV180 hz179 hS178 hb177 hS175 hb174 hS172 hb171 hS169 hS168 hS132
      go_wp2
      obtain ⟨⟨a0, a1, a2⟩, b0, b1, b2⟩ := D.out.c.cells
      replace a0 := cell_regrown a0
      replace a1 := cell_regrown a1
      replace a2 := cell_regrown a2
      clear b0 b1 b2
      have cB : ∀ d os, Calls Tryd.prog 27 #[] (grow (redrawn V180 d) os) fun e w'' => e = .returned (.agg #[.int .i64 0, .int .u64 0, .int .i64 7]) ∧ ∃ p : Regrown, w'' = grow (redrawn V180 p.d) p.os := fun d os => Calls.regrown_of (bottom_any _)
      have cS := rg_be (V := V180) fun W hb => csh3 H (HE.out.more (below_more D.out.c.b hb))
      refine wp_region_quiet_below (by kernel_rfl) (by kernel_rfl) ?_
      repeat (quiet_step (with_reducible (first | exact cB _ _ | exact cS _ _)))
      refine wpQuiet_nil ?_
      intro _ hw'
      obtain ⟨⟨dq, osq⟩, hw''⟩ := hw'
      subst hw''
      clear cB cS a0 a1 a2
      have Dn := Lib.hid (ShD.more D.out (below_regrown V180 dq osq))
      obtain ⟨V181, hV181⟩ : ∃ V2, grow (redrawn V180 dq) osq = V2 := ⟨_, rfl⟩
      rw [hV181] at Dn ⊢
      clear hV181 D
      have D := Lib.hid Dn.out
      clear Dn
      go_wp2
      obtain ⟨⟨a0, a1, a2⟩, b0, b1, b2⟩ := D.out.c.cells
      replace a0 := cell_regrown a0
      replace a1 := cell_regrown a1
      replace a2 := cell_regrown a2
      clear b0 b1 b2
      have cB : ∀ d os, Calls Tryd.prog 27 #[] (grow (redrawn V181 d) os) fun e w'' => e = .returned (.agg #[.int .i64 0, .int .u64 0, .int .i64 7]) ∧ ∃ p : Regrown, w'' = grow (redrawn V181 p.d) p.os := fun d os => Calls.regrown_of (bottom_any _)
      have cS := rg_be (V := V181) fun W hb => csh4 H (HE.out.more (below_more D.out.c.b hb))
      refine wp_region_quiet_below (by kernel_rfl) (by kernel_rfl) ?_
      repeat (quiet_step (with_reducible (first | exact cB _ _ | exact cS _ _)))
      refine wpQuiet_nil ?_
      intro _ hw'
      obtain ⟨⟨dq, osq⟩, hw''⟩ := hw'
      subst hw''
      clear cB cS a0 a1 a2
      have Dn := Lib.hid (ShD.more D.out (below_regrown V181 dq osq))
      obtain ⟨V182, hV182⟩ : ∃ V2, grow (redrawn V181 dq) osq = V2 := ⟨_, rfl⟩
      rw [hV182] at Dn ⊢
      clear hV182 D
      have D := Lib.hid Dn.out
      clear Dn
      go_wp2
      obtain ⟨⟨a0, a1, a2⟩, b0, b1, b2⟩ := D.out.c.cells
      replace a0 := cell_regrown a0
      replace a1 := cell_regrown a1
      replace a2 := cell_regrown a2
      clear b0 b1 b2
      obtain ⟨x0, x1, x2⟩ := D.out.xs
      replace x0 := cell_regrown x0
      replace x1 := cell_regrown x1
      replace x2 := cell_regrown x2
      have cB : ∀ d os, Calls Tryd.prog 27 #[] (grow (redrawn V182 d) os) fun e w'' => e = .returned (.agg #[.int .i64 0, .int .u64 0, .int .i64 7]) ∧ ∃ p : Regrown, w'' = grow (redrawn V182 p.d) p.os := fun d os => Calls.regrown_of (bottom_any _)
      have cR := rg_bool (V := V182) fun W hb => csh5 H (HE.out.more (below_more D.out.c.b hb))
      have cW := rg_bool (V := V182) fun W hb => csh6 H (HE.out.more (below_more D.out.c.b hb))
      refine wp_region_quiet_below (by kernel_rfl) (by kernel_rfl) ?_
      repeat (quiet_step (with_reducible (first | exact cB _ _ | exact cR _ _ | exact cW _ _)))
      refine wpQuiet_nil ?_
      intro _ hw'
      obtain ⟨⟨dq, osq⟩, hw''⟩ := hw'
      subst hw''
      go_wp2
      go_ret
      exact ⟨rfl, below_more D.out.c.b (below_regrown V182 dq osq)⟩

end Go.Proofs.YtciohfeifihobaaDoor
