/- The contract of the document's own Least. -/
import Derived.Test.YtafghaceahchhaaDoorLabRefJ
namespace Go.Proofs.YtafghaceahchhaaDoor
open Go.RowKit Go.Proofs.Cats Go.Shelf

/-- What the loop keeps beside what it reads: the answer's room, the room of what is made, what lay before, error's type. -/
def LeastR (w : World) (B : Nat) (W : World) : Prop := Room3 w.heap.size W ∧ Room3 B W ∧ Below w.heap.size w W ∧ ErrT W ∧ 0 < w.heap.size ∧ w.heap.size < B
theorem Room3.lt {b : Nat} {W : World} (h : Room3 b W) : b < W.heap.size := by
  obtain ⟨v0, _, _, h0, _⟩ := h
  exact World.block_lt_of_cell? W _ h0
theorem LeastR.below {w W W1 : World} {B : Nat} (h : LeastR w B W) (hb : Below W.heap.size W W1) : LeastR w B W1 :=
  ⟨h.1.below hb, h.2.1.below hb, below_more h.2.2.1 hb, h.2.2.2.1.more hb, h.2.2.2.2⟩
theorem LeastR.drew {w W : World} {B : Nat} (h : LeastR w B W) : LeastR w B W.drew := ⟨h.1, h.2.1, h.2.2.1.drew, h.2.2.2⟩
theorem Room3.set {b n : Nat} {W : World} {x y z : Value} (hn : n ≠ b) : Room3 b W → Room3 b (((W.setCell ⟨n, 0, none⟩ x).setCell ⟨n, 1, none⟩ y).setCell ⟨n, 2, none⟩ z)
  | ⟨v0, v1, v2, h0, h1, h2, f0, f1, f2⟩ => ⟨v0, v1, v2, set3 h0 hn, set3 h1 hn, set3 h2 hn, setF (setF (setF f0)), setF (setF (setF f1)), setF (setF (setF f2))⟩
theorem Room3.own {b : Nat} {W : World} (x y z : Value) : Room3 b W → Room3 b (((W.setCell ⟨b, 0, none⟩ x).setCell ⟨b, 1, none⟩ y).setCell ⟨b, 2, none⟩ z)
  | ⟨_, _, _, h0, h1, h2, f0, f1, f2⟩ => ⟨x, y, z, setO (setO (setS _ h0) (ne_off (by omega))) (ne_off (by omega)), setO (setS _ (setO h1 (ne_off (by omega)))) (ne_off (by omega)), setS _ (setO (setO h2 (ne_off (by omega))) (ne_off (by omega))), setF (setF (setF f0)), setF (setF (setF f1)), setF (setF (setF f2))⟩
theorem LeastR.set {w W : World} {B X : Nat} (h : LeastR w B W) (hX : B < X) (x y z : Value) : LeastR w B (((W.setCell ⟨X, 0, none⟩ x).setCell ⟨X, 1, none⟩ y).setCell ⟨X, 2, none⟩ z) := by
  obtain ⟨h1, h2, h3, h4, h5, h6⟩ := h
  exact ⟨h1.set (by omega), h2.set (by omega), ((h3.setCell (p := ⟨X, 0, none⟩) (by simp; omega) _).setCell (p := ⟨X, 1, none⟩) (by simp; omega) _).setCell (p := ⟨X, 2, none⟩) (by simp; omega) _, set3 h4 (by omega), h5, h6⟩
theorem LeastR.out {w W : World} {B : Nat} (h : LeastR w B W) (x y z : Value) : LeastR w B (((W.setCell ⟨B, 0, none⟩ x).setCell ⟨B, 1, none⟩ y).setCell ⟨B, 2, none⟩ z) := by
  obtain ⟨h1, h2, h3, h4, h5, h6⟩ := h
  exact ⟨h1.set (by omega), h2.own x y z, ((h3.setCell (p := ⟨B, 0, none⟩) (by simp; omega) _).setCell (p := ⟨B, 1, none⟩) (by simp; omega) _).setCell (p := ⟨B, 2, none⟩) (by simp; omega) _, set3 h4 (by omega), h5, h6⟩

/-- What a round of the document's Least reads and keeps. -/
def LeastS (w : World) (B : Nat) (m : Lab) (b o : Nat) (x : Lab) (W : World) : Prop := LabsAt w [(B, m)] W ∧ LabAt W b o x ∧ LeastR w B W
theorem LeastS.later {w W W1 : World} {B b o : Nat} {m x : Lab} (h : LeastS w B m b o x W) (hb : Below W.heap.size W W1) : LeastS w B m b o x W1 :=
  ⟨h.1.later hb, ⟨cell_later hb h.2.1.1, cell_later hb h.2.1.2.1, cell_later hb h.2.1.2.2⟩, h.2.2.below hb⟩
theorem LeastS.drew {w W : World} {B b o : Nat} {m x : Lab} (h : LeastS w B m b o x W) : LeastS w B m b o x W.drew := ⟨h.1.drew, h.2.1, h.2.2.drew⟩
theorem LeastS.set {w W : World} {B b o X : Nat} {m x : Lab} (h : LeastS w B m b o x W) (hX : B < X) (hb : X ≠ b) (u v z : Value) : LeastS w B m b o x (((W.setCell ⟨X, 0, none⟩ u).setCell ⟨X, 1, none⟩ v).setCell ⟨X, 2, none⟩ z) := by
  obtain ⟨h1, h2, h3⟩ := h
  obtain ⟨o0, o1, o2, hn⟩ := labsAt_head h1
  have h4 := h3.set hX u v z
  exact ⟨labsAt_cons (set3 o0 (by omega)) (set3 o1 (by omega)) (set3 o2 (by omega)) (labsAt_nil h4.2.2.1 h4.2.2.2.1), ⟨set3 h2.1 hb, set3 h2.2.1 hb, set3 h2.2.2 hb⟩, h4⟩
theorem LeastS.err {w W : World} {B b o : Nat} {m x : Lab} (h : LeastS w B m b o x W) : ErrT W := h.1.err
theorem LeastS.lt {w W : World} {B b o : Nat} {m x : Lab} (h : LeastS w B m b o x W) : B < W.heap.size ∧ b < W.heap.size := ⟨h.2.2.2.1.lt, World.block_lt_of_cell? W _ h.2.1.1⟩
/-- The loop's word between two rounds. -/
def LeastI (w : World) (B : Nat) (zs : List Lab) (k : Nat) (W : World) : Prop := (zs.take k).all Lab.right = true ∧ LabsAt w [(B, madeJ Lab.bot (zs.take k))] W ∧ LeastR w B W
theorem madeJ_next (zs : List Lab) (k : Nat) (x : Lab) (h : zs[k]? = some x) : madeJ Lab.bot (zs.take (k + 1)) = (madeJ Lab.bot (zs.take k)).join x := by
  rw [take_next zs k x h]; simp [madeJ, List.foldl_append]
theorem madeJ_fit (s : Lab) (hs : s.fits) : ∀ zs : List Lab, (∀ x ∈ zs, x.fits) → (madeJ s zs).fits
  | [], _ => hs
  | x :: zs, h => madeJ_fit (s.join x) (hs.join (h x (List.mem_cons_self ..))) zs (fun y hy => h y (List.mem_cons_of_mem _ hy))
theorem madeJ_right (s : Lab) (hs : s.right = true) : ∀ zs : List Lab, zs.all Lab.right = true → (madeJ s zs).right = true
  | [], _ => hs
  | x :: zs, h => by
    rw [List.all_cons, Bool.and_eq_true] at h
    exact madeJ_right (s.join x) (Lab.right_join hs h.1) zs h.2
theorem all_not (zs : List Lab) (k : Nat) (x : Lab) (h : zs[k]? = some x) (hx : x.right = false) : zs.all Lab.right = false := by
  rw [List.all_eq_false]
  exact ⟨x, List.mem_of_getElem? h, by simp [hx]⟩

set_option maxRecDepth 100000 in
set_option maxHeartbeats 4000000 in
theorem refLeast_some (b off cap : Nat) (zs : List Lab) (hne : zs ≠ []) (hlen : zs.length ≤ 1000) (hcap : zs.length ≤ cap) (w : World) (hbw : b < w.heap.size) (hc : ∀ j x, zs[j]? = some x → x.fits ∧ LabAt w b (off + j * 3) x) (hg : ErrT w) :
    Calls Tryd.prog 27 #[.slice (some ⟨b, off, none⟩) zs.length cap] w fun e w' =>
      e = .returned (.tuple #[.agg #[.int .i64 (toldJ Lab.bot zs).l, .int .u64 (toldJ Lab.bot zs).c, .int .i64 (toldJ Lab.bot zs).i], .int .i64 (toldE zs)]) ∧ Below w.heap.size w w' := by
  obtain ⟨E, hE⟩ : ∃ E, toldE zs = E := ⟨_, rfl⟩
  obtain ⟨T, hT⟩ : ∃ T, toldJ Lab.bot zs = T := ⟨_, rfl⟩
  rw [hE, hT]
  have HE := Lib.hid hE
  have HT := Lib.hid hT
  have HC0 := Lib.hid hc
  have hfits : ∀ x ∈ zs, x.fits := fun x hx => by obtain ⟨j, hj⟩ := List.getElem?_of_mem hx; exact (hc j x hj).1
  have HF := Lib.hid hfits
  have HN := Lib.hid hne
  clear hE hT hc hfits hne
  obtain ⟨len, hl⟩ : ∃ len, zs.length = len := ⟨_, rfl⟩
  rw [hl] at hlen hcap ⊢
  have HL := Lib.hid hl
  clear hl
  have hB : Below w.heap.size w (w.alloc (.cells #[.int .i64 0, .int .u64 0, .int .i64 0] 24)) := Below.new _ _
  have hR : Room3 w.heap.size (w.alloc (.cells #[.int .i64 0, .int .u64 0, .int .i64 0] 24)) := ⟨_, _, _, World.cell?_alloc_at _ _ _ _ rfl, World.cell?_alloc_at _ _ _ _ rfl, World.cell?_alloc_at _ _ _ _ rfl, by go_simp, by go_simp, by go_simp⟩
  go_enter Tryd.func27, Tryd.ntmps27
  go_wp2_with fail
  refine (refBottom_any _).mono ?_
  rintro e w1 ⟨he, hb⟩
  subst he
  replace hR := hR.below hb
  replace hB := below_more hB hb
  have hn := Below.new w1 (.cells #[.int .i64 0, .int .u64 0, .int .i64 7] 24)
  have hz : w.heap.size < w1.heap.size := hR.lt
  have hL0 : LeastR w w1.heap.size (w1.alloc (.cells #[.int .i64 0, .int .u64 0, .int .i64 7] 24)) := ⟨hR.below hn, ⟨_, _, _, World.cell?_alloc_at _ _ _ _ rfl, World.cell?_alloc_at _ _ _ _ rfl, World.cell?_alloc_at _ _ _ _ rfl, by go_simp, by go_simp, by go_simp⟩, below_more hB hn, (hg.more (below_more hB hn)), hg.lt, hz⟩
  have hI0 : LeastI w w1.heap.size zs 0 (w1.alloc (.cells #[.int .i64 0, .int .u64 0, .int .i64 7] 24)) := ⟨by simp, labsAt_cons (World.cell?_alloc_at _ _ _ _ rfl) (World.cell?_alloc_at _ _ _ _ rfl) (World.cell?_alloc_at _ _ _ _ rfl) (labsAt_nil hL0.2.2.1 hL0.2.2.2.1), hL0⟩
  have HI0 := Lib.hid hI0
  clear hb hn hB hR hL0 hI0 hg
  go_wp2
  obtain ⟨B, hBB⟩ : ∃ B, w1.heap.size = B := ⟨_, rfl⟩
  rw [hBB] at HI0 hz ⊢
  clear hBB
  generalize w1.alloc (.cells #[.int .i64 0, .int .u64 0, .int .i64 7] 24) = W1 at HI0 ⊢
  go_loopw [5] (fun i wr => ∃ k : Nat, k ≤ len ∧ i = .int .i64 k ∧ LeastI w B zs k wr) (fun i _ => len - (intOf i).toNat)
  case atStart => exact ⟨0, Nat.zero_le _, rfl, HI0.out⟩
  case round =>
    obtain ⟨k, hk, rfl, hall, hmem, hL⟩ := hrel
    by_cases hlt : k < len
    · obtain ⟨x, hx⟩ : ∃ x, zs[k]? = some x := ⟨_, List.getElem?_eq_getElem (by rw [HL.out]; exact hlt)⟩
      obtain ⟨hxf, hat⟩ := HC0.out k x hx
      have hq := hat.below hL.2.2.1 hbw
      have hmf : (madeJ Lab.bot (zs.take k)).fits := madeJ_fit _ Lab.fits_bot _ (fun y hy => HF.out y (List.mem_of_mem_take hy))
      have hmr : (madeJ Lab.bot (zs.take k)).right = true := madeJ_right _ Lab.bot_right _ hall
      have HX := Lib.hid hx
      have HN2 := Lib.hid (madeJ_next zs k x hx)
      have HA := Lib.hid hall
      generalize madeJ Lab.bot (zs.take k) = m at *
      have hS : LeastS w B m b (off + k * 3) x wr := ⟨hmem, hq, hL⟩
      have hi1 : (0 : Int) ≤ (k : Int) := by omega
      have hi2 : (k : Int) < (len : Int) := by omega
      clear hx hall hmem hL hat hq
      cases hxr : x.right
      · have E2 := Lib.hid (twoE_no (a := m) (b := x) (by rw [hxr, Bool.and_false]))
        have HD := Lib.hid (all_not zs k x HX.out hxr)
        obtain ⟨J, hJ⟩ : ∃ J, twoJ m x = J := ⟨_, rfl⟩
        have HJ := Lib.hid hJ
        clear hJ hxr
        go_wp2_with fail
        refine wp_region_held_drew (S := LeastS w B m b (off + k * 3) x) (by kernel_rfl) (hS.drew) (fun hS0 => ?_)
        clear hS
        refine wpAnyH_take (i := 0) (oi := { dst := some 16, op := Go.Op.load 24 (Go.Operand.tmp 4), type := 24, pos := "ref.go:43", after := #[], guard := none }) (v := ?_) rfl (by kernel_rfl) (by kernel_rfl) (by kernel_rfl) (fun _ _ _ h => h) (Or.inl ⟨by rfl, ?_⟩) hS0 ?_; rotate_left; (· (intro wq hSw; obtain ⟨o0, o1, o2, _⟩ := labsAt_head hSw.1; obtain ⟨q0, q1, q2⟩ := hSw.2.1; go_simp; try with_reducible rfl))
        try simp only [Act.put, List.setIfInBounds_toArray, List.set_cons_zero, List.set_cons_succ]
        refine wpAnyH_take (i := 1) (oi := { dst := some 17, op := Go.Op.move (Go.Operand.tmp 0), type := 33, pos := "ref.go:43", after := #[], guard := none }) (v := ?_) rfl (by kernel_rfl) (by kernel_rfl) (by kernel_rfl) (fun _ _ _ h => h) (Or.inl ⟨by rfl, ?_⟩) hS0 ?_; rotate_left; (· (intro wq hSw; obtain ⟨o0, o1, o2, _⟩ := labsAt_head hSw.1; obtain ⟨q0, q1, q2⟩ := hSw.2.1; go_simp; try with_reducible rfl))
        try simp only [Act.put, List.setIfInBounds_toArray, List.set_cons_zero, List.set_cons_succ]
        refine wpAnyH_take (i := 2) (oi := { dst := some 18, op := Go.Op.move (Go.Operand.tmp 5), type := 3, pos := "ref.go:43", after := #[], guard := none }) (v := ?_) rfl (by kernel_rfl) (by kernel_rfl) (by kernel_rfl) (fun _ _ _ h => h) (Or.inl ⟨by rfl, ?_⟩) hS0 ?_; rotate_left; (· (intro wq hSw; obtain ⟨o0, o1, o2, _⟩ := labsAt_head hSw.1; obtain ⟨q0, q1, q2⟩ := hSw.2.1; go_simp; try with_reducible rfl))
        try simp only [Act.put, List.setIfInBounds_toArray, List.set_cons_zero, List.set_cons_succ]
        refine wpAnyH_take (i := 3) (oi := { dst := some 19, op := Go.Op.indexAddr 33 (Go.Operand.tmp 17) (Go.Operand.tmp 18), type := 0, pos := "ref.go:43", after := #[{ on := 1, ground := Go.Ground.data }, { on := 2, ground := Go.Ground.data }], guard := none }) (v := ?_) rfl (by kernel_rfl) (by kernel_rfl) (by kernel_rfl) (fun _ _ _ h => h) (Or.inl ⟨by rfl, ?_⟩) hS0 ?_; rotate_left; (· (intro wq hSw; obtain ⟨o0, o1, o2, _⟩ := labsAt_head hSw.1; obtain ⟨q0, q1, q2⟩ := hSw.2.1; go_simp; try with_reducible rfl))
        try simp only [Act.put, List.setIfInBounds_toArray, List.set_cons_zero, List.set_cons_succ]
        refine wpAnyH_take (i := 4) (oi := { dst := some 20, op := Go.Op.load 24 (Go.Operand.tmp 19), type := 24, pos := "ref.go:43", after := #[{ on := 3, ground := Go.Ground.data }], guard := none }) (v := ?_) rfl (by kernel_rfl) (by kernel_rfl) (by kernel_rfl) (fun _ _ _ h => h) (Or.inl ⟨by rfl, ?_⟩) hS0 ?_; rotate_left; (· (intro wq hSw; obtain ⟨o0, o1, o2, _⟩ := labsAt_head hSw.1; obtain ⟨q0, q1, q2⟩ := hSw.2.1; go_simp; try with_reducible rfl))
        try simp only [Act.put, List.setIfInBounds_toArray, List.set_cons_zero, List.set_cons_succ]
        refine wpAnyH_ready (rs := [5, 9]) (by kernel_rfl) (by simp) ?_
        refine AllReadyH.cons (o := { dst := some 21, op := Go.Op.call { callee := Go.Callee.value (Go.Operand.func 13), args := #[Go.Operand.tmp 16, Go.Operand.tmp 20], argTypes := #[24, 24] }, type := 27, pos := "ref.go:43", after := #[{ on := 0, ground := Go.Ground.data }, { on := 4, ground := Go.Ground.data }], guard := none }) rfl (fun K hK => ?_) (AllReadyH.cons (o := { dst := some 6, op := Go.Op.alloc 24, type := 0, pos := "ref.go:43", after := #[], guard := none }) rfl (fun K hK => ?_) AllReadyH.nil)
        · go_simp
          refine (refJoin_any m x hmf hxf _ hS0.err).mono ?_
          rintro e w2 ⟨he, hb⟩
          rw [E2.out, HJ.out] at he
          subst he
          have hS1 := hS0.later hb
          refine hK.out _ _ hS1 (fun _ => ?_)
          clear hK K hS0 hb
          try simp only [Act.put, List.setIfInBounds_toArray, List.set_cons_zero, List.set_cons_succ]
          refine wpAnyH_take (i := 6) (oi := { dst := some 15, op := Go.Op.move (Go.Operand.tmp 21), type := 27, pos := "ref.go:43", after := #[{ on := 5, ground := Go.Ground.data }], guard := none }) (v := ?_) rfl (by kernel_rfl) (by kernel_rfl) (by kernel_rfl) (fun _ _ _ h => h) (Or.inl ⟨by rfl, ?_⟩) hS1 ?_; rotate_left; (· (intro wq hSw; obtain ⟨o0, o1, o2, _⟩ := labsAt_head hSw.1; obtain ⟨q0, q1, q2⟩ := hSw.2.1; go_simp; try with_reducible rfl))
          try simp only [Act.put, List.setIfInBounds_toArray, List.set_cons_zero, List.set_cons_succ]
          refine wpAnyH_take (i := 7) (oi := { dst := some 22, op := Go.Op.extract (Go.Operand.tmp 15) 0, type := 24, pos := "ref.go:43", after := #[{ on := 6, ground := Go.Ground.data }], guard := none }) (v := ?_) rfl (by kernel_rfl) (by kernel_rfl) (by kernel_rfl) (fun _ _ _ h => h) (Or.inl ⟨by rfl, ?_⟩) hS1 ?_; rotate_left; (· (intro wq hSw; obtain ⟨o0, o1, o2, _⟩ := labsAt_head hSw.1; obtain ⟨q0, q1, q2⟩ := hSw.2.1; go_simp; try with_reducible rfl))
          try simp only [Act.put, List.setIfInBounds_toArray, List.set_cons_zero, List.set_cons_succ]
          refine wpAnyH_take (i := 8) (oi := { dst := some 23, op := Go.Op.extract (Go.Operand.tmp 15) 1, type := 26, pos := "ref.go:43", after := #[{ on := 6, ground := Go.Ground.data }, { on := 10, ground := Go.Ground.gcOnly Go.Departure.lateStores }], guard := none }) (v := ?_) rfl (by kernel_rfl) (by kernel_rfl) (by kernel_rfl) (fun _ _ _ h => h) (Or.inl ⟨by rfl, ?_⟩) hS1 ?_; rotate_left; (· (intro wq hSw; obtain ⟨o0, o1, o2, _⟩ := labsAt_head hSw.1; obtain ⟨q0, q1, q2⟩ := hSw.2.1; go_simp; try with_reducible rfl))
          try simp only [Act.put, List.setIfInBounds_toArray, List.set_cons_zero, List.set_cons_succ]
          refine wpAnyH_ready (rs := [9]) (by kernel_rfl) (by simp) ?_
          refine AllReadyH.cons (o := { dst := some 6, op := Go.Op.alloc 24, type := 0, pos := "ref.go:43", after := #[], guard := none }) rfl (fun K hK => ?_) AllReadyH.nil
          go_simp
          refine hK.out _ _ (hS1.later (Below.new _ _)) (fun hS2 => ?_)
          clear hK K
          try simp only [Act.put, List.setIfInBounds_toArray, List.set_cons_zero, List.set_cons_succ]
          refine wpAnyH_ready (rs := [10]) (by kernel_rfl) (by simp) ?_
          refine AllReadyH.cons (o := { dst := none, op := Go.Op.store 24 (Go.Operand.tmp 6) (Go.Operand.tmp 22), type := 0, pos := "ref.go:43", after := #[{ on := 9, ground := Go.Ground.data }, { on := 7, ground := Go.Ground.data }, { on := 5, ground := Go.Ground.chain }, { on := 0, ground := Go.Ground.phase }, { on := 1, ground := Go.Ground.phase }, { on := 2, ground := Go.Ground.phase }, { on := 3, ground := Go.Ground.phase }, { on := 4, ground := Go.Ground.phase }, { on := 5, ground := Go.Ground.phase }, { on := 6, ground := Go.Ground.phase }, { on := 7, ground := Go.Ground.phase }, { on := 8, ground := Go.Ground.textOnly Go.Departure.lateStores }, { on := 9, ground := Go.Ground.phase }], guard := none }) rfl (fun K hK => ?_) AllReadyH.nil
          go_simp
          refine hK.out _ _ (hS1.later (Below.new _ _)) (fun hS3 => ?_)
          clear hK K hS2
          try simp only [Act.put, List.setIfInBounds_toArray, List.set_cons_zero, List.set_cons_succ]
          refine wpAnyH_take (i := 11) (oi := { dst := some 7, op := Go.Op.assign (Go.Operand.tmp 23), type := 26, pos := "ref.go:43", after := #[{ on := 8, ground := Go.Ground.data }, { on := 10, ground := Go.Ground.chain }, { on := 0, ground := Go.Ground.phase }, { on := 1, ground := Go.Ground.phase }, { on := 2, ground := Go.Ground.phase }, { on := 3, ground := Go.Ground.phase }, { on := 4, ground := Go.Ground.phase }, { on := 5, ground := Go.Ground.phase }, { on := 6, ground := Go.Ground.phase }, { on := 7, ground := Go.Ground.phase }, { on := 8, ground := Go.Ground.phase }, { on := 9, ground := Go.Ground.phase }, { on := 10, ground := Go.Ground.phase }], guard := none }) (v := ?_) rfl (by kernel_rfl) (by kernel_rfl) (by kernel_rfl) (fun _ _ _ h => h) (Or.inl ⟨by rfl, ?_⟩) hS3 ?_; rotate_left; (· (intro wq hSw; obtain ⟨o0, o1, o2, _⟩ := labsAt_head hSw.1; obtain ⟨q0, q1, q2⟩ := hSw.2.1; go_simp; try with_reducible rfl))
          try simp only [Act.put, List.setIfInBounds_toArray, List.set_cons_zero, List.set_cons_succ]
          refine wpAnyH_done (by kernel_rfl) ?_ _
          have x0 : (w2.alloc (.cells #[.int .i64 J.l, .int .u64 J.c, .int .i64 J.i] 24)).cell? ⟨w2.heap.size, 0, none⟩ = some (.int .i64 J.l) := by simp
          have x1 : (w2.alloc (.cells #[.int .i64 J.l, .int .u64 J.c, .int .i64 J.i] 24)).cell? ⟨w2.heap.size, 1, none⟩ = some (.int .u64 J.c) := by simp
          have x2 : (w2.alloc (.cells #[.int .i64 J.l, .int .u64 J.c, .int .i64 J.i] 24)).cell? ⟨w2.heap.size, 2, none⟩ = some (.int .i64 J.i) := by simp
          have hX := hS1.lt.1
          clear hS1
          generalize hWW : (w2.alloc (.cells #[.int .i64 J.l, .int .u64 J.c, .int .i64 J.i] 24)) = WW at x0 x1 x2 hS3 ⊢
          clear hWW
          have hL := hS3.2.2
          clear hS3 x0 x1 x2
          obtain ⟨v0, v1, v2, r0, r1, r2, f0, f1, f2⟩ := hL.1
          have HC := Lib.hid (And.intro (setO (x := .int .i64 0) (b := ⟨w.heap.size, 2, none⟩) (setO (x := .int .u64 0) (b := ⟨w.heap.size, 1, none⟩) (setS (.int .i64 0) r0) (ne_off (by omega))) (ne_off (by omega))) (And.intro (setO (x := .int .i64 0) (b := ⟨w.heap.size, 2, none⟩) (setS (.int .u64 0) (setO (x := .int .i64 0) (b := ⟨w.heap.size, 0, none⟩) r1 (ne_off (by omega)))) (ne_off (by omega))) (setS (.int .i64 0) (setO (x := .int .u64 0) (b := ⟨w.heap.size, 1, none⟩) (setO (x := .int .i64 0) (b := ⟨w.heap.size, 0, none⟩) r2 (ne_off (by omega))) (ne_off (by omega))))))
          have HB := Lib.hid (((hL.2.2.1.setCell (p := ⟨w.heap.size, 0, none⟩) (by simp) (.int .i64 0)).setCell (p := ⟨w.heap.size, 1, none⟩) (by simp) (.int .u64 0)).setCell (p := ⟨w.heap.size, 2, none⟩) (by simp) (.int .i64 0))
          clear hL
          go_wp2
          obtain ⟨c0, c1, c2⟩ := HC.out
          refine bodyPost_ret (v := .tuple #[.agg #[.int .i64 0, .int .u64 0, .int .i64 0], .int .i64 20]) ?_ rfl ⟨by rw [← HT.out, ← HE.out, toldJ_no _ _ HD.out, toldE_no _ HD.out]; rfl, HB.out⟩
          clear HC HB r0 r1 r2 f0 f1 f2
          generalize ((WW.setCell ⟨w.heap.size, 0, none⟩ (.int .i64 0)).setCell ⟨w.heap.size, 1, none⟩ (.int .u64 0)).setCell ⟨w.heap.size, 2, none⟩ (.int .i64 0) = WF at c0 c1 c2 ⊢
          simp [results, Tryd.results27, go_sem, c0, c1, c2]
        · go_simp
          have hlt0 := hS0.lt
          refine hK.out _ _ (hS0.later (Below.new _ _)) (fun hS1 => ?_)
          clear hK K hS0
          try simp only [Act.put, List.setIfInBounds_toArray, List.set_cons_zero, List.set_cons_succ]
          refine wpAnyH_ready (rs := [5]) (by kernel_rfl) (by simp) ?_
          refine AllReadyH.cons (o := { dst := some 21, op := Go.Op.call { callee := Go.Callee.value (Go.Operand.func 13), args := #[Go.Operand.tmp 16, Go.Operand.tmp 20], argTypes := #[24, 24] }, type := 27, pos := "ref.go:43", after := #[{ on := 0, ground := Go.Ground.data }, { on := 4, ground := Go.Ground.data }], guard := none }) rfl (fun K hK => ?_) AllReadyH.nil
          go_simp
          refine (refJoin_any m x hmf hxf _ hS1.err).mono ?_
          rintro e w2 ⟨he, hb⟩
          rw [E2.out, HJ.out] at he
          subst he
          have y0 : w2.cell? ⟨wr.heap.size, 0, none⟩ = some (.int .i64 0) := cell_later hb (by go_simp)
          have fy0 : w2.frozen? ⟨wr.heap.size, 0, none⟩ = false := (hb.frozen (p := ⟨wr.heap.size, 0, none⟩) (by simp)).trans (by go_simp)
          have y1 : w2.cell? ⟨wr.heap.size, 1, none⟩ = some (.int .u64 0) := cell_later hb (by go_simp)
          have fy1 : w2.frozen? ⟨wr.heap.size, 1, none⟩ = false := (hb.frozen (p := ⟨wr.heap.size, 1, none⟩) (by simp)).trans (by go_simp)
          have y2 : w2.cell? ⟨wr.heap.size, 2, none⟩ = some (.int .i64 0) := cell_later hb (by go_simp)
          have fy2 : w2.frozen? ⟨wr.heap.size, 2, none⟩ = false := (hb.frozen (p := ⟨wr.heap.size, 2, none⟩) (by simp)).trans (by go_simp)
          refine hK.out _ _ (hS1.later hb) (fun hS2 => ?_)
          clear hK K hS1 hb
          try simp only [Act.put, List.setIfInBounds_toArray, List.set_cons_zero, List.set_cons_succ]
          refine wpAnyH_take (i := 6) (oi := { dst := some 15, op := Go.Op.move (Go.Operand.tmp 21), type := 27, pos := "ref.go:43", after := #[{ on := 5, ground := Go.Ground.data }], guard := none }) (v := ?_) rfl (by kernel_rfl) (by kernel_rfl) (by kernel_rfl) (fun _ _ _ h => h) (Or.inl ⟨by rfl, ?_⟩) hS2 ?_; rotate_left; (· (intro wq hSw; obtain ⟨o0, o1, o2, _⟩ := labsAt_head hSw.1; obtain ⟨q0, q1, q2⟩ := hSw.2.1; go_simp; try with_reducible rfl))
          try simp only [Act.put, List.setIfInBounds_toArray, List.set_cons_zero, List.set_cons_succ]
          refine wpAnyH_take (i := 7) (oi := { dst := some 22, op := Go.Op.extract (Go.Operand.tmp 15) 0, type := 24, pos := "ref.go:43", after := #[{ on := 6, ground := Go.Ground.data }], guard := none }) (v := ?_) rfl (by kernel_rfl) (by kernel_rfl) (by kernel_rfl) (fun _ _ _ h => h) (Or.inl ⟨by rfl, ?_⟩) hS2 ?_; rotate_left; (· (intro wq hSw; obtain ⟨o0, o1, o2, _⟩ := labsAt_head hSw.1; obtain ⟨q0, q1, q2⟩ := hSw.2.1; go_simp; try with_reducible rfl))
          try simp only [Act.put, List.setIfInBounds_toArray, List.set_cons_zero, List.set_cons_succ]
          refine wpAnyH_take (i := 8) (oi := { dst := some 23, op := Go.Op.extract (Go.Operand.tmp 15) 1, type := 26, pos := "ref.go:43", after := #[{ on := 6, ground := Go.Ground.data }, { on := 10, ground := Go.Ground.gcOnly Go.Departure.lateStores }], guard := none }) (v := ?_) rfl (by kernel_rfl) (by kernel_rfl) (by kernel_rfl) (fun _ _ _ h => h) (Or.inl ⟨by rfl, ?_⟩) hS2 ?_; rotate_left; (· (intro wq hSw; obtain ⟨o0, o1, o2, _⟩ := labsAt_head hSw.1; obtain ⟨q0, q1, q2⟩ := hSw.2.1; go_simp; try with_reducible rfl))
          try simp only [Act.put, List.setIfInBounds_toArray, List.set_cons_zero, List.set_cons_succ]
          refine wpAnyH_ready (rs := [10]) (by kernel_rfl) (by simp) ?_
          refine AllReadyH.cons (o := { dst := none, op := Go.Op.store 24 (Go.Operand.tmp 6) (Go.Operand.tmp 22), type := 0, pos := "ref.go:43", after := #[{ on := 9, ground := Go.Ground.data }, { on := 7, ground := Go.Ground.data }, { on := 5, ground := Go.Ground.chain }, { on := 0, ground := Go.Ground.phase }, { on := 1, ground := Go.Ground.phase }, { on := 2, ground := Go.Ground.phase }, { on := 3, ground := Go.Ground.phase }, { on := 4, ground := Go.Ground.phase }, { on := 5, ground := Go.Ground.phase }, { on := 6, ground := Go.Ground.phase }, { on := 7, ground := Go.Ground.phase }, { on := 8, ground := Go.Ground.textOnly Go.Departure.lateStores }, { on := 9, ground := Go.Ground.phase }], guard := none }) rfl (fun K hK => ?_) AllReadyH.nil
          go_simp
          replace hlt0 : B < wr.heap.size ∧ b < wr.heap.size := hlt0
          refine hK.out _ _ (hS2.set hlt0.1 (by omega) (.int .i64 J.l) (.int .u64 J.c) (.int .i64 J.i)) (fun hS3 => ?_)
          clear hK K hS2
          try simp only [Act.put, List.setIfInBounds_toArray, List.set_cons_zero, List.set_cons_succ]
          refine wpAnyH_take (i := 11) (oi := { dst := some 7, op := Go.Op.assign (Go.Operand.tmp 23), type := 26, pos := "ref.go:43", after := #[{ on := 8, ground := Go.Ground.data }, { on := 10, ground := Go.Ground.chain }, { on := 0, ground := Go.Ground.phase }, { on := 1, ground := Go.Ground.phase }, { on := 2, ground := Go.Ground.phase }, { on := 3, ground := Go.Ground.phase }, { on := 4, ground := Go.Ground.phase }, { on := 5, ground := Go.Ground.phase }, { on := 6, ground := Go.Ground.phase }, { on := 7, ground := Go.Ground.phase }, { on := 8, ground := Go.Ground.phase }, { on := 9, ground := Go.Ground.phase }, { on := 10, ground := Go.Ground.phase }], guard := none }) (v := ?_) rfl (by kernel_rfl) (by kernel_rfl) (by kernel_rfl) (fun _ _ _ h => h) (Or.inl ⟨by rfl, ?_⟩) hS3 ?_; rotate_left; (· (intro wq hSw; obtain ⟨o0, o1, o2, _⟩ := labsAt_head hSw.1; obtain ⟨q0, q1, q2⟩ := hSw.2.1; go_simp; try with_reducible rfl))
          try simp only [Act.put, List.setIfInBounds_toArray, List.set_cons_zero, List.set_cons_succ]
          refine wpAnyH_done (by kernel_rfl) ?_ _
          have x0 : (((w2.setCell ⟨wr.heap.size, 0, none⟩ (.int .i64 J.l)).setCell ⟨wr.heap.size, 1, none⟩ (.int .u64 J.c)).setCell ⟨wr.heap.size, 2, none⟩ (.int .i64 J.i)).cell? ⟨wr.heap.size, 0, none⟩ = some (.int .i64 J.l) := setO (setO (setS _ y0) (ne_off (by omega))) (ne_off (by omega))
          have x1 : (((w2.setCell ⟨wr.heap.size, 0, none⟩ (.int .i64 J.l)).setCell ⟨wr.heap.size, 1, none⟩ (.int .u64 J.c)).setCell ⟨wr.heap.size, 2, none⟩ (.int .i64 J.i)).cell? ⟨wr.heap.size, 1, none⟩ = some (.int .u64 J.c) := setO (setS _ (setO y1 (ne_off (by omega)))) (ne_off (by omega))
          have x2 : (((w2.setCell ⟨wr.heap.size, 0, none⟩ (.int .i64 J.l)).setCell ⟨wr.heap.size, 1, none⟩ (.int .u64 J.c)).setCell ⟨wr.heap.size, 2, none⟩ (.int .i64 J.i)).cell? ⟨wr.heap.size, 2, none⟩ = some (.int .i64 J.i) := setS _ (setO (setO y2 (ne_off (by omega))) (ne_off (by omega)))
          have hX := hlt0.1
          clear y0 y1 y2 fy0 fy1 fy2 hlt0
          generalize hWW : (((w2.setCell ⟨wr.heap.size, 0, none⟩ (.int .i64 J.l)).setCell ⟨wr.heap.size, 1, none⟩ (.int .u64 J.c)).setCell ⟨wr.heap.size, 2, none⟩ (.int .i64 J.i)) = WW at x0 x1 x2 hS3 ⊢
          clear hWW
          have hL := hS3.2.2
          clear hS3 x0 x1 x2
          obtain ⟨v0, v1, v2, r0, r1, r2, f0, f1, f2⟩ := hL.1
          have HC := Lib.hid (And.intro (setO (x := .int .i64 0) (b := ⟨w.heap.size, 2, none⟩) (setO (x := .int .u64 0) (b := ⟨w.heap.size, 1, none⟩) (setS (.int .i64 0) r0) (ne_off (by omega))) (ne_off (by omega))) (And.intro (setO (x := .int .i64 0) (b := ⟨w.heap.size, 2, none⟩) (setS (.int .u64 0) (setO (x := .int .i64 0) (b := ⟨w.heap.size, 0, none⟩) r1 (ne_off (by omega)))) (ne_off (by omega))) (setS (.int .i64 0) (setO (x := .int .u64 0) (b := ⟨w.heap.size, 1, none⟩) (setO (x := .int .i64 0) (b := ⟨w.heap.size, 0, none⟩) r2 (ne_off (by omega))) (ne_off (by omega))))))
          have HB := Lib.hid (((hL.2.2.1.setCell (p := ⟨w.heap.size, 0, none⟩) (by simp) (.int .i64 0)).setCell (p := ⟨w.heap.size, 1, none⟩) (by simp) (.int .u64 0)).setCell (p := ⟨w.heap.size, 2, none⟩) (by simp) (.int .i64 0))
          clear hL
          go_wp2
          obtain ⟨c0, c1, c2⟩ := HC.out
          refine bodyPost_ret (v := .tuple #[.agg #[.int .i64 0, .int .u64 0, .int .i64 0], .int .i64 20]) ?_ rfl ⟨by rw [← HT.out, ← HE.out, toldJ_no _ _ HD.out, toldE_no _ HD.out]; rfl, HB.out⟩
          clear HC HB r0 r1 r2 f0 f1 f2
          generalize ((WW.setCell ⟨w.heap.size, 0, none⟩ (.int .i64 0)).setCell ⟨w.heap.size, 1, none⟩ (.int .u64 0)).setCell ⟨w.heap.size, 2, none⟩ (.int .i64 0) = WF at c0 c1 c2 ⊢
          simp [results, Tryd.results27, go_sem, c0, c1, c2]
      · have hr2 : (m.right && x.right) = true := by rw [hmr, hxr]; rfl
        have E2 := Lib.hid (twoE_yes hr2)
        have HJ := Lib.hid (twoJ_yes hr2)
        have HA2 := Lib.hid (show (zs.take (k + 1)).all Lab.right = true by rw [take_next zs k x HX.out, List.all_append, HA.out]; simp [hxr])
        obtain ⟨J, hJ⟩ : ∃ J, m.join x = J := ⟨_, rfl⟩
        rw [hJ] at HJ HN2
        clear hJ hxr hr2
        go_wp2_with fail
        refine wp_region_held_drew (S := LeastS w B m b (off + k * 3) x) (by kernel_rfl) (hS.drew) (fun hS0 => ?_)
        clear hS
        refine wpAnyH_take (i := 0) (oi := { dst := some 16, op := Go.Op.load 24 (Go.Operand.tmp 4), type := 24, pos := "ref.go:43", after := #[], guard := none }) (v := ?_) rfl (by kernel_rfl) (by kernel_rfl) (by kernel_rfl) (fun _ _ _ h => h) (Or.inl ⟨by rfl, ?_⟩) hS0 ?_; rotate_left; (· (intro wq hSw; obtain ⟨o0, o1, o2, _⟩ := labsAt_head hSw.1; obtain ⟨q0, q1, q2⟩ := hSw.2.1; go_simp; try with_reducible rfl))
        try simp only [Act.put, List.setIfInBounds_toArray, List.set_cons_zero, List.set_cons_succ]
        refine wpAnyH_take (i := 1) (oi := { dst := some 17, op := Go.Op.move (Go.Operand.tmp 0), type := 33, pos := "ref.go:43", after := #[], guard := none }) (v := ?_) rfl (by kernel_rfl) (by kernel_rfl) (by kernel_rfl) (fun _ _ _ h => h) (Or.inl ⟨by rfl, ?_⟩) hS0 ?_; rotate_left; (· (intro wq hSw; obtain ⟨o0, o1, o2, _⟩ := labsAt_head hSw.1; obtain ⟨q0, q1, q2⟩ := hSw.2.1; go_simp; try with_reducible rfl))
        try simp only [Act.put, List.setIfInBounds_toArray, List.set_cons_zero, List.set_cons_succ]
        refine wpAnyH_take (i := 2) (oi := { dst := some 18, op := Go.Op.move (Go.Operand.tmp 5), type := 3, pos := "ref.go:43", after := #[], guard := none }) (v := ?_) rfl (by kernel_rfl) (by kernel_rfl) (by kernel_rfl) (fun _ _ _ h => h) (Or.inl ⟨by rfl, ?_⟩) hS0 ?_; rotate_left; (· (intro wq hSw; obtain ⟨o0, o1, o2, _⟩ := labsAt_head hSw.1; obtain ⟨q0, q1, q2⟩ := hSw.2.1; go_simp; try with_reducible rfl))
        try simp only [Act.put, List.setIfInBounds_toArray, List.set_cons_zero, List.set_cons_succ]
        refine wpAnyH_take (i := 3) (oi := { dst := some 19, op := Go.Op.indexAddr 33 (Go.Operand.tmp 17) (Go.Operand.tmp 18), type := 0, pos := "ref.go:43", after := #[{ on := 1, ground := Go.Ground.data }, { on := 2, ground := Go.Ground.data }], guard := none }) (v := ?_) rfl (by kernel_rfl) (by kernel_rfl) (by kernel_rfl) (fun _ _ _ h => h) (Or.inl ⟨by rfl, ?_⟩) hS0 ?_; rotate_left; (· (intro wq hSw; obtain ⟨o0, o1, o2, _⟩ := labsAt_head hSw.1; obtain ⟨q0, q1, q2⟩ := hSw.2.1; go_simp; try with_reducible rfl))
        try simp only [Act.put, List.setIfInBounds_toArray, List.set_cons_zero, List.set_cons_succ]
        refine wpAnyH_take (i := 4) (oi := { dst := some 20, op := Go.Op.load 24 (Go.Operand.tmp 19), type := 24, pos := "ref.go:43", after := #[{ on := 3, ground := Go.Ground.data }], guard := none }) (v := ?_) rfl (by kernel_rfl) (by kernel_rfl) (by kernel_rfl) (fun _ _ _ h => h) (Or.inl ⟨by rfl, ?_⟩) hS0 ?_; rotate_left; (· (intro wq hSw; obtain ⟨o0, o1, o2, _⟩ := labsAt_head hSw.1; obtain ⟨q0, q1, q2⟩ := hSw.2.1; go_simp; try with_reducible rfl))
        try simp only [Act.put, List.setIfInBounds_toArray, List.set_cons_zero, List.set_cons_succ]
        refine wpAnyH_ready (rs := [5, 9]) (by kernel_rfl) (by simp) ?_
        refine AllReadyH.cons (o := { dst := some 21, op := Go.Op.call { callee := Go.Callee.value (Go.Operand.func 13), args := #[Go.Operand.tmp 16, Go.Operand.tmp 20], argTypes := #[24, 24] }, type := 27, pos := "ref.go:43", after := #[{ on := 0, ground := Go.Ground.data }, { on := 4, ground := Go.Ground.data }], guard := none }) rfl (fun K hK => ?_) (AllReadyH.cons (o := { dst := some 6, op := Go.Op.alloc 24, type := 0, pos := "ref.go:43", after := #[], guard := none }) rfl (fun K hK => ?_) AllReadyH.nil)
        · go_simp
          refine (refJoin_any m x hmf hxf _ hS0.err).mono ?_
          rintro e w2 ⟨he, hb⟩
          rw [E2.out, HJ.out] at he
          subst he
          have hS1 := hS0.later hb
          refine hK.out _ _ hS1 (fun _ => ?_)
          clear hK K hS0 hb
          try simp only [Act.put, List.setIfInBounds_toArray, List.set_cons_zero, List.set_cons_succ]
          refine wpAnyH_take (i := 6) (oi := { dst := some 15, op := Go.Op.move (Go.Operand.tmp 21), type := 27, pos := "ref.go:43", after := #[{ on := 5, ground := Go.Ground.data }], guard := none }) (v := ?_) rfl (by kernel_rfl) (by kernel_rfl) (by kernel_rfl) (fun _ _ _ h => h) (Or.inl ⟨by rfl, ?_⟩) hS1 ?_; rotate_left; (· (intro wq hSw; obtain ⟨o0, o1, o2, _⟩ := labsAt_head hSw.1; obtain ⟨q0, q1, q2⟩ := hSw.2.1; go_simp; try with_reducible rfl))
          try simp only [Act.put, List.setIfInBounds_toArray, List.set_cons_zero, List.set_cons_succ]
          refine wpAnyH_take (i := 7) (oi := { dst := some 22, op := Go.Op.extract (Go.Operand.tmp 15) 0, type := 24, pos := "ref.go:43", after := #[{ on := 6, ground := Go.Ground.data }], guard := none }) (v := ?_) rfl (by kernel_rfl) (by kernel_rfl) (by kernel_rfl) (fun _ _ _ h => h) (Or.inl ⟨by rfl, ?_⟩) hS1 ?_; rotate_left; (· (intro wq hSw; obtain ⟨o0, o1, o2, _⟩ := labsAt_head hSw.1; obtain ⟨q0, q1, q2⟩ := hSw.2.1; go_simp; try with_reducible rfl))
          try simp only [Act.put, List.setIfInBounds_toArray, List.set_cons_zero, List.set_cons_succ]
          refine wpAnyH_take (i := 8) (oi := { dst := some 23, op := Go.Op.extract (Go.Operand.tmp 15) 1, type := 26, pos := "ref.go:43", after := #[{ on := 6, ground := Go.Ground.data }, { on := 10, ground := Go.Ground.gcOnly Go.Departure.lateStores }], guard := none }) (v := ?_) rfl (by kernel_rfl) (by kernel_rfl) (by kernel_rfl) (fun _ _ _ h => h) (Or.inl ⟨by rfl, ?_⟩) hS1 ?_; rotate_left; (· (intro wq hSw; obtain ⟨o0, o1, o2, _⟩ := labsAt_head hSw.1; obtain ⟨q0, q1, q2⟩ := hSw.2.1; go_simp; try with_reducible rfl))
          try simp only [Act.put, List.setIfInBounds_toArray, List.set_cons_zero, List.set_cons_succ]
          refine wpAnyH_ready (rs := [9]) (by kernel_rfl) (by simp) ?_
          refine AllReadyH.cons (o := { dst := some 6, op := Go.Op.alloc 24, type := 0, pos := "ref.go:43", after := #[], guard := none }) rfl (fun K hK => ?_) AllReadyH.nil
          go_simp
          refine hK.out _ _ (hS1.later (Below.new _ _)) (fun hS2 => ?_)
          clear hK K
          try simp only [Act.put, List.setIfInBounds_toArray, List.set_cons_zero, List.set_cons_succ]
          refine wpAnyH_ready (rs := [10]) (by kernel_rfl) (by simp) ?_
          refine AllReadyH.cons (o := { dst := none, op := Go.Op.store 24 (Go.Operand.tmp 6) (Go.Operand.tmp 22), type := 0, pos := "ref.go:43", after := #[{ on := 9, ground := Go.Ground.data }, { on := 7, ground := Go.Ground.data }, { on := 5, ground := Go.Ground.chain }, { on := 0, ground := Go.Ground.phase }, { on := 1, ground := Go.Ground.phase }, { on := 2, ground := Go.Ground.phase }, { on := 3, ground := Go.Ground.phase }, { on := 4, ground := Go.Ground.phase }, { on := 5, ground := Go.Ground.phase }, { on := 6, ground := Go.Ground.phase }, { on := 7, ground := Go.Ground.phase }, { on := 8, ground := Go.Ground.textOnly Go.Departure.lateStores }, { on := 9, ground := Go.Ground.phase }], guard := none }) rfl (fun K hK => ?_) AllReadyH.nil
          go_simp
          refine hK.out _ _ (hS1.later (Below.new _ _)) (fun hS3 => ?_)
          clear hK K hS2
          try simp only [Act.put, List.setIfInBounds_toArray, List.set_cons_zero, List.set_cons_succ]
          refine wpAnyH_take (i := 11) (oi := { dst := some 7, op := Go.Op.assign (Go.Operand.tmp 23), type := 26, pos := "ref.go:43", after := #[{ on := 8, ground := Go.Ground.data }, { on := 10, ground := Go.Ground.chain }, { on := 0, ground := Go.Ground.phase }, { on := 1, ground := Go.Ground.phase }, { on := 2, ground := Go.Ground.phase }, { on := 3, ground := Go.Ground.phase }, { on := 4, ground := Go.Ground.phase }, { on := 5, ground := Go.Ground.phase }, { on := 6, ground := Go.Ground.phase }, { on := 7, ground := Go.Ground.phase }, { on := 8, ground := Go.Ground.phase }, { on := 9, ground := Go.Ground.phase }, { on := 10, ground := Go.Ground.phase }], guard := none }) (v := ?_) rfl (by kernel_rfl) (by kernel_rfl) (by kernel_rfl) (fun _ _ _ h => h) (Or.inl ⟨by rfl, ?_⟩) hS3 ?_; rotate_left; (· (intro wq hSw; obtain ⟨o0, o1, o2, _⟩ := labsAt_head hSw.1; obtain ⟨q0, q1, q2⟩ := hSw.2.1; go_simp; try with_reducible rfl))
          try simp only [Act.put, List.setIfInBounds_toArray, List.set_cons_zero, List.set_cons_succ]
          refine wpAnyH_done (by kernel_rfl) ?_ _
          have x0 : (w2.alloc (.cells #[.int .i64 J.l, .int .u64 J.c, .int .i64 J.i] 24)).cell? ⟨w2.heap.size, 0, none⟩ = some (.int .i64 J.l) := by simp
          have x1 : (w2.alloc (.cells #[.int .i64 J.l, .int .u64 J.c, .int .i64 J.i] 24)).cell? ⟨w2.heap.size, 1, none⟩ = some (.int .u64 J.c) := by simp
          have x2 : (w2.alloc (.cells #[.int .i64 J.l, .int .u64 J.c, .int .i64 J.i] 24)).cell? ⟨w2.heap.size, 2, none⟩ = some (.int .i64 J.i) := by simp
          have hX := hS1.lt.1
          clear hS1
          generalize hWW : (w2.alloc (.cells #[.int .i64 J.l, .int .u64 J.c, .int .i64 J.i] 24)) = WW at x0 x1 x2 hS3 ⊢
          clear hWW
          obtain ⟨v0, v1, v2, r0, r1, r2, f0, f1, f2⟩ := hS3.2.2.2.1
          have hI : LeastI w B zs (k + 1) (((WW.setCell ⟨B, 0, none⟩ (.int .i64 J.l)).setCell ⟨B, 1, none⟩ (.int .u64 J.c)).setCell ⟨B, 2, none⟩ (.int .i64 J.i)) := by
            have hL := hS3.2.2.out (.int .i64 J.l) (.int .u64 J.c) (.int .i64 J.i)
            refine ⟨HA2.out, ?_, hL⟩
            rw [HN2.out]
            exact labsAt_cons (setO (setO (setS _ r0) (ne_off (by omega))) (ne_off (by omega))) (setO (setS _ (setO r1 (ne_off (by omega)))) (ne_off (by omega))) (setS _ (setO (setO r2 (ne_off (by omega))) (ne_off (by omega)))) (labsAt_nil hL.2.2.1 hL.2.2.2.1)
          have HI := Lib.hid hI
          clear hS3 hI
          go_wp2
          go_roundw
          case rel => exact ⟨k + 1, by omega, by simp, HI.out⟩
          case measure => simp [intOf]; omega
        · go_simp
          have hlt0 := hS0.lt
          refine hK.out _ _ (hS0.later (Below.new _ _)) (fun hS1 => ?_)
          clear hK K hS0
          try simp only [Act.put, List.setIfInBounds_toArray, List.set_cons_zero, List.set_cons_succ]
          refine wpAnyH_ready (rs := [5]) (by kernel_rfl) (by simp) ?_
          refine AllReadyH.cons (o := { dst := some 21, op := Go.Op.call { callee := Go.Callee.value (Go.Operand.func 13), args := #[Go.Operand.tmp 16, Go.Operand.tmp 20], argTypes := #[24, 24] }, type := 27, pos := "ref.go:43", after := #[{ on := 0, ground := Go.Ground.data }, { on := 4, ground := Go.Ground.data }], guard := none }) rfl (fun K hK => ?_) AllReadyH.nil
          go_simp
          refine (refJoin_any m x hmf hxf _ hS1.err).mono ?_
          rintro e w2 ⟨he, hb⟩
          rw [E2.out, HJ.out] at he
          subst he
          have y0 : w2.cell? ⟨wr.heap.size, 0, none⟩ = some (.int .i64 0) := cell_later hb (by go_simp)
          have fy0 : w2.frozen? ⟨wr.heap.size, 0, none⟩ = false := (hb.frozen (p := ⟨wr.heap.size, 0, none⟩) (by simp)).trans (by go_simp)
          have y1 : w2.cell? ⟨wr.heap.size, 1, none⟩ = some (.int .u64 0) := cell_later hb (by go_simp)
          have fy1 : w2.frozen? ⟨wr.heap.size, 1, none⟩ = false := (hb.frozen (p := ⟨wr.heap.size, 1, none⟩) (by simp)).trans (by go_simp)
          have y2 : w2.cell? ⟨wr.heap.size, 2, none⟩ = some (.int .i64 0) := cell_later hb (by go_simp)
          have fy2 : w2.frozen? ⟨wr.heap.size, 2, none⟩ = false := (hb.frozen (p := ⟨wr.heap.size, 2, none⟩) (by simp)).trans (by go_simp)
          refine hK.out _ _ (hS1.later hb) (fun hS2 => ?_)
          clear hK K hS1 hb
          try simp only [Act.put, List.setIfInBounds_toArray, List.set_cons_zero, List.set_cons_succ]
          refine wpAnyH_take (i := 6) (oi := { dst := some 15, op := Go.Op.move (Go.Operand.tmp 21), type := 27, pos := "ref.go:43", after := #[{ on := 5, ground := Go.Ground.data }], guard := none }) (v := ?_) rfl (by kernel_rfl) (by kernel_rfl) (by kernel_rfl) (fun _ _ _ h => h) (Or.inl ⟨by rfl, ?_⟩) hS2 ?_; rotate_left; (· (intro wq hSw; obtain ⟨o0, o1, o2, _⟩ := labsAt_head hSw.1; obtain ⟨q0, q1, q2⟩ := hSw.2.1; go_simp; try with_reducible rfl))
          try simp only [Act.put, List.setIfInBounds_toArray, List.set_cons_zero, List.set_cons_succ]
          refine wpAnyH_take (i := 7) (oi := { dst := some 22, op := Go.Op.extract (Go.Operand.tmp 15) 0, type := 24, pos := "ref.go:43", after := #[{ on := 6, ground := Go.Ground.data }], guard := none }) (v := ?_) rfl (by kernel_rfl) (by kernel_rfl) (by kernel_rfl) (fun _ _ _ h => h) (Or.inl ⟨by rfl, ?_⟩) hS2 ?_; rotate_left; (· (intro wq hSw; obtain ⟨o0, o1, o2, _⟩ := labsAt_head hSw.1; obtain ⟨q0, q1, q2⟩ := hSw.2.1; go_simp; try with_reducible rfl))
          try simp only [Act.put, List.setIfInBounds_toArray, List.set_cons_zero, List.set_cons_succ]
          refine wpAnyH_take (i := 8) (oi := { dst := some 23, op := Go.Op.extract (Go.Operand.tmp 15) 1, type := 26, pos := "ref.go:43", after := #[{ on := 6, ground := Go.Ground.data }, { on := 10, ground := Go.Ground.gcOnly Go.Departure.lateStores }], guard := none }) (v := ?_) rfl (by kernel_rfl) (by kernel_rfl) (by kernel_rfl) (fun _ _ _ h => h) (Or.inl ⟨by rfl, ?_⟩) hS2 ?_; rotate_left; (· (intro wq hSw; obtain ⟨o0, o1, o2, _⟩ := labsAt_head hSw.1; obtain ⟨q0, q1, q2⟩ := hSw.2.1; go_simp; try with_reducible rfl))
          try simp only [Act.put, List.setIfInBounds_toArray, List.set_cons_zero, List.set_cons_succ]
          refine wpAnyH_ready (rs := [10]) (by kernel_rfl) (by simp) ?_
          refine AllReadyH.cons (o := { dst := none, op := Go.Op.store 24 (Go.Operand.tmp 6) (Go.Operand.tmp 22), type := 0, pos := "ref.go:43", after := #[{ on := 9, ground := Go.Ground.data }, { on := 7, ground := Go.Ground.data }, { on := 5, ground := Go.Ground.chain }, { on := 0, ground := Go.Ground.phase }, { on := 1, ground := Go.Ground.phase }, { on := 2, ground := Go.Ground.phase }, { on := 3, ground := Go.Ground.phase }, { on := 4, ground := Go.Ground.phase }, { on := 5, ground := Go.Ground.phase }, { on := 6, ground := Go.Ground.phase }, { on := 7, ground := Go.Ground.phase }, { on := 8, ground := Go.Ground.textOnly Go.Departure.lateStores }, { on := 9, ground := Go.Ground.phase }], guard := none }) rfl (fun K hK => ?_) AllReadyH.nil
          go_simp
          replace hlt0 : B < wr.heap.size ∧ b < wr.heap.size := hlt0
          refine hK.out _ _ (hS2.set hlt0.1 (by omega) (.int .i64 J.l) (.int .u64 J.c) (.int .i64 J.i)) (fun hS3 => ?_)
          clear hK K hS2
          try simp only [Act.put, List.setIfInBounds_toArray, List.set_cons_zero, List.set_cons_succ]
          refine wpAnyH_take (i := 11) (oi := { dst := some 7, op := Go.Op.assign (Go.Operand.tmp 23), type := 26, pos := "ref.go:43", after := #[{ on := 8, ground := Go.Ground.data }, { on := 10, ground := Go.Ground.chain }, { on := 0, ground := Go.Ground.phase }, { on := 1, ground := Go.Ground.phase }, { on := 2, ground := Go.Ground.phase }, { on := 3, ground := Go.Ground.phase }, { on := 4, ground := Go.Ground.phase }, { on := 5, ground := Go.Ground.phase }, { on := 6, ground := Go.Ground.phase }, { on := 7, ground := Go.Ground.phase }, { on := 8, ground := Go.Ground.phase }, { on := 9, ground := Go.Ground.phase }, { on := 10, ground := Go.Ground.phase }], guard := none }) (v := ?_) rfl (by kernel_rfl) (by kernel_rfl) (by kernel_rfl) (fun _ _ _ h => h) (Or.inl ⟨by rfl, ?_⟩) hS3 ?_; rotate_left; (· (intro wq hSw; obtain ⟨o0, o1, o2, _⟩ := labsAt_head hSw.1; obtain ⟨q0, q1, q2⟩ := hSw.2.1; go_simp; try with_reducible rfl))
          try simp only [Act.put, List.setIfInBounds_toArray, List.set_cons_zero, List.set_cons_succ]
          refine wpAnyH_done (by kernel_rfl) ?_ _
          have x0 : (((w2.setCell ⟨wr.heap.size, 0, none⟩ (.int .i64 J.l)).setCell ⟨wr.heap.size, 1, none⟩ (.int .u64 J.c)).setCell ⟨wr.heap.size, 2, none⟩ (.int .i64 J.i)).cell? ⟨wr.heap.size, 0, none⟩ = some (.int .i64 J.l) := setO (setO (setS _ y0) (ne_off (by omega))) (ne_off (by omega))
          have x1 : (((w2.setCell ⟨wr.heap.size, 0, none⟩ (.int .i64 J.l)).setCell ⟨wr.heap.size, 1, none⟩ (.int .u64 J.c)).setCell ⟨wr.heap.size, 2, none⟩ (.int .i64 J.i)).cell? ⟨wr.heap.size, 1, none⟩ = some (.int .u64 J.c) := setO (setS _ (setO y1 (ne_off (by omega)))) (ne_off (by omega))
          have x2 : (((w2.setCell ⟨wr.heap.size, 0, none⟩ (.int .i64 J.l)).setCell ⟨wr.heap.size, 1, none⟩ (.int .u64 J.c)).setCell ⟨wr.heap.size, 2, none⟩ (.int .i64 J.i)).cell? ⟨wr.heap.size, 2, none⟩ = some (.int .i64 J.i) := setS _ (setO (setO y2 (ne_off (by omega))) (ne_off (by omega)))
          have hX := hlt0.1
          clear y0 y1 y2 fy0 fy1 fy2 hlt0
          generalize hWW : (((w2.setCell ⟨wr.heap.size, 0, none⟩ (.int .i64 J.l)).setCell ⟨wr.heap.size, 1, none⟩ (.int .u64 J.c)).setCell ⟨wr.heap.size, 2, none⟩ (.int .i64 J.i)) = WW at x0 x1 x2 hS3 ⊢
          clear hWW
          obtain ⟨v0, v1, v2, r0, r1, r2, f0, f1, f2⟩ := hS3.2.2.2.1
          have hI : LeastI w B zs (k + 1) (((WW.setCell ⟨B, 0, none⟩ (.int .i64 J.l)).setCell ⟨B, 1, none⟩ (.int .u64 J.c)).setCell ⟨B, 2, none⟩ (.int .i64 J.i)) := by
            have hL := hS3.2.2.out (.int .i64 J.l) (.int .u64 J.c) (.int .i64 J.i)
            refine ⟨HA2.out, ?_, hL⟩
            rw [HN2.out]
            exact labsAt_cons (setO (setO (setS _ r0) (ne_off (by omega))) (ne_off (by omega))) (setO (setS _ (setO r1 (ne_off (by omega)))) (ne_off (by omega))) (setS _ (setO (setO r2 (ne_off (by omega))) (ne_off (by omega)))) (labsAt_nil hL.2.2.1 hL.2.2.2.1)
          have HI := Lib.hid hI
          clear hS3 hI
          go_wp2
          go_roundw
          case rel => exact ⟨k + 1, by omega, by simp, HI.out⟩
          case measure => simp [intOf]; omega
    · obtain rfl : k = len := by omega
      rw [List.take_of_length_le (by rw [HL.out]; exact Nat.le_refl _)] at hall hmem
      rw [toldJ_yes _ _ hall] at HT
      rw [toldE_yes _ hall] at HE
      rw [HT.out] at hmem
      have hE0 : E = 0 := HE.out.symm
      subst hE0
      obtain ⟨o0, o1, o2, _⟩ := labsAt_head hmem
      clear hall hmem HE
      obtain ⟨v0, v1, v2, r0, r1, r2, f0, f1, f2⟩ := hL.1
      have HC := Lib.hid (And.intro (setO (x := .int .i64 T.i) (b := ⟨w.heap.size, 2, none⟩) (setO (x := .int .u64 T.c) (b := ⟨w.heap.size, 1, none⟩) (setS (.int .i64 T.l) r0) (ne_off (by omega))) (ne_off (by omega))) (And.intro (setO (x := .int .i64 T.i) (b := ⟨w.heap.size, 2, none⟩) (setS (.int .u64 T.c) (setO (x := .int .i64 T.l) (b := ⟨w.heap.size, 0, none⟩) r1 (ne_off (by omega)))) (ne_off (by omega))) (setS (.int .i64 T.i) (setO (x := .int .u64 T.c) (b := ⟨w.heap.size, 1, none⟩) (setO (x := .int .i64 T.l) (b := ⟨w.heap.size, 0, none⟩) r2 (ne_off (by omega))) (ne_off (by omega))))))
      have HB := Lib.hid (((hL.2.2.1.setCell (p := ⟨w.heap.size, 0, none⟩) (by simp) (.int .i64 T.l)).setCell (p := ⟨w.heap.size, 1, none⟩) (by simp) (.int .u64 T.c)).setCell (p := ⟨w.heap.size, 2, none⟩) (by simp) (.int .i64 T.i))
      clear hL
      go_wp2
      obtain ⟨c0, c1, c2⟩ := HC.out
      refine bodyPost_ret (v := .tuple #[.agg #[.int .i64 T.l, .int .u64 T.c, .int .i64 T.i], .int .i64 0]) ?_ rfl ⟨rfl, HB.out⟩
      clear HC HB r0 r1 r2 f0 f1 f2
      generalize ((wr.setCell ⟨w.heap.size, 0, none⟩ (.int .i64 T.l)).setCell ⟨w.heap.size, 1, none⟩ (.int .u64 T.c)).setCell ⟨w.heap.size, 2, none⟩ (.int .i64 T.i) = WF at c0 c1 c2 ⊢
      simp [results, Tryd.results27, go_sem, c0, c1, c2]

set_option maxRecDepth 100000 in
set_option maxHeartbeats 4000000 in
theorem refLeast_nil (cap : Nat) (a : Option Addr) (zs : List Lab) (hne : zs = []) (w : World) (hg : ErrT w) :
    Calls Tryd.prog 27 #[.slice a zs.length cap] w fun e w' =>
      e = .returned (.tuple #[.agg #[.int .i64 (toldJ Lab.bot zs).l, .int .u64 (toldJ Lab.bot zs).c, .int .i64 (toldJ Lab.bot zs).i], .int .i64 (toldE zs)]) ∧ Below w.heap.size w w' := by
  subst hne
  rw [show toldJ Lab.bot [] = Lab.bot from rfl, show toldE [] = 0 from rfl]
  show Calls _ _ #[.slice a 0 cap] _ _
  have hB : Below w.heap.size w (w.alloc (.cells #[.int .i64 0, .int .u64 0, .int .i64 0] 24)) := Below.new _ _
  have hR : Room3 w.heap.size (w.alloc (.cells #[.int .i64 0, .int .u64 0, .int .i64 0] 24)) := ⟨_, _, _, World.cell?_alloc_at _ _ _ _ rfl, World.cell?_alloc_at _ _ _ _ rfl, World.cell?_alloc_at _ _ _ _ rfl, by go_simp, by go_simp, by go_simp⟩
  go_enter Tryd.func27, Tryd.ntmps27
  go_wp2_with fail
  refine (refBottom_any _).mono ?_
  rintro e w1 ⟨he, hb⟩
  subst he
  replace hR := hR.below hb
  replace hB := below_more hB hb
  have hn := Below.new w1 (.cells #[.int .i64 0, .int .u64 0, .int .i64 7] 24)
  have hz : w.heap.size < w1.heap.size := hR.lt
  have hL : LeastR w w1.heap.size (w1.alloc (.cells #[.int .i64 0, .int .u64 0, .int .i64 7] 24)) := ⟨hR.below hn, ⟨_, _, _, World.cell?_alloc_at _ _ _ _ rfl, World.cell?_alloc_at _ _ _ _ rfl, World.cell?_alloc_at _ _ _ _ rfl, by go_simp, by go_simp, by go_simp⟩, below_more hB hn, (hg.more (below_more hB hn)), hg.lt, hz⟩
  have o0 : (w1.alloc (.cells #[.int .i64 0, .int .u64 0, .int .i64 7] 24)).cell? ⟨w1.heap.size, 0, none⟩ = some (.int .i64 0) := by simp
  have o1 : (w1.alloc (.cells #[.int .i64 0, .int .u64 0, .int .i64 7] 24)).cell? ⟨w1.heap.size, 1, none⟩ = some (.int .u64 0) := by simp
  have o2 : (w1.alloc (.cells #[.int .i64 0, .int .u64 0, .int .i64 7] 24)).cell? ⟨w1.heap.size, 2, none⟩ = some (.int .i64 7) := by simp
  clear hb hn hB hR hg
  go_wp2
  generalize hWW : w1.alloc (.cells #[.int .i64 0, .int .u64 0, .int .i64 7] 24) = W1 at hL o0 o1 o2 ⊢
  clear hWW
  have HLL := Lib.hid hL
  clear hL
  have HO := Lib.hid (And.intro o0 (And.intro o1 o2))
  clear o0 o1 o2
  go_loopw [5] (fun i wr => i = .int .i64 0 ∧ wr = W1) (fun _ _ => 0)
  case atStart => exact ⟨rfl, rfl⟩
  case round =>
    obtain ⟨rfl, rfl⟩ := hrel
    have hL := HLL.out
    obtain ⟨o0, o1, o2⟩ := HO.out
    obtain ⟨v0, v1, v2, r0, r1, r2, f0, f1, f2⟩ := hL.1
    have HC := Lib.hid (And.intro (setO (x := .int .i64 7) (b := ⟨w.heap.size, 2, none⟩) (setO (x := .int .u64 0) (b := ⟨w.heap.size, 1, none⟩) (setS (.int .i64 0) r0) (ne_off (by omega))) (ne_off (by omega))) (And.intro (setO (x := .int .i64 7) (b := ⟨w.heap.size, 2, none⟩) (setS (.int .u64 0) (setO (x := .int .i64 0) (b := ⟨w.heap.size, 0, none⟩) r1 (ne_off (by omega)))) (ne_off (by omega))) (setS (.int .i64 7) (setO (x := .int .u64 0) (b := ⟨w.heap.size, 1, none⟩) (setO (x := .int .i64 0) (b := ⟨w.heap.size, 0, none⟩) r2 (ne_off (by omega))) (ne_off (by omega))))))
    have HB := Lib.hid (((hL.2.2.1.setCell (p := ⟨w.heap.size, 0, none⟩) (by simp) (.int .i64 0)).setCell (p := ⟨w.heap.size, 1, none⟩) (by simp) (.int .u64 0)).setCell (p := ⟨w.heap.size, 2, none⟩) (by simp) (.int .i64 7))
    clear hL
    go_wp2
    obtain ⟨c0, c1, c2⟩ := HC.out
    refine bodyPost_ret (v := .tuple #[.agg #[.int .i64 0, .int .u64 0, .int .i64 7], .int .i64 0]) ?_ rfl ⟨rfl, HB.out⟩
    clear HC HB r0 r1 r2 f0 f1 f2
    generalize ((wr.setCell ⟨w.heap.size, 0, none⟩ (.int .i64 0)).setCell ⟨w.heap.size, 1, none⟩ (.int .u64 0)).setCell ⟨w.heap.size, 2, none⟩ (.int .i64 7) = WF at c0 c1 c2 ⊢
    simp [results, Tryd.results27, go_sem, c0, c1, c2]

theorem refLeast_any (a : Option Addr) (len cap : Nat) (zs : List Lab) (hlen : zs.length ≤ 1000) (hcap : len ≤ cap) (w : World) (hI : Labs w.heap.size w (.slice a len cap) zs) (hg : ErrT w) :
    Calls Tryd.prog 27 #[.slice a len cap] w fun e w' =>
      e = .returned (.tuple #[.agg #[.int .i64 (toldJ Lab.bot zs).l, .int .u64 (toldJ Lab.bot zs).c, .int .i64 (toldJ Lab.bot zs).i], .int .i64 (toldE zs)]) ∧ Below w.heap.size w w' := by
  obtain ⟨ao, cp, e, hk⟩ := hI
  injection e with e1 e2 e3
  subst e1 e2 e3
  by_cases hz : zs = []
  · exact refLeast_nil cap a zs hz w hg
  · obtain ⟨b, off, rfl, hb, hc⟩ := hk hz
    exact refLeast_some b off cap zs hz hlen hcap w hb hc hg

end Go.Proofs.YtafghaceahchhaaDoor
