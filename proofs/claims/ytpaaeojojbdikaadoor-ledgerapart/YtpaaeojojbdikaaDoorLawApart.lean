/- LedgerApart: the walk. -/
import Derived.Test.YtpaaeojojbdikaaDoorLawTurns
import Derived.Deep.RegionHeld3
namespace Go.Proofs.YtpaaeojojbdikaaDoor
open Go.RowKit Go.Proofs.Cats Go.Proofs.Lgr Go.Shelf Go.Sort

theorem UnderF {a b : Lab} {v : Bool} (ha : a.fits) (hb : b.fits) (h : a.under b = v) (w : World) : Calls Tryd.prog 27 #[.agg #[.int .i64 a.l, .int .u64 a.c, .int .i64 a.i], .agg #[.int .i64 b.l, .int .u64 b.c, .int .i64 b.i]] w (BoolP v w) := h ▸ Under_any a b ha hb w

set_option maxRecDepth 100000 in
set_option maxHeartbeats 2000000 in
theorem apart_walk (a b : Lab) (ha : a.fits) (hb0 : b.fits) (q n m : Int) (ao : Option Addr) (len cap : Nat) (zs : List Ln) (w : World) (hL : Lns w ao len cap zs) (hg : ErrT w) :
    Calls Tryd.prog 6 #[.slice ao len cap, .int .i64 q, .agg #[.int .i64 a.l, .int .u64 a.c, .int .i64 a.i], .agg #[.int .i64 b.l, .int .u64 b.c, .int .i64 b.i], .int .i64 n, .int .i64 m] w (TruePost w) := by
  have hB : Below w.heap.size w ((w.alloc (.cells #[.int .i64 a.l, .int .u64 a.c, .int .i64 a.i] 25)).alloc (.cells #[.int .i64 b.l, .int .u64 b.c, .int .i64 b.i] 25)) := (Below.new w _).alloc (by simp) _
  have D0 := Lib.hid (show Wd w _ from ⟨hB, hg.more hB⟩)
  have L0 := Lib.hid (hL.more hB)
  have A0 := Lib.hid (two_la w a b)
  have hle := hL.hle
  have hmx : cap ≤ 9223372036854775807 := by have := hL.hmax; unfold maxLen at this; exact this
  obtain ⟨k, hk⟩ : ∃ k, min len 30 = k := ⟨_, rfl⟩
  have hk30 : k ≤ 30 := by omega
  have hmn : (if (30 : Int) < (len : Int) then (30 : Int) else (len : Int)) = (k : Int) := by split <;> omega
  have hs := slice_first ao len cap k (by omega)
  obtain ⟨ys, hys⟩ : ∃ ys, zs.take 30 = ys := ⟨_, rfl⟩
  clear hB hL hg
  go_enter Tryd.func6, Tryd.ntmps6
  go_wp2_with (go_at_call 11; refine (shown_any _ D0.out.err).mono ?_)
  rintro e w1 ⟨rfl, hb1⟩
  have L1 := (L0.out.more hb1).few 30
  rw [hk, hys] at L1
  have hyl := L1.hlen
  have D1 := Lib.hid (D0.out.more hb1)
  have L1 := Lib.hid L1
  have A1 := Lib.hid (And.intro (A0.out.1.more hb1) (A0.out.2.more hb1))
  clear hb1 hys hk
  obtain ⟨⟨a0, a1, a2⟩, ⟨b0, b1, b2⟩⟩ := A1.out
  obtain ⟨⟨cs, ce⟩, hcs⟩ : ∃ r, chargeL ys q a n = r := ⟨_, rfl⟩
  obtain ⟨⟨gs, ge⟩, hgs⟩ : ∃ r, chargeL ys q b m = r := ⟨_, rfl⟩
  have hlc := charge_len ys q a n
  rw [hcs] at hlc
  replace hlc : cs.length ≤ ys.length + 1 := hlc
  have HOK := Lib.hid (fun (h : ce = 0) (hab : a ≠ b) => show (chargeL cs q b m).2 = ge ∧ usedL cs b = usedL ys b ∧ (a.under b = false → seenL cs b = seenL ys b) by
    have hok := (charge_iff ys q a n).1 (by rw [hcs]; exact h)
    have := apart (b := b) m (by omega) hok hab
    rw [hcs, hgs] at this
    exact this)
  obtain ⟨kc, hkc⟩ : ∃ k, cs.length = k := ⟨_, rfl⟩
  obtain ⟨kg, hkg⟩ : ∃ k, gs.length = k := ⟨_, rfl⟩
  rw [hkc, hyl] at hlc
  have HK := Lib.hid (And.intro hcs (And.intro hkc (And.intro hgs hkg)))
  clear hcs hgs hkc hkg
  go_wp2_with (go_at_call 23; refine (Charge_p ha HK.out.1 HK.out.2.1 L1.out D1.out.err).mono ?_)
  rintro e w2 ⟨v2, c2, rfl, ⟨hl2, _⟩, hb2⟩
  have D2 := Lib.hid (D1.out.more hb2)
  have L2 := Lib.hid (L1.out.more hb2)
  have C2 := Lib.hid hl2
  have A2 := Lib.hid (And.intro (A1.out.1.more hb2) (A1.out.2.more hb2))
  clear hl2 hb2 a0 a1 a2 b0 b1 b2
  obtain ⟨⟨a0, a1, a2⟩, ⟨b0, b1, b2⟩⟩ := A2.out
  go_wp2_with (go_at_call 23; refine (Charge_p hb0 HK.out.2.2.1 HK.out.2.2.2 L2.out D2.out.err).mono ?_)
  rintro e w3 ⟨v3, c3, rfl, _, hb3⟩
  have D3 := Lib.hid (D2.out.more hb3)
  have L3 := Lib.hid (L2.out.more hb3)
  have C3 := Lib.hid (C2.out.more hb3)
  have A3 := Lib.hid (And.intro (A2.out.1.more hb3) (A2.out.2.more hb3))
  clear hb3 a0 a1 a2 b0 b1 b2
  obtain ⟨⟨a0, a1, a2⟩, ⟨b0, b1, b2⟩⟩ := A3.out
  have q1 := eqL a b
  have q2 := eqInL a b
  by_cases x1 : ce = 0
  · subst x1
    by_cases hab : a = b
    · have hsm : a.same b = true := by rw [hab]; exact same_refl b
      rw [hsm] at q1 q2
      clear hab hsm
      go_wp2
      go_ret
      exact ⟨rfl, D3.out.below⟩
    · have hsm := same_no hab
      rw [hsm] at q1 q2
      have H3 := HOK.out rfl hab
      obtain ⟨⟨ds, de⟩, hds⟩ : ∃ r, chargeL cs q b m = r := ⟨_, rfl⟩
      rw [hds] at H3
      obtain ⟨h31, h32, h33⟩ := H3
      replace h31 : de = ge := h31
      subst h31
      obtain ⟨u, hu⟩ : ∃ u, usedL ys b = u := ⟨_, rfl⟩
      rw [hu] at h32
      have HU := Lib.hid (And.intro h32 hu)
      have HDS := Lib.hid hds
      have H33 := Lib.hid h33
      clear hds h32 hu h33 hab hsm HOK
      go_wp2_with (go_at_call 23; refine (Charge_p hb0 HDS.out rfl C3.out D3.out.err).mono ?_)
      rintro e w4 ⟨v4, c4, rfl, _, hb4⟩
      have D4 := Lib.hid (D3.out.more hb4)
      have L4 := Lib.hid (L3.out.more hb4)
      have C4 := Lib.hid (C3.out.more hb4)
      have A4 := Lib.hid (And.intro (A3.out.1.more hb4) (A3.out.2.more hb4))
      clear hb4 a0 a1 a2 b0 b1 b2 q1 q2
      cases hun : a.under b with
      | true =>
        have HX := Lib.hid hun
        clear hun
        go_wp2_with fail
        refine wp_region_held_drew (S := (fun w' => La3 w' w.heap.size a ∧ La3 w' (w.heap.size + 1) b ∧ Below w4.heap.size w4 w')) (by kernel_rfl) (⟨A4.out.1, A4.out.2, (Below.refl _ w4).drew⟩) (fun hS0 => ?_)
        refine wpAnyH_take (i := 0) (oi := { dst := some 58, op := Go.Op.move (Go.Operand.tmp 13), type := 4, pos := "law.go:64", after := #[], guard := none }) (v := ?_) rfl (by kernel_rfl) (by kernel_rfl) (by kernel_rfl) (fun _ _ _ h => h) (Or.inl ⟨by rfl, ?_⟩) hS0 ?_; rotate_left; (· (intro wq hSw; obtain ⟨y00, y01, y02⟩ := hSw.1; obtain ⟨y10, y11, y12⟩ := hSw.2.1; go_simp; try with_reducible rfl))
        try simp only [Act.put, List.setIfInBounds_toArray, List.set_cons_zero, List.set_cons_succ]
        refine wpAnyH_take (i := 1) (oi := { dst := some 59, op := Go.Op.move (Go.Operand.tmp 58), type := 4, pos := "law.go:64", after := #[{ on := 0, ground := Go.Ground.data }], guard := none }) (v := ?_) rfl (by kernel_rfl) (by kernel_rfl) (by kernel_rfl) (fun _ _ _ h => h) (Or.inl ⟨by rfl, ?_⟩) hS0 ?_; rotate_left; (· (intro wq hSw; obtain ⟨y00, y01, y02⟩ := hSw.1; obtain ⟨y10, y11, y12⟩ := hSw.2.1; go_simp; try with_reducible rfl))
        try simp only [Act.put, List.setIfInBounds_toArray, List.set_cons_zero, List.set_cons_succ]
        refine wpAnyH_take (i := 2) (oi := { dst := some 60, op := Go.Op.move (Go.Operand.tmp 17), type := 34, pos := "law.go:64", after := #[{ on := 1, ground := Go.Ground.guard }], guard := some (1, true) }) (v := ?_) rfl (by kernel_rfl) (by kernel_rfl) (by kernel_rfl) (fun _ _ _ h => h) (Or.inl ⟨by rfl, ?_⟩) hS0 ?_; rotate_left; (· (intro wq hSw; obtain ⟨y00, y01, y02⟩ := hSw.1; obtain ⟨y10, y11, y12⟩ := hSw.2.1; go_simp; try with_reducible rfl))
        try simp only [Act.put, List.setIfInBounds_toArray, List.set_cons_zero, List.set_cons_succ]
        refine wpAnyH_take (i := 3) (oi := { dst := some 61, op := Go.Op.move (Go.Operand.tmp 19), type := 34, pos := "law.go:64", after := #[{ on := 1, ground := Go.Ground.guard }], guard := some (1, true) }) (v := ?_) rfl (by kernel_rfl) (by kernel_rfl) (by kernel_rfl) (fun _ _ _ h => h) (Or.inl ⟨by rfl, ?_⟩) hS0 ?_; rotate_left; (· (intro wq hSw; obtain ⟨y00, y01, y02⟩ := hSw.1; obtain ⟨y10, y11, y12⟩ := hSw.2.1; go_simp; try with_reducible rfl))
        try simp only [Act.put, List.setIfInBounds_toArray, List.set_cons_zero, List.set_cons_succ]
        refine wpAnyH_take (i := 4) (oi := { dst := some 62, op := Go.Op.binOp Go.BinOp.eql 34 (Go.Operand.tmp 60) (Go.Operand.tmp 61) 34, type := 4, pos := "law.go:64", after := #[{ on := 2, ground := Go.Ground.data }, { on := 3, ground := Go.Ground.data }, { on := 1, ground := Go.Ground.guard }], guard := some (1, true) }) (v := ?_) rfl (by kernel_rfl) (by kernel_rfl) (by kernel_rfl) (fun _ _ _ h => h) (Or.inl ⟨by rfl, ?_⟩) hS0 ?_; rotate_left; (· (intro wq hSw; obtain ⟨y00, y01, y02⟩ := hSw.1; obtain ⟨y10, y11, y12⟩ := hSw.2.1; go_simp; try with_reducible rfl))
        try simp only [Act.put, List.setIfInBounds_toArray, List.set_cons_zero, List.set_cons_succ]
        refine wpAnyH_take (i := 5) (oi := { dst := some 63, op := Go.Op.pick (Go.Operand.tmp 59) (Go.Operand.tmp 62) (Go.Operand.const (Go.Value.bool false)), type := 4, pos := "law.go:64", after := #[{ on := 1, ground := Go.Ground.data }, { on := 4, ground := Go.Ground.data }], guard := none }) (v := ?_) rfl (by kernel_rfl) (by kernel_rfl) (by kernel_rfl) (fun _ _ _ h => h) (Or.inl ⟨by rfl, ?_⟩) hS0 ?_; rotate_left; (· (intro wq hSw; obtain ⟨y00, y01, y02⟩ := hSw.1; obtain ⟨y10, y11, y12⟩ := hSw.2.1; go_simp; try with_reducible rfl))
        try simp only [Act.put, List.setIfInBounds_toArray, List.set_cons_zero, List.set_cons_succ]
        refine wpAnyH_take (i := 6) (oi := { dst := some 64, op := Go.Op.move (Go.Operand.tmp 63), type := 4, pos := "law.go:64", after := #[{ on := 5, ground := Go.Ground.data }, { on := 1, ground := Go.Ground.chain }], guard := none }) (v := ?_) rfl (by kernel_rfl) (by kernel_rfl) (by kernel_rfl) (fun _ _ _ h => h) (Or.inl ⟨by rfl, ?_⟩) hS0 ?_; rotate_left; (· (intro wq hSw; obtain ⟨y00, y01, y02⟩ := hSw.1; obtain ⟨y10, y11, y12⟩ := hSw.2.1; go_simp; try with_reducible rfl))
        try simp only [Act.put, List.setIfInBounds_toArray, List.set_cons_zero, List.set_cons_succ]
        refine wpAnyH_take (i := 7) (oi := { dst := some 65, op := Go.Op.move (Go.Operand.tmp 14), type := 22, pos := "law.go:64", after := #[{ on := 6, ground := Go.Ground.guard }], guard := some (6, true) }) (v := ?_) rfl (by kernel_rfl) (by kernel_rfl) (by kernel_rfl) (fun _ _ _ h => h) (Or.inl ⟨by rfl, ?_⟩) hS0 ?_; rotate_left; (· (intro wq hSw; obtain ⟨y00, y01, y02⟩ := hSw.1; obtain ⟨y10, y11, y12⟩ := hSw.2.1; go_simp; try with_reducible rfl))
        try simp only [Act.put, List.setIfInBounds_toArray, List.set_cons_zero, List.set_cons_succ]
        refine wpAnyH_take (i := 8) (oi := { dst := some 66, op := Go.Op.load 25 (Go.Operand.tmp 9), type := 25, pos := "law.go:64", after := #[{ on := 6, ground := Go.Ground.guard }], guard := some (6, true) }) (v := ?_) rfl (by kernel_rfl) (by kernel_rfl) (by kernel_rfl) (fun _ _ _ h => h) (Or.inl ⟨by rfl, ?_⟩) hS0 ?_; rotate_left; (· (intro wq hSw; obtain ⟨y00, y01, y02⟩ := hSw.1; obtain ⟨y10, y11, y12⟩ := hSw.2.1; go_simp; try with_reducible rfl))
        try simp only [Act.put, List.setIfInBounds_toArray, List.set_cons_zero, List.set_cons_succ]
        refine wpAnyH_take (i := 10) (oi := { dst := some 68, op := Go.Op.move (Go.Operand.tmp 0), type := 22, pos := "law.go:64", after := #[{ on := 6, ground := Go.Ground.guard }], guard := some (6, true) }) (v := ?_) rfl (by kernel_rfl) (by kernel_rfl) (by kernel_rfl) (fun _ _ _ h => h) (Or.inl ⟨by rfl, ?_⟩) hS0 ?_; rotate_left; (· (intro wq hSw; obtain ⟨y00, y01, y02⟩ := hSw.1; obtain ⟨y10, y11, y12⟩ := hSw.2.1; go_simp; try with_reducible rfl))
        try simp only [Act.put, List.setIfInBounds_toArray, List.set_cons_zero, List.set_cons_succ]
        refine wpAnyH_take (i := 11) (oi := { dst := some 69, op := Go.Op.load 25 (Go.Operand.tmp 9), type := 25, pos := "law.go:64", after := #[{ on := 6, ground := Go.Ground.guard }], guard := some (6, true) }) (v := ?_) rfl (by kernel_rfl) (by kernel_rfl) (by kernel_rfl) (fun _ _ _ h => h) (Or.inl ⟨by rfl, ?_⟩) hS0 ?_; rotate_left; (· (intro wq hSw; obtain ⟨y00, y01, y02⟩ := hSw.1; obtain ⟨y10, y11, y12⟩ := hSw.2.1; go_simp; try with_reducible rfl))
        try simp only [Act.put, List.setIfInBounds_toArray, List.set_cons_zero, List.set_cons_succ]
        refine wpAnyH_ready (rs := [9]) (by kernel_rfl) (by simp) ?_
        refine AllReadyH.cons (o := { dst := some 67, op := Go.Op.call { callee := Go.Callee.value (Go.Operand.func 15), args := #[Go.Operand.tmp 65, Go.Operand.tmp 66], argTypes := #[22, 25] }, type := 3, pos := "law.go:64", after := #[{ on := 7, ground := Go.Ground.data }, { on := 8, ground := Go.Ground.data }, { on := 6, ground := Go.Ground.chain }, { on := 6, ground := Go.Ground.guard }], guard := some (6, true) }) rfl (fun K hK => ?_) AllReadyH.nil
        go_simp
        refine (Used_p (by omega) HU.out.1 (C4.out.more hS0.2.2)).mono ?_
        rintro e wr1 ⟨he, hb⟩
        subst he
        have S1 := (And.intro (hS0.1.more hb) (And.intro (hS0.2.1.more hb) (below_more hS0.2.2 hb)))
        refine hK.out _ _ S1 (fun hS1 => ?_)
        clear hK K hS0 hb S1
        try simp only [Act.put, List.setIfInBounds_toArray, List.set_cons_zero, List.set_cons_succ]
        refine wpAnyH_ready (rs := [12]) (by kernel_rfl) (by simp) ?_
        refine AllReadyH.cons (o := { dst := some 70, op := Go.Op.call { callee := Go.Callee.value (Go.Operand.func 15), args := #[Go.Operand.tmp 68, Go.Operand.tmp 69], argTypes := #[22, 25] }, type := 3, pos := "law.go:64", after := #[{ on := 10, ground := Go.Ground.data }, { on := 11, ground := Go.Ground.data }, { on := 9, ground := Go.Ground.chain }, { on := 6, ground := Go.Ground.guard }], guard := some (6, true) }) rfl (fun K hK => ?_) AllReadyH.nil
        go_simp
        refine (Used_p (by omega) HU.out.2 (L4.out.more hS1.2.2)).mono ?_
        rintro e wr2 ⟨he, hb⟩
        subst he
        have S2 := (And.intro (hS1.1.more hb) (And.intro (hS1.2.1.more hb) (below_more hS1.2.2 hb)))
        refine hK.out _ _ S2 (fun hS2 => ?_)
        clear hK K hS1 hb S2
        try simp only [Act.put, List.setIfInBounds_toArray, List.set_cons_zero, List.set_cons_succ]
        refine wpAnyH_take (i := 13) (oi := { dst := some 71, op := Go.Op.binOp Go.BinOp.eql 3 (Go.Operand.tmp 67) (Go.Operand.tmp 70) 3, type := 4, pos := "law.go:64", after := #[{ on := 9, ground := Go.Ground.data }, { on := 12, ground := Go.Ground.data }, { on := 6, ground := Go.Ground.guard }], guard := some (6, true) }) (v := ?_) rfl (by kernel_rfl) (by kernel_rfl) (by kernel_rfl) (fun _ _ _ h => h) (Or.inl ⟨by rfl, ?_⟩) hS2 ?_; rotate_left; (· (intro wq hSw; obtain ⟨y00, y01, y02⟩ := hSw.1; obtain ⟨y10, y11, y12⟩ := hSw.2.1; go_simp; try with_reducible rfl))
        try simp only [Act.put, List.setIfInBounds_toArray, List.set_cons_zero, List.set_cons_succ]
        refine wpAnyH_take (i := 14) (oi := { dst := some 72, op := Go.Op.pick (Go.Operand.tmp 64) (Go.Operand.tmp 71) (Go.Operand.const (Go.Value.bool false)), type := 4, pos := "law.go:64", after := #[{ on := 6, ground := Go.Ground.data }, { on := 13, ground := Go.Ground.data }], guard := none }) (v := ?_) rfl (by kernel_rfl) (by kernel_rfl) (by kernel_rfl) (fun _ _ _ h => h) (Or.inl ⟨by rfl, ?_⟩) hS2 ?_; rotate_left; (· (intro wq hSw; obtain ⟨y00, y01, y02⟩ := hSw.1; obtain ⟨y10, y11, y12⟩ := hSw.2.1; go_simp; try with_reducible rfl))
        try simp only [Act.put, List.setIfInBounds_toArray, List.set_cons_zero, List.set_cons_succ]
        refine wpAnyH_take (i := 15) (oi := { dst := some 73, op := Go.Op.move (Go.Operand.tmp 72), type := 4, pos := "law.go:64", after := #[{ on := 14, ground := Go.Ground.data }, { on := 12, ground := Go.Ground.chain }], guard := none }) (v := ?_) rfl (by kernel_rfl) (by kernel_rfl) (by kernel_rfl) (fun _ _ _ h => h) (Or.inl ⟨by rfl, ?_⟩) hS2 ?_; rotate_left; (· (intro wq hSw; obtain ⟨y00, y01, y02⟩ := hSw.1; obtain ⟨y10, y11, y12⟩ := hSw.2.1; go_simp; try with_reducible rfl))
        try simp only [Act.put, List.setIfInBounds_toArray, List.set_cons_zero, List.set_cons_succ]
        refine wpAnyH_take (i := 16) (oi := { dst := some 74, op := Go.Op.load 25 (Go.Operand.tmp 8), type := 25, pos := "law.go:64", after := #[{ on := 15, ground := Go.Ground.guard }], guard := some (15, true) }) (v := ?_) rfl (by kernel_rfl) (by kernel_rfl) (by kernel_rfl) (fun _ _ _ h => h) (Or.inl ⟨by rfl, ?_⟩) hS2 ?_; rotate_left; (· (intro wq hSw; obtain ⟨y00, y01, y02⟩ := hSw.1; obtain ⟨y10, y11, y12⟩ := hSw.2.1; go_simp; try with_reducible rfl))
        try simp only [Act.put, List.setIfInBounds_toArray, List.set_cons_zero, List.set_cons_succ]
        refine wpAnyH_take (i := 17) (oi := { dst := some 75, op := Go.Op.load 25 (Go.Operand.tmp 9), type := 25, pos := "law.go:64", after := #[{ on := 15, ground := Go.Ground.guard }], guard := some (15, true) }) (v := ?_) rfl (by kernel_rfl) (by kernel_rfl) (by kernel_rfl) (fun _ _ _ h => h) (Or.inl ⟨by rfl, ?_⟩) hS2 ?_; rotate_left; (· (intro wq hSw; obtain ⟨y00, y01, y02⟩ := hSw.1; obtain ⟨y10, y11, y12⟩ := hSw.2.1; go_simp; try with_reducible rfl))
        try simp only [Act.put, List.setIfInBounds_toArray, List.set_cons_zero, List.set_cons_succ]
        refine wpAnyH_ready (rs := [18]) (by kernel_rfl) (by simp) ?_
        refine AllReadyH.cons (o := { dst := some 76, op := Go.Op.call { callee := Go.Callee.value (Go.Operand.func 27), args := #[Go.Operand.tmp 74, Go.Operand.tmp 75], argTypes := #[25, 25] }, type := 4, pos := "law.go:64", after := #[{ on := 16, ground := Go.Ground.data }, { on := 17, ground := Go.Ground.data }, { on := 15, ground := Go.Ground.chain }, { on := 15, ground := Go.Ground.guard }], guard := some (15, true) }) rfl (fun K hK => ?_) AllReadyH.nil
        go_simp
        refine (UnderF ha hb0 HX.out _).mono ?_
        rintro e wr3 ⟨he, hb⟩
        subst he
        have S3 := (And.intro (hS2.1.more hb) (And.intro (hS2.2.1.more hb) (below_more hS2.2.2 hb)))
        refine hK.out _ _ S3 (fun hS3 => ?_)
        clear hK K hS2 hb S3
        try simp only [Act.put, List.setIfInBounds_toArray, List.set_cons_zero, List.set_cons_succ]
        refine wpAnyH_take (i := 19) (oi := { dst := some 77, op := Go.Op.move (Go.Operand.tmp 76), type := 4, pos := "law.go:64", after := #[{ on := 18, ground := Go.Ground.data }, { on := 18, ground := Go.Ground.chain }, { on := 15, ground := Go.Ground.guard }], guard := some (15, true) }) (v := ?_) rfl (by kernel_rfl) (by kernel_rfl) (by kernel_rfl) (fun _ _ _ h => h) (Or.inl ⟨by rfl, ?_⟩) hS3 ?_; rotate_left; (· (intro wq hSw; obtain ⟨y00, y01, y02⟩ := hSw.1; obtain ⟨y10, y11, y12⟩ := hSw.2.1; go_simp; try with_reducible rfl))
        try simp only [Act.put, List.setIfInBounds_toArray, List.set_cons_zero, List.set_cons_succ]
        refine wpAnyH_take (i := 20) (oi := { dst := some 78, op := Go.Op.move (Go.Operand.tmp 0), type := 22, pos := "law.go:64", after := #[{ on := 19, ground := Go.Ground.guard }], guard := some (19, false) }) (v := undef) rfl (by kernel_rfl) (by kernel_rfl) (by kernel_rfl) (fun _ _ _ h => h) (Or.inr ⟨by rfl, rfl⟩) hS3 ?_
        try simp only [Act.put, List.setIfInBounds_toArray, List.set_cons_zero, List.set_cons_succ]
        refine wpAnyH_take (i := 21) (oi := { dst := some 79, op := Go.Op.load 25 (Go.Operand.tmp 9), type := 25, pos := "law.go:64", after := #[{ on := 19, ground := Go.Ground.guard }], guard := some (19, false) }) (v := undef) rfl (by kernel_rfl) (by kernel_rfl) (by kernel_rfl) (fun _ _ _ h => h) (Or.inr ⟨by rfl, rfl⟩) hS3 ?_
        try simp only [Act.put, List.setIfInBounds_toArray, List.set_cons_zero, List.set_cons_succ]
        refine wpAnyH_take (i := 23) (oi := { dst := some 81, op := Go.Op.move (Go.Operand.tmp 14), type := 22, pos := "law.go:64", after := #[{ on := 19, ground := Go.Ground.guard }], guard := some (19, false) }) (v := undef) rfl (by kernel_rfl) (by kernel_rfl) (by kernel_rfl) (fun _ _ _ h => h) (Or.inr ⟨by rfl, rfl⟩) hS3 ?_
        try simp only [Act.put, List.setIfInBounds_toArray, List.set_cons_zero, List.set_cons_succ]
        refine wpAnyH_take (i := 24) (oi := { dst := some 82, op := Go.Op.load 25 (Go.Operand.tmp 9), type := 25, pos := "law.go:64", after := #[{ on := 19, ground := Go.Ground.guard }], guard := some (19, false) }) (v := undef) rfl (by kernel_rfl) (by kernel_rfl) (by kernel_rfl) (fun _ _ _ h => h) (Or.inr ⟨by rfl, rfl⟩) hS3 ?_
        try simp only [Act.put, List.setIfInBounds_toArray, List.set_cons_zero, List.set_cons_succ]
        refine wpAnyH_ready (rs := [22]) (by kernel_rfl) (by simp) ?_
        refine AllReadyH.cons (o := { dst := some 80, op := Go.Op.call { callee := Go.Callee.value (Go.Operand.func 18), args := #[Go.Operand.tmp 78, Go.Operand.tmp 79], argTypes := #[22, 25] }, type := 22, pos := "law.go:64", after := #[{ on := 20, ground := Go.Ground.data }, { on := 21, ground := Go.Ground.data }, { on := 19, ground := Go.Ground.chain }, { on := 19, ground := Go.Ground.guard }], guard := some (19, false) }) rfl (fun K hK => ?_) AllReadyH.nil
        rw [if_neg (by intro h; cases h)]
        refine hK.out _ _ hS3 (fun hS4 => ?_)
        clear hK K hS3
        try simp only [Act.put, List.setIfInBounds_toArray, List.set_cons_zero, List.set_cons_succ]
        refine wpAnyH_ready (rs := [25]) (by kernel_rfl) (by simp) ?_
        refine AllReadyH.cons (o := { dst := some 83, op := Go.Op.call { callee := Go.Callee.value (Go.Operand.func 18), args := #[Go.Operand.tmp 81, Go.Operand.tmp 82], argTypes := #[22, 25] }, type := 22, pos := "law.go:64", after := #[{ on := 23, ground := Go.Ground.data }, { on := 24, ground := Go.Ground.data }, { on := 22, ground := Go.Ground.chain }, { on := 19, ground := Go.Ground.guard }], guard := some (19, false) }) rfl (fun K hK => ?_) AllReadyH.nil
        rw [if_neg (by intro h; cases h)]
        refine hK.out _ _ hS4 (fun hS5 => ?_)
        clear hK K hS4
        try simp only [Act.put, List.setIfInBounds_toArray, List.set_cons_zero, List.set_cons_succ]
        refine wpAnyH_ready (rs := [26]) (by kernel_rfl) (by simp) ?_
        refine AllReadyH.cons (o := { dst := some 84, op := Go.Op.call { callee := Go.Callee.value (Go.Operand.func 22), args := #[Go.Operand.tmp 80, Go.Operand.tmp 83], argTypes := #[22, 22] }, type := 4, pos := "law.go:64", after := #[{ on := 22, ground := Go.Ground.data }, { on := 25, ground := Go.Ground.data }, { on := 25, ground := Go.Ground.chain }, { on := 19, ground := Go.Ground.guard }], guard := some (19, false) }) rfl (fun K hK => ?_) AllReadyH.nil
        rw [if_neg (by intro h; cases h)]
        refine hK.out _ _ hS5 (fun hS6 => ?_)
        clear hK K hS5
        try simp only [Act.put, List.setIfInBounds_toArray, List.set_cons_zero, List.set_cons_succ]
        refine wpAnyH_take (i := 27) (oi := { dst := some 85, op := Go.Op.pick (Go.Operand.tmp 77) (Go.Operand.const (Go.Value.bool true)) (Go.Operand.tmp 84), type := 4, pos := "law.go:64", after := #[{ on := 19, ground := Go.Ground.data }, { on := 26, ground := Go.Ground.data }, { on := 15, ground := Go.Ground.guard }], guard := some (15, true) }) (v := ?_) rfl (by kernel_rfl) (by kernel_rfl) (by kernel_rfl) (fun _ _ _ h => h) (Or.inl ⟨by rfl, ?_⟩) hS6 ?_; rotate_left; (· (intro wq hSw; obtain ⟨y00, y01, y02⟩ := hSw.1; obtain ⟨y10, y11, y12⟩ := hSw.2.1; go_simp; try with_reducible rfl))
        try simp only [Act.put, List.setIfInBounds_toArray, List.set_cons_zero, List.set_cons_succ]
        refine wpAnyH_take (i := 28) (oi := { dst := some 86, op := Go.Op.pick (Go.Operand.tmp 73) (Go.Operand.tmp 85) (Go.Operand.const (Go.Value.bool false)), type := 4, pos := "law.go:64", after := #[{ on := 15, ground := Go.Ground.data }, { on := 27, ground := Go.Ground.data }], guard := none }) (v := ?_) rfl (by kernel_rfl) (by kernel_rfl) (by kernel_rfl) (fun _ _ _ h => h) (Or.inl ⟨by rfl, ?_⟩) hS6 ?_; rotate_left; (· (intro wq hSw; obtain ⟨y00, y01, y02⟩ := hSw.1; obtain ⟨y10, y11, y12⟩ := hSw.2.1; go_simp; try with_reducible rfl))
        try simp only [Act.put, List.setIfInBounds_toArray, List.set_cons_zero, List.set_cons_succ]
        refine wpAnyH_take (i := 29) (oi := { dst := some 12, op := Go.Op.assign (Go.Operand.tmp 86), type := 4, pos := "law.go:64", after := #[{ on := 28, ground := Go.Ground.data }, { on := 26, ground := Go.Ground.chain }, { on := 0, ground := Go.Ground.phase }, { on := 1, ground := Go.Ground.phase }, { on := 2, ground := Go.Ground.phase }, { on := 3, ground := Go.Ground.phase }, { on := 4, ground := Go.Ground.phase }, { on := 5, ground := Go.Ground.phase }, { on := 6, ground := Go.Ground.phase }, { on := 7, ground := Go.Ground.phase }, { on := 8, ground := Go.Ground.phase }, { on := 9, ground := Go.Ground.phase }, { on := 10, ground := Go.Ground.phase }, { on := 11, ground := Go.Ground.phase }, { on := 12, ground := Go.Ground.phase }, { on := 13, ground := Go.Ground.phase }, { on := 14, ground := Go.Ground.phase }, { on := 15, ground := Go.Ground.phase }, { on := 16, ground := Go.Ground.phase }, { on := 17, ground := Go.Ground.phase }, { on := 18, ground := Go.Ground.phase }, { on := 19, ground := Go.Ground.phase }, { on := 20, ground := Go.Ground.phase }, { on := 21, ground := Go.Ground.phase }, { on := 22, ground := Go.Ground.phase }, { on := 23, ground := Go.Ground.phase }, { on := 24, ground := Go.Ground.phase }, { on := 25, ground := Go.Ground.phase }, { on := 26, ground := Go.Ground.phase }, { on := 27, ground := Go.Ground.phase }, { on := 28, ground := Go.Ground.phase }], guard := none }) (v := ?_) rfl (by kernel_rfl) (by kernel_rfl) (by kernel_rfl) (fun _ _ _ h => h) (Or.inl ⟨by rfl, ?_⟩) hS6 ?_; rotate_left; (· (intro wq hSw; obtain ⟨y00, y01, y02⟩ := hSw.1; obtain ⟨y10, y11, y12⟩ := hSw.2.1; go_simp; try with_reducible rfl))
        try simp only [Act.put, List.setIfInBounds_toArray, List.set_cons_zero, List.set_cons_succ]
        refine wpAnyH_done (by kernel_rfl) ?_ _
        go_wp2
        go_ret
        exact ⟨rfl, below_more D4.out.below hS6.2.2⟩
      | false =>
        have hss := H33.out hun
        obtain ⟨ss, hs1⟩ : ∃ ss, seenL ys b = ss := ⟨_, rfl⟩
        rw [hs1] at hss
        obtain ⟨ks, hks⟩ : ∃ ks, ss.length = ks := ⟨_, rfl⟩
        have hks2 : ks ≤ 30 := by
          have h1 : (seenL ys b).length ≤ ys.length := List.length_filter_le _ _
          rw [hs1, hks] at h1
          omega
        have HX := Lib.hid (And.intro hun (And.intro hs1 hks))
        have HC := Lib.hid hss
        clear hun hs1 hks hss
        go_wp2_with fail
        refine wp_region_held_drew (S := (fun w' => La3 w' w.heap.size a ∧ La3 w' (w.heap.size + 1) b ∧ Below w4.heap.size w4 w')) (by kernel_rfl) (⟨A4.out.1, A4.out.2, (Below.refl _ w4).drew⟩) (fun hS0 => ?_)
        refine wpAnyH_take (i := 0) (oi := { dst := some 58, op := Go.Op.move (Go.Operand.tmp 13), type := 4, pos := "law.go:64", after := #[], guard := none }) (v := ?_) rfl (by kernel_rfl) (by kernel_rfl) (by kernel_rfl) (fun _ _ _ h => h) (Or.inl ⟨by rfl, ?_⟩) hS0 ?_; rotate_left; (· (intro wq hSw; obtain ⟨y00, y01, y02⟩ := hSw.1; obtain ⟨y10, y11, y12⟩ := hSw.2.1; go_simp; try with_reducible rfl))
        try simp only [Act.put, List.setIfInBounds_toArray, List.set_cons_zero, List.set_cons_succ]
        refine wpAnyH_take (i := 1) (oi := { dst := some 59, op := Go.Op.move (Go.Operand.tmp 58), type := 4, pos := "law.go:64", after := #[{ on := 0, ground := Go.Ground.data }], guard := none }) (v := ?_) rfl (by kernel_rfl) (by kernel_rfl) (by kernel_rfl) (fun _ _ _ h => h) (Or.inl ⟨by rfl, ?_⟩) hS0 ?_; rotate_left; (· (intro wq hSw; obtain ⟨y00, y01, y02⟩ := hSw.1; obtain ⟨y10, y11, y12⟩ := hSw.2.1; go_simp; try with_reducible rfl))
        try simp only [Act.put, List.setIfInBounds_toArray, List.set_cons_zero, List.set_cons_succ]
        refine wpAnyH_take (i := 2) (oi := { dst := some 60, op := Go.Op.move (Go.Operand.tmp 17), type := 34, pos := "law.go:64", after := #[{ on := 1, ground := Go.Ground.guard }], guard := some (1, true) }) (v := ?_) rfl (by kernel_rfl) (by kernel_rfl) (by kernel_rfl) (fun _ _ _ h => h) (Or.inl ⟨by rfl, ?_⟩) hS0 ?_; rotate_left; (· (intro wq hSw; obtain ⟨y00, y01, y02⟩ := hSw.1; obtain ⟨y10, y11, y12⟩ := hSw.2.1; go_simp; try with_reducible rfl))
        try simp only [Act.put, List.setIfInBounds_toArray, List.set_cons_zero, List.set_cons_succ]
        refine wpAnyH_take (i := 3) (oi := { dst := some 61, op := Go.Op.move (Go.Operand.tmp 19), type := 34, pos := "law.go:64", after := #[{ on := 1, ground := Go.Ground.guard }], guard := some (1, true) }) (v := ?_) rfl (by kernel_rfl) (by kernel_rfl) (by kernel_rfl) (fun _ _ _ h => h) (Or.inl ⟨by rfl, ?_⟩) hS0 ?_; rotate_left; (· (intro wq hSw; obtain ⟨y00, y01, y02⟩ := hSw.1; obtain ⟨y10, y11, y12⟩ := hSw.2.1; go_simp; try with_reducible rfl))
        try simp only [Act.put, List.setIfInBounds_toArray, List.set_cons_zero, List.set_cons_succ]
        refine wpAnyH_take (i := 4) (oi := { dst := some 62, op := Go.Op.binOp Go.BinOp.eql 34 (Go.Operand.tmp 60) (Go.Operand.tmp 61) 34, type := 4, pos := "law.go:64", after := #[{ on := 2, ground := Go.Ground.data }, { on := 3, ground := Go.Ground.data }, { on := 1, ground := Go.Ground.guard }], guard := some (1, true) }) (v := ?_) rfl (by kernel_rfl) (by kernel_rfl) (by kernel_rfl) (fun _ _ _ h => h) (Or.inl ⟨by rfl, ?_⟩) hS0 ?_; rotate_left; (· (intro wq hSw; obtain ⟨y00, y01, y02⟩ := hSw.1; obtain ⟨y10, y11, y12⟩ := hSw.2.1; go_simp; try with_reducible rfl))
        try simp only [Act.put, List.setIfInBounds_toArray, List.set_cons_zero, List.set_cons_succ]
        refine wpAnyH_take (i := 5) (oi := { dst := some 63, op := Go.Op.pick (Go.Operand.tmp 59) (Go.Operand.tmp 62) (Go.Operand.const (Go.Value.bool false)), type := 4, pos := "law.go:64", after := #[{ on := 1, ground := Go.Ground.data }, { on := 4, ground := Go.Ground.data }], guard := none }) (v := ?_) rfl (by kernel_rfl) (by kernel_rfl) (by kernel_rfl) (fun _ _ _ h => h) (Or.inl ⟨by rfl, ?_⟩) hS0 ?_; rotate_left; (· (intro wq hSw; obtain ⟨y00, y01, y02⟩ := hSw.1; obtain ⟨y10, y11, y12⟩ := hSw.2.1; go_simp; try with_reducible rfl))
        try simp only [Act.put, List.setIfInBounds_toArray, List.set_cons_zero, List.set_cons_succ]
        refine wpAnyH_take (i := 6) (oi := { dst := some 64, op := Go.Op.move (Go.Operand.tmp 63), type := 4, pos := "law.go:64", after := #[{ on := 5, ground := Go.Ground.data }, { on := 1, ground := Go.Ground.chain }], guard := none }) (v := ?_) rfl (by kernel_rfl) (by kernel_rfl) (by kernel_rfl) (fun _ _ _ h => h) (Or.inl ⟨by rfl, ?_⟩) hS0 ?_; rotate_left; (· (intro wq hSw; obtain ⟨y00, y01, y02⟩ := hSw.1; obtain ⟨y10, y11, y12⟩ := hSw.2.1; go_simp; try with_reducible rfl))
        try simp only [Act.put, List.setIfInBounds_toArray, List.set_cons_zero, List.set_cons_succ]
        refine wpAnyH_take (i := 7) (oi := { dst := some 65, op := Go.Op.move (Go.Operand.tmp 14), type := 22, pos := "law.go:64", after := #[{ on := 6, ground := Go.Ground.guard }], guard := some (6, true) }) (v := ?_) rfl (by kernel_rfl) (by kernel_rfl) (by kernel_rfl) (fun _ _ _ h => h) (Or.inl ⟨by rfl, ?_⟩) hS0 ?_; rotate_left; (· (intro wq hSw; obtain ⟨y00, y01, y02⟩ := hSw.1; obtain ⟨y10, y11, y12⟩ := hSw.2.1; go_simp; try with_reducible rfl))
        try simp only [Act.put, List.setIfInBounds_toArray, List.set_cons_zero, List.set_cons_succ]
        refine wpAnyH_take (i := 8) (oi := { dst := some 66, op := Go.Op.load 25 (Go.Operand.tmp 9), type := 25, pos := "law.go:64", after := #[{ on := 6, ground := Go.Ground.guard }], guard := some (6, true) }) (v := ?_) rfl (by kernel_rfl) (by kernel_rfl) (by kernel_rfl) (fun _ _ _ h => h) (Or.inl ⟨by rfl, ?_⟩) hS0 ?_; rotate_left; (· (intro wq hSw; obtain ⟨y00, y01, y02⟩ := hSw.1; obtain ⟨y10, y11, y12⟩ := hSw.2.1; go_simp; try with_reducible rfl))
        try simp only [Act.put, List.setIfInBounds_toArray, List.set_cons_zero, List.set_cons_succ]
        refine wpAnyH_take (i := 10) (oi := { dst := some 68, op := Go.Op.move (Go.Operand.tmp 0), type := 22, pos := "law.go:64", after := #[{ on := 6, ground := Go.Ground.guard }], guard := some (6, true) }) (v := ?_) rfl (by kernel_rfl) (by kernel_rfl) (by kernel_rfl) (fun _ _ _ h => h) (Or.inl ⟨by rfl, ?_⟩) hS0 ?_; rotate_left; (· (intro wq hSw; obtain ⟨y00, y01, y02⟩ := hSw.1; obtain ⟨y10, y11, y12⟩ := hSw.2.1; go_simp; try with_reducible rfl))
        try simp only [Act.put, List.setIfInBounds_toArray, List.set_cons_zero, List.set_cons_succ]
        refine wpAnyH_take (i := 11) (oi := { dst := some 69, op := Go.Op.load 25 (Go.Operand.tmp 9), type := 25, pos := "law.go:64", after := #[{ on := 6, ground := Go.Ground.guard }], guard := some (6, true) }) (v := ?_) rfl (by kernel_rfl) (by kernel_rfl) (by kernel_rfl) (fun _ _ _ h => h) (Or.inl ⟨by rfl, ?_⟩) hS0 ?_; rotate_left; (· (intro wq hSw; obtain ⟨y00, y01, y02⟩ := hSw.1; obtain ⟨y10, y11, y12⟩ := hSw.2.1; go_simp; try with_reducible rfl))
        try simp only [Act.put, List.setIfInBounds_toArray, List.set_cons_zero, List.set_cons_succ]
        refine wpAnyH_ready (rs := [9]) (by kernel_rfl) (by simp) ?_
        refine AllReadyH.cons (o := { dst := some 67, op := Go.Op.call { callee := Go.Callee.value (Go.Operand.func 15), args := #[Go.Operand.tmp 65, Go.Operand.tmp 66], argTypes := #[22, 25] }, type := 3, pos := "law.go:64", after := #[{ on := 7, ground := Go.Ground.data }, { on := 8, ground := Go.Ground.data }, { on := 6, ground := Go.Ground.chain }, { on := 6, ground := Go.Ground.guard }], guard := some (6, true) }) rfl (fun K hK => ?_) AllReadyH.nil
        go_simp
        refine (Used_p (by omega) HU.out.1 (C4.out.more hS0.2.2)).mono ?_
        rintro e wr1 ⟨he, hb⟩
        subst he
        have S1 := (And.intro (hS0.1.more hb) (And.intro (hS0.2.1.more hb) (below_more hS0.2.2 hb)))
        refine hK.out _ _ S1 (fun hS1 => ?_)
        clear hK K hS0 hb S1
        try simp only [Act.put, List.setIfInBounds_toArray, List.set_cons_zero, List.set_cons_succ]
        refine wpAnyH_ready (rs := [12]) (by kernel_rfl) (by simp) ?_
        refine AllReadyH.cons (o := { dst := some 70, op := Go.Op.call { callee := Go.Callee.value (Go.Operand.func 15), args := #[Go.Operand.tmp 68, Go.Operand.tmp 69], argTypes := #[22, 25] }, type := 3, pos := "law.go:64", after := #[{ on := 10, ground := Go.Ground.data }, { on := 11, ground := Go.Ground.data }, { on := 9, ground := Go.Ground.chain }, { on := 6, ground := Go.Ground.guard }], guard := some (6, true) }) rfl (fun K hK => ?_) AllReadyH.nil
        go_simp
        refine (Used_p (by omega) HU.out.2 (L4.out.more hS1.2.2)).mono ?_
        rintro e wr2 ⟨he, hb⟩
        subst he
        have S2 := (And.intro (hS1.1.more hb) (And.intro (hS1.2.1.more hb) (below_more hS1.2.2 hb)))
        refine hK.out _ _ S2 (fun hS2 => ?_)
        clear hK K hS1 hb S2
        try simp only [Act.put, List.setIfInBounds_toArray, List.set_cons_zero, List.set_cons_succ]
        refine wpAnyH_take (i := 13) (oi := { dst := some 71, op := Go.Op.binOp Go.BinOp.eql 3 (Go.Operand.tmp 67) (Go.Operand.tmp 70) 3, type := 4, pos := "law.go:64", after := #[{ on := 9, ground := Go.Ground.data }, { on := 12, ground := Go.Ground.data }, { on := 6, ground := Go.Ground.guard }], guard := some (6, true) }) (v := ?_) rfl (by kernel_rfl) (by kernel_rfl) (by kernel_rfl) (fun _ _ _ h => h) (Or.inl ⟨by rfl, ?_⟩) hS2 ?_; rotate_left; (· (intro wq hSw; obtain ⟨y00, y01, y02⟩ := hSw.1; obtain ⟨y10, y11, y12⟩ := hSw.2.1; go_simp; try with_reducible rfl))
        try simp only [Act.put, List.setIfInBounds_toArray, List.set_cons_zero, List.set_cons_succ]
        refine wpAnyH_take (i := 14) (oi := { dst := some 72, op := Go.Op.pick (Go.Operand.tmp 64) (Go.Operand.tmp 71) (Go.Operand.const (Go.Value.bool false)), type := 4, pos := "law.go:64", after := #[{ on := 6, ground := Go.Ground.data }, { on := 13, ground := Go.Ground.data }], guard := none }) (v := ?_) rfl (by kernel_rfl) (by kernel_rfl) (by kernel_rfl) (fun _ _ _ h => h) (Or.inl ⟨by rfl, ?_⟩) hS2 ?_; rotate_left; (· (intro wq hSw; obtain ⟨y00, y01, y02⟩ := hSw.1; obtain ⟨y10, y11, y12⟩ := hSw.2.1; go_simp; try with_reducible rfl))
        try simp only [Act.put, List.setIfInBounds_toArray, List.set_cons_zero, List.set_cons_succ]
        refine wpAnyH_take (i := 15) (oi := { dst := some 73, op := Go.Op.move (Go.Operand.tmp 72), type := 4, pos := "law.go:64", after := #[{ on := 14, ground := Go.Ground.data }, { on := 12, ground := Go.Ground.chain }], guard := none }) (v := ?_) rfl (by kernel_rfl) (by kernel_rfl) (by kernel_rfl) (fun _ _ _ h => h) (Or.inl ⟨by rfl, ?_⟩) hS2 ?_; rotate_left; (· (intro wq hSw; obtain ⟨y00, y01, y02⟩ := hSw.1; obtain ⟨y10, y11, y12⟩ := hSw.2.1; go_simp; try with_reducible rfl))
        try simp only [Act.put, List.setIfInBounds_toArray, List.set_cons_zero, List.set_cons_succ]
        refine wpAnyH_take (i := 16) (oi := { dst := some 74, op := Go.Op.load 25 (Go.Operand.tmp 8), type := 25, pos := "law.go:64", after := #[{ on := 15, ground := Go.Ground.guard }], guard := some (15, true) }) (v := ?_) rfl (by kernel_rfl) (by kernel_rfl) (by kernel_rfl) (fun _ _ _ h => h) (Or.inl ⟨by rfl, ?_⟩) hS2 ?_; rotate_left; (· (intro wq hSw; obtain ⟨y00, y01, y02⟩ := hSw.1; obtain ⟨y10, y11, y12⟩ := hSw.2.1; go_simp; try with_reducible rfl))
        try simp only [Act.put, List.setIfInBounds_toArray, List.set_cons_zero, List.set_cons_succ]
        refine wpAnyH_take (i := 17) (oi := { dst := some 75, op := Go.Op.load 25 (Go.Operand.tmp 9), type := 25, pos := "law.go:64", after := #[{ on := 15, ground := Go.Ground.guard }], guard := some (15, true) }) (v := ?_) rfl (by kernel_rfl) (by kernel_rfl) (by kernel_rfl) (fun _ _ _ h => h) (Or.inl ⟨by rfl, ?_⟩) hS2 ?_; rotate_left; (· (intro wq hSw; obtain ⟨y00, y01, y02⟩ := hSw.1; obtain ⟨y10, y11, y12⟩ := hSw.2.1; go_simp; try with_reducible rfl))
        try simp only [Act.put, List.setIfInBounds_toArray, List.set_cons_zero, List.set_cons_succ]
        refine wpAnyH_ready (rs := [18]) (by kernel_rfl) (by simp) ?_
        refine AllReadyH.cons (o := { dst := some 76, op := Go.Op.call { callee := Go.Callee.value (Go.Operand.func 27), args := #[Go.Operand.tmp 74, Go.Operand.tmp 75], argTypes := #[25, 25] }, type := 4, pos := "law.go:64", after := #[{ on := 16, ground := Go.Ground.data }, { on := 17, ground := Go.Ground.data }, { on := 15, ground := Go.Ground.chain }, { on := 15, ground := Go.Ground.guard }], guard := some (15, true) }) rfl (fun K hK => ?_) AllReadyH.nil
        go_simp
        refine (UnderF ha hb0 HX.out.1 _).mono ?_
        rintro e wr3 ⟨he, hb⟩
        subst he
        have S3 := (And.intro (hS2.1.more hb) (And.intro (hS2.2.1.more hb) (below_more hS2.2.2 hb)))
        refine hK.out _ _ S3 (fun hS3 => ?_)
        clear hK K hS2 hb S3
        try simp only [Act.put, List.setIfInBounds_toArray, List.set_cons_zero, List.set_cons_succ]
        refine wpAnyH_take (i := 19) (oi := { dst := some 77, op := Go.Op.move (Go.Operand.tmp 76), type := 4, pos := "law.go:64", after := #[{ on := 18, ground := Go.Ground.data }, { on := 18, ground := Go.Ground.chain }, { on := 15, ground := Go.Ground.guard }], guard := some (15, true) }) (v := ?_) rfl (by kernel_rfl) (by kernel_rfl) (by kernel_rfl) (fun _ _ _ h => h) (Or.inl ⟨by rfl, ?_⟩) hS3 ?_; rotate_left; (· (intro wq hSw; obtain ⟨y00, y01, y02⟩ := hSw.1; obtain ⟨y10, y11, y12⟩ := hSw.2.1; go_simp; try with_reducible rfl))
        try simp only [Act.put, List.setIfInBounds_toArray, List.set_cons_zero, List.set_cons_succ]
        refine wpAnyH_take (i := 20) (oi := { dst := some 78, op := Go.Op.move (Go.Operand.tmp 0), type := 22, pos := "law.go:64", after := #[{ on := 19, ground := Go.Ground.guard }], guard := some (19, false) }) (v := ?_) rfl (by kernel_rfl) (by kernel_rfl) (by kernel_rfl) (fun _ _ _ h => h) (Or.inl ⟨by rfl, ?_⟩) hS3 ?_; rotate_left; (· (intro wq hSw; obtain ⟨y00, y01, y02⟩ := hSw.1; obtain ⟨y10, y11, y12⟩ := hSw.2.1; go_simp; try with_reducible rfl))
        try simp only [Act.put, List.setIfInBounds_toArray, List.set_cons_zero, List.set_cons_succ]
        refine wpAnyH_take (i := 21) (oi := { dst := some 79, op := Go.Op.load 25 (Go.Operand.tmp 9), type := 25, pos := "law.go:64", after := #[{ on := 19, ground := Go.Ground.guard }], guard := some (19, false) }) (v := ?_) rfl (by kernel_rfl) (by kernel_rfl) (by kernel_rfl) (fun _ _ _ h => h) (Or.inl ⟨by rfl, ?_⟩) hS3 ?_; rotate_left; (· (intro wq hSw; obtain ⟨y00, y01, y02⟩ := hSw.1; obtain ⟨y10, y11, y12⟩ := hSw.2.1; go_simp; try with_reducible rfl))
        try simp only [Act.put, List.setIfInBounds_toArray, List.set_cons_zero, List.set_cons_succ]
        refine wpAnyH_take (i := 23) (oi := { dst := some 81, op := Go.Op.move (Go.Operand.tmp 14), type := 22, pos := "law.go:64", after := #[{ on := 19, ground := Go.Ground.guard }], guard := some (19, false) }) (v := ?_) rfl (by kernel_rfl) (by kernel_rfl) (by kernel_rfl) (fun _ _ _ h => h) (Or.inl ⟨by rfl, ?_⟩) hS3 ?_; rotate_left; (· (intro wq hSw; obtain ⟨y00, y01, y02⟩ := hSw.1; obtain ⟨y10, y11, y12⟩ := hSw.2.1; go_simp; try with_reducible rfl))
        try simp only [Act.put, List.setIfInBounds_toArray, List.set_cons_zero, List.set_cons_succ]
        refine wpAnyH_take (i := 24) (oi := { dst := some 82, op := Go.Op.load 25 (Go.Operand.tmp 9), type := 25, pos := "law.go:64", after := #[{ on := 19, ground := Go.Ground.guard }], guard := some (19, false) }) (v := ?_) rfl (by kernel_rfl) (by kernel_rfl) (by kernel_rfl) (fun _ _ _ h => h) (Or.inl ⟨by rfl, ?_⟩) hS3 ?_; rotate_left; (· (intro wq hSw; obtain ⟨y00, y01, y02⟩ := hSw.1; obtain ⟨y10, y11, y12⟩ := hSw.2.1; go_simp; try with_reducible rfl))
        try simp only [Act.put, List.setIfInBounds_toArray, List.set_cons_zero, List.set_cons_succ]
        refine wpAnyH_ready (rs := [22]) (by kernel_rfl) (by simp) ?_
        refine AllReadyH.cons (o := { dst := some 80, op := Go.Op.call { callee := Go.Callee.value (Go.Operand.func 18), args := #[Go.Operand.tmp 78, Go.Operand.tmp 79], argTypes := #[22, 25] }, type := 22, pos := "law.go:64", after := #[{ on := 20, ground := Go.Ground.data }, { on := 21, ground := Go.Ground.data }, { on := 19, ground := Go.Ground.chain }, { on := 19, ground := Go.Ground.guard }], guard := some (19, false) }) rfl (fun K hK => ?_) AllReadyH.nil
        go_simp
        refine (Seen_p hb0 (by omega) HX.out.2.1 HX.out.2.2 (L4.out.more hS3.2.2)).mono ?_
        rintro e wr4 ⟨va2, vc2, he, ⟨hl, _⟩, hb⟩
        subst he
        have N1 := Lib.hid hl
        have S4 := (And.intro (hS3.1.more hb) (And.intro (hS3.2.1.more hb) (below_more hS3.2.2 hb)))
        refine hK.out _ _ S4 (fun hS4 => ?_)
        clear hK K hS3 hb S4
        try simp only [Act.put, List.setIfInBounds_toArray, List.set_cons_zero, List.set_cons_succ]
        refine wpAnyH_ready (rs := [25]) (by kernel_rfl) (by simp) ?_
        refine AllReadyH.cons (o := { dst := some 83, op := Go.Op.call { callee := Go.Callee.value (Go.Operand.func 18), args := #[Go.Operand.tmp 81, Go.Operand.tmp 82], argTypes := #[22, 25] }, type := 22, pos := "law.go:64", after := #[{ on := 23, ground := Go.Ground.data }, { on := 24, ground := Go.Ground.data }, { on := 22, ground := Go.Ground.chain }, { on := 19, ground := Go.Ground.guard }], guard := some (19, false) }) rfl (fun K hK => ?_) AllReadyH.nil
        go_simp
        refine (Seen_p hb0 (by omega) HC.out HX.out.2.2 (C4.out.more hS4.2.2)).mono ?_
        rintro e wr5 ⟨va3, vc3, he, ⟨hl, _⟩, hb⟩
        subst he
        replace N1 := Lib.hid (N1.out.more hb)
        have N2 := Lib.hid hl
        have S5 := (And.intro (hS4.1.more hb) (And.intro (hS4.2.1.more hb) (below_more hS4.2.2 hb)))
        refine hK.out _ _ S5 (fun hS5 => ?_)
        clear hK K hS4 hb S5
        try simp only [Act.put, List.setIfInBounds_toArray, List.set_cons_zero, List.set_cons_succ]
        refine wpAnyH_ready (rs := [26]) (by kernel_rfl) (by simp) ?_
        refine AllReadyH.cons (o := { dst := some 84, op := Go.Op.call { callee := Go.Callee.value (Go.Operand.func 22), args := #[Go.Operand.tmp 80, Go.Operand.tmp 83], argTypes := #[22, 22] }, type := 4, pos := "law.go:64", after := #[{ on := 22, ground := Go.Ground.data }, { on := 25, ground := Go.Ground.data }, { on := 25, ground := Go.Ground.chain }, { on := 19, ground := Go.Ground.guard }], guard := some (19, false) }) rfl (fun K hK => ?_) AllReadyH.nil
        go_simp
        refine (Same_p (by omega) (by omega) (sameL_refl ss) N1.out N2.out).mono ?_
        rintro e wr6 ⟨he, hb⟩
        subst he
        replace N1 := Lib.hid (N1.out.more hb)
        replace N2 := Lib.hid (N2.out.more hb)
        have S6 := (And.intro (hS5.1.more hb) (And.intro (hS5.2.1.more hb) (below_more hS5.2.2 hb)))
        refine hK.out _ _ S6 (fun hS6 => ?_)
        clear hK K hS5 hb S6
        try simp only [Act.put, List.setIfInBounds_toArray, List.set_cons_zero, List.set_cons_succ]
        refine wpAnyH_take (i := 27) (oi := { dst := some 85, op := Go.Op.pick (Go.Operand.tmp 77) (Go.Operand.const (Go.Value.bool true)) (Go.Operand.tmp 84), type := 4, pos := "law.go:64", after := #[{ on := 19, ground := Go.Ground.data }, { on := 26, ground := Go.Ground.data }, { on := 15, ground := Go.Ground.guard }], guard := some (15, true) }) (v := ?_) rfl (by kernel_rfl) (by kernel_rfl) (by kernel_rfl) (fun _ _ _ h => h) (Or.inl ⟨by rfl, ?_⟩) hS6 ?_; rotate_left; (· (intro wq hSw; obtain ⟨y00, y01, y02⟩ := hSw.1; obtain ⟨y10, y11, y12⟩ := hSw.2.1; go_simp; try with_reducible rfl))
        try simp only [Act.put, List.setIfInBounds_toArray, List.set_cons_zero, List.set_cons_succ]
        refine wpAnyH_take (i := 28) (oi := { dst := some 86, op := Go.Op.pick (Go.Operand.tmp 73) (Go.Operand.tmp 85) (Go.Operand.const (Go.Value.bool false)), type := 4, pos := "law.go:64", after := #[{ on := 15, ground := Go.Ground.data }, { on := 27, ground := Go.Ground.data }], guard := none }) (v := ?_) rfl (by kernel_rfl) (by kernel_rfl) (by kernel_rfl) (fun _ _ _ h => h) (Or.inl ⟨by rfl, ?_⟩) hS6 ?_; rotate_left; (· (intro wq hSw; obtain ⟨y00, y01, y02⟩ := hSw.1; obtain ⟨y10, y11, y12⟩ := hSw.2.1; go_simp; try with_reducible rfl))
        try simp only [Act.put, List.setIfInBounds_toArray, List.set_cons_zero, List.set_cons_succ]
        refine wpAnyH_take (i := 29) (oi := { dst := some 12, op := Go.Op.assign (Go.Operand.tmp 86), type := 4, pos := "law.go:64", after := #[{ on := 28, ground := Go.Ground.data }, { on := 26, ground := Go.Ground.chain }, { on := 0, ground := Go.Ground.phase }, { on := 1, ground := Go.Ground.phase }, { on := 2, ground := Go.Ground.phase }, { on := 3, ground := Go.Ground.phase }, { on := 4, ground := Go.Ground.phase }, { on := 5, ground := Go.Ground.phase }, { on := 6, ground := Go.Ground.phase }, { on := 7, ground := Go.Ground.phase }, { on := 8, ground := Go.Ground.phase }, { on := 9, ground := Go.Ground.phase }, { on := 10, ground := Go.Ground.phase }, { on := 11, ground := Go.Ground.phase }, { on := 12, ground := Go.Ground.phase }, { on := 13, ground := Go.Ground.phase }, { on := 14, ground := Go.Ground.phase }, { on := 15, ground := Go.Ground.phase }, { on := 16, ground := Go.Ground.phase }, { on := 17, ground := Go.Ground.phase }, { on := 18, ground := Go.Ground.phase }, { on := 19, ground := Go.Ground.phase }, { on := 20, ground := Go.Ground.phase }, { on := 21, ground := Go.Ground.phase }, { on := 22, ground := Go.Ground.phase }, { on := 23, ground := Go.Ground.phase }, { on := 24, ground := Go.Ground.phase }, { on := 25, ground := Go.Ground.phase }, { on := 26, ground := Go.Ground.phase }, { on := 27, ground := Go.Ground.phase }, { on := 28, ground := Go.Ground.phase }], guard := none }) (v := ?_) rfl (by kernel_rfl) (by kernel_rfl) (by kernel_rfl) (fun _ _ _ h => h) (Or.inl ⟨by rfl, ?_⟩) hS6 ?_; rotate_left; (· (intro wq hSw; obtain ⟨y00, y01, y02⟩ := hSw.1; obtain ⟨y10, y11, y12⟩ := hSw.2.1; go_simp; try with_reducible rfl))
        try simp only [Act.put, List.setIfInBounds_toArray, List.set_cons_zero, List.set_cons_succ]
        refine wpAnyH_done (by kernel_rfl) ?_ _
        go_wp2
        go_ret
        exact ⟨rfl, below_more D4.out.below hS6.2.2⟩
  · have x3 : (ce != 0) = true := by simp [x1]
    go_wp2
    go_ret
    exact ⟨rfl, D3.out.below⟩

end Go.Proofs.YtpaaeojojbdikaaDoor
