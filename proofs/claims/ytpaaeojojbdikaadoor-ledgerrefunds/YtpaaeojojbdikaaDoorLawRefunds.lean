/- LedgerRefunds: the walk. -/
import Derived.Test.YtpaaeojojbdikaaDoorLgLaws
import Derived.Deep.RegionHeld3
namespace Go.Proofs.YtpaaeojojbdikaaDoor
open Go.RowKit Go.Proofs.Cats Go.Proofs.Lgr Go.Shelf Go.Sort

set_option maxRecDepth 100000 in
set_option maxHeartbeats 2000000 in
theorem refunds_walk (a : Lab) (ha : a.fits) (n : Int) (ao : Option Addr) (len cap : Nat) (zs : List Ln) (w : World) (hL : Lns w ao len cap zs) (hg : ErrT w) :
    Calls Tryd.prog 10 #[.slice ao len cap, .agg #[.int .i64 a.l, .int .u64 a.c, .int .i64 a.i], .int .i64 n] w (TruePost w) := by
  have hB := Below.new w (.cells #[.int .i64 a.l, .int .u64 a.c, .int .i64 a.i] 25)
  have D0 := Lib.hid (Wd.new hg (.cells #[.int .i64 a.l, .int .u64 a.c, .int .i64 a.i] 25))
  have L0 := Lib.hid (hL.more hB)
  have A0 := Lib.hid (La3.new w a)
  have hle := hL.hle
  have hmx := hL.hmax
  clear hB hL hg
  go_enter Tryd.func10, Tryd.ntmps10
  go_wp2_with (go_at_call 11; refine (shown_any _ D0.out.err).mono ?_)
  rintro e w1 ⟨rfl, hb1⟩
  have D1 := Lib.hid (D0.out.more hb1)
  have L1 := Lib.hid (L0.out.more hb1)
  have A1 := Lib.hid (A0.out.more hb1)
  clear hb1
  go_wp2_with (go_at_call 12; refine (few_any ao len cap hle hmx _).mono ?_)
  rintro e w2 ⟨rfl, hb2⟩
  obtain ⟨k, hk⟩ : ∃ k, min len 42 = k := ⟨_, rfl⟩
  obtain ⟨ys, hys⟩ : ∃ ys, zs.take 42 = ys := ⟨_, rfl⟩
  have L2 := (L1.out.more hb2).few 42
  rw [hk, hys] at L2
  rw [hk]
  have hk42 : k ≤ 42 := by omega
  have hyl := L2.hlen
  have D2 := Lib.hid (D1.out.more hb2)
  have A2 := Lib.hid (A1.out.more hb2)
  have L2 := Lib.hid L2
  clear hb2 hys
  obtain ⟨a0, a1, a2⟩ := A2.out
  by_cases hok : RefundOk ys a n
  · obtain ⟨r1, r2, r3⟩ := again hok
    have hl1 := refund_len ys a n
    have hc0 := (refund_iff ys a n).2 hok
    obtain ⟨⟨bs, c⟩, hbs⟩ : ∃ r, refundL ys a n = r := ⟨_, rfl⟩
    rw [hbs] at r1 r2 r3 hl1 hc0
    replace hc0 : c = 0 := hc0
    replace r1 : chargeL bs (usedL ys a) a n = (ys, 0) := r1
    replace r2 : rightL bs = true := r2
    replace r3 : usedL bs a = usedL ys a - n := r3
    replace hl1 : bs.length ≤ ys.length + 1 := hl1
    subst hc0
    obtain ⟨kb, hkb⟩ : ∃ kb, bs.length = kb := ⟨_, rfl⟩
    obtain ⟨h1, h2, h3, h4⟩ := hok
    have hur := used_range h1 a
    obtain ⟨u, hu⟩ : ∃ u, usedL ys a = u := ⟨_, rfl⟩
    rw [hu] at r1 r3 hur h4
    have HF := Lib.hid (And.intro r1 (And.intro r2 (And.intro r3 hu)))
    have HBS := Lib.hid hbs
    have HKB := Lib.hid hkb
    have hkb2 : kb ≤ 43 := by omega
    clear r1 r2 r3 hbs hu h1 h2 hl1
    go_wp2_with (go_at_call 25; refine (Refund_p ha HBS.out HKB.out L2.out D2.out.err).mono ?_)
    rintro e w3 ⟨va, vc, rfl, ⟨hl3, _⟩, hb3⟩
    have D3 := Lib.hid (D2.out.more hb3)
    have L3 := Lib.hid (L2.out.more hb3)
    have M3 := Lib.hid hl3
    have A3 := Lib.hid (A2.out.more hb3)
    clear hl3 hb3 a0 a1 a2
    go_wp2_with fail
    refine wp_region_held_drew (S := (fun w' => La3 w' w.heap.size a ∧ Below w3.heap.size w3 w')) (by kernel_rfl) (⟨A3.out, (Below.refl _ w3).drew⟩) (fun hS0 => ?_)
    refine wpAnyH_take (i := 0) (oi := { dst := some 31, op := Go.Op.move (Go.Operand.tmp 8), type := 22, pos := "law.go:125", after := #[], guard := none }) (v := ?_) rfl (by kernel_rfl) (by kernel_rfl) (by kernel_rfl) (fun _ _ _ h => h) (Or.inl ⟨by rfl, ?_⟩) hS0 ?_; rotate_left; (· (intro wq hSw; obtain ⟨y00, y01, y02⟩ := hSw.1; go_simp; try with_reducible rfl))
    try simp only [Act.put, List.setIfInBounds_toArray, List.set_cons_zero, List.set_cons_succ]
    refine wpAnyH_take (i := 1) (oi := { dst := some 32, op := Go.Op.move (Go.Operand.tmp 0), type := 22, pos := "law.go:125", after := #[], guard := none }) (v := ?_) rfl (by kernel_rfl) (by kernel_rfl) (by kernel_rfl) (fun _ _ _ h => h) (Or.inl ⟨by rfl, ?_⟩) hS0 ?_; rotate_left; (· (intro wq hSw; obtain ⟨y00, y01, y02⟩ := hSw.1; go_simp; try with_reducible rfl))
    try simp only [Act.put, List.setIfInBounds_toArray, List.set_cons_zero, List.set_cons_succ]
    refine wpAnyH_take (i := 2) (oi := { dst := some 33, op := Go.Op.load 25 (Go.Operand.tmp 4), type := 25, pos := "law.go:125", after := #[], guard := none }) (v := ?_) rfl (by kernel_rfl) (by kernel_rfl) (by kernel_rfl) (fun _ _ _ h => h) (Or.inl ⟨by rfl, ?_⟩) hS0 ?_; rotate_left; (· (intro wq hSw; obtain ⟨y00, y01, y02⟩ := hSw.1; go_simp; try with_reducible rfl))
    try simp only [Act.put, List.setIfInBounds_toArray, List.set_cons_zero, List.set_cons_succ]
    refine wpAnyH_take (i := 4) (oi := { dst := some 35, op := Go.Op.load 25 (Go.Operand.tmp 4), type := 25, pos := "law.go:125", after := #[], guard := none }) (v := ?_) rfl (by kernel_rfl) (by kernel_rfl) (by kernel_rfl) (fun _ _ _ h => h) (Or.inl ⟨by rfl, ?_⟩) hS0 ?_; rotate_left; (· (intro wq hSw; obtain ⟨y00, y01, y02⟩ := hSw.1; go_simp; try with_reducible rfl))
    try simp only [Act.put, List.setIfInBounds_toArray, List.set_cons_zero, List.set_cons_succ]
    refine wpAnyH_take (i := 5) (oi := { dst := some 36, op := Go.Op.move (Go.Operand.tmp 2), type := 3, pos := "law.go:125", after := #[], guard := none }) (v := ?_) rfl (by kernel_rfl) (by kernel_rfl) (by kernel_rfl) (fun _ _ _ h => h) (Or.inl ⟨by rfl, ?_⟩) hS0 ?_; rotate_left; (· (intro wq hSw; obtain ⟨y00, y01, y02⟩ := hSw.1; go_simp; try with_reducible rfl))
    try simp only [Act.put, List.setIfInBounds_toArray, List.set_cons_zero, List.set_cons_succ]
    refine wpAnyH_ready (rs := [3]) (by kernel_rfl) (by simp) ?_
    refine AllReadyH.cons (o := { dst := some 34, op := Go.Op.call { callee := Go.Callee.value (Go.Operand.func 15), args := #[Go.Operand.tmp 32, Go.Operand.tmp 33], argTypes := #[22, 25] }, type := 3, pos := "law.go:125", after := #[{ on := 1, ground := Go.Ground.data }, { on := 2, ground := Go.Ground.data }], guard := none }) rfl (fun K hK => ?_) AllReadyH.nil
    go_simp
    refine (Used_p (by omega) HF.out.2.2.2 (L3.out.more hS0.2)).mono ?_
    rintro e wr1 ⟨he, hb⟩
    subst he
    have S1 := (And.intro (hS0.1.more hb) (below_more hS0.2 hb))
    refine hK.out _ _ S1 (fun hS1 => ?_)
    clear hK K hS0 hb S1
    try simp only [Act.put, List.setIfInBounds_toArray, List.set_cons_zero, List.set_cons_succ]
    refine wpAnyH_ready (rs := [6]) (by kernel_rfl) (by simp) ?_
    refine AllReadyH.cons (o := { dst := some 37, op := Go.Op.call { callee := Go.Callee.value (Go.Operand.func 23), args := #[Go.Operand.tmp 31, Go.Operand.tmp 34, Go.Operand.tmp 35, Go.Operand.tmp 36], argTypes := #[22, 3, 25, 3] }, type := 35, pos := "law.go:125", after := #[{ on := 0, ground := Go.Ground.data }, { on := 3, ground := Go.Ground.data }, { on := 4, ground := Go.Ground.data }, { on := 5, ground := Go.Ground.data }, { on := 3, ground := Go.Ground.chain }], guard := none }) rfl (fun K hK => ?_) AllReadyH.nil
    go_simp
    refine (Charge_p ha HF.out.1 hyl (M3.out.more hS1.2) (D3.out.err.more hS1.2)).mono ?_
    rintro e wr2 ⟨va2, vc2, he, ⟨hl, _⟩, hb⟩
    subst he
    have N4 := Lib.hid hl
    have S2 := (And.intro (hS1.1.more hb) (below_more hS1.2 hb))
    refine hK.out _ _ S2 (fun hS2 => ?_)
    clear hK K hS1 hb S2
    try simp only [Act.put, List.setIfInBounds_toArray, List.set_cons_zero, List.set_cons_succ]
    refine wpAnyH_take (i := 7) (oi := { dst := some 30, op := Go.Op.move (Go.Operand.tmp 37), type := 35, pos := "law.go:125", after := #[{ on := 6, ground := Go.Ground.data }], guard := none }) (v := ?_) rfl (by kernel_rfl) (by kernel_rfl) (by kernel_rfl) (fun _ _ _ h => h) (Or.inl ⟨by rfl, ?_⟩) hS2 ?_; rotate_left; (· (intro wq hSw; obtain ⟨y00, y01, y02⟩ := hSw.1; go_simp; try with_reducible rfl))
    try simp only [Act.put, List.setIfInBounds_toArray, List.set_cons_zero, List.set_cons_succ]
    refine wpAnyH_take (i := 8) (oi := { dst := some 38, op := Go.Op.extract (Go.Operand.tmp 30) 0, type := 22, pos := "law.go:125", after := #[{ on := 7, ground := Go.Ground.data }], guard := none }) (v := ?_) rfl (by kernel_rfl) (by kernel_rfl) (by kernel_rfl) (fun _ _ _ h => h) (Or.inl ⟨by rfl, ?_⟩) hS2 ?_; rotate_left; (· (intro wq hSw; obtain ⟨y00, y01, y02⟩ := hSw.1; go_simp; try with_reducible rfl))
    try simp only [Act.put, List.setIfInBounds_toArray, List.set_cons_zero, List.set_cons_succ]
    refine wpAnyH_take (i := 9) (oi := { dst := some 39, op := Go.Op.extract (Go.Operand.tmp 30) 1, type := 34, pos := "law.go:125", after := #[{ on := 7, ground := Go.Ground.data }, { on := 10, ground := Go.Ground.gcOnly Go.Departure.lateStores }], guard := none }) (v := ?_) rfl (by kernel_rfl) (by kernel_rfl) (by kernel_rfl) (fun _ _ _ h => h) (Or.inl ⟨by rfl, ?_⟩) hS2 ?_; rotate_left; (· (intro wq hSw; obtain ⟨y00, y01, y02⟩ := hSw.1; go_simp; try with_reducible rfl))
    try simp only [Act.put, List.setIfInBounds_toArray, List.set_cons_zero, List.set_cons_succ]
    refine wpAnyH_take (i := 10) (oi := { dst := some 10, op := Go.Op.assign (Go.Operand.tmp 38), type := 22, pos := "law.go:125", after := #[{ on := 8, ground := Go.Ground.data }, { on := 6, ground := Go.Ground.chain }, { on := 0, ground := Go.Ground.phase }, { on := 1, ground := Go.Ground.phase }, { on := 2, ground := Go.Ground.phase }, { on := 3, ground := Go.Ground.phase }, { on := 4, ground := Go.Ground.phase }, { on := 5, ground := Go.Ground.phase }, { on := 6, ground := Go.Ground.phase }, { on := 7, ground := Go.Ground.phase }, { on := 8, ground := Go.Ground.phase }, { on := 9, ground := Go.Ground.textOnly Go.Departure.lateStores }], guard := none }) (v := ?_) rfl (by kernel_rfl) (by kernel_rfl) (by kernel_rfl) (fun _ _ _ h => h) (Or.inl ⟨by rfl, ?_⟩) hS2 ?_; rotate_left; (· (intro wq hSw; obtain ⟨y00, y01, y02⟩ := hSw.1; go_simp; try with_reducible rfl))
    try simp only [Act.put, List.setIfInBounds_toArray, List.set_cons_zero, List.set_cons_succ]
    refine wpAnyH_take (i := 11) (oi := { dst := some 11, op := Go.Op.assign (Go.Operand.tmp 39), type := 34, pos := "law.go:125", after := #[{ on := 9, ground := Go.Ground.data }, { on := 10, ground := Go.Ground.chain }, { on := 0, ground := Go.Ground.phase }, { on := 1, ground := Go.Ground.phase }, { on := 2, ground := Go.Ground.phase }, { on := 3, ground := Go.Ground.phase }, { on := 4, ground := Go.Ground.phase }, { on := 5, ground := Go.Ground.phase }, { on := 6, ground := Go.Ground.phase }, { on := 7, ground := Go.Ground.phase }, { on := 8, ground := Go.Ground.phase }, { on := 9, ground := Go.Ground.phase }, { on := 10, ground := Go.Ground.phase }], guard := none }) (v := ?_) rfl (by kernel_rfl) (by kernel_rfl) (by kernel_rfl) (fun _ _ _ h => h) (Or.inl ⟨by rfl, ?_⟩) hS2 ?_; rotate_left; (· (intro wq hSw; obtain ⟨y00, y01, y02⟩ := hSw.1; go_simp; try with_reducible rfl))
    try simp only [Act.put, List.setIfInBounds_toArray, List.set_cons_zero, List.set_cons_succ]
    refine wpAnyH_done (by kernel_rfl) ?_ _
    have D4 := Lib.hid (D3.out.more hS2.2)
    have L4 := Lib.hid (L3.out.more hS2.2)
    have M4 := Lib.hid (M3.out.more hS2.2)
    obtain ⟨a0, a1, a2⟩ := hS2.1
    clear hS2
    have k0 := cell_regrown a0
    have k1 := cell_regrown a1
    have k2 := cell_regrown a2
    have cS := rg_bool (V := wr2) fun W hb => Same_p (by omega) (by omega) (sameL_refl ys) (N4.out.more hb) (L4.out.more hb)
    have cR := rg_bool (V := wr2) fun W hb => Right_p HF.out.2.1 (M4.out.more hb)
    have cU := rg_int (V := wr2) fun W hb => Used_p (by omega) HF.out.2.2.1 (M4.out.more hb)
    have cV := rg_int (V := wr2) fun W hb => Used_p (by omega) HF.out.2.2.2 (L4.out.more hb)
    have hw1 : IntKind.i64.wrap (u - n) = u - n := by rw [IntKind.wrap_i64]; omega
    go_wp2_with fail
    refine wp_region_quiet_below (by kernel_rfl) (by kernel_rfl) ?_
    repeat (quiet_step (with_reducible (first | exact cS _ _ | exact cR _ _ | exact cU _ _ | exact cV _ _)))
    refine wpQuiet_nil ?_
    intro _ hw'
    obtain ⟨⟨dq, osq⟩, hw''⟩ := hw'
    subst hw''
    go_wp2
    go_ret
    exact ⟨rfl, below_more D4.out.below (below_regrown wr2 dq osq)⟩
  · rcases refund_no hok with hbs | hbs
    · have HBS := Lib.hid hbs
      clear hbs hok
      go_wp2_with (go_at_call 25; refine (Refund_p (k := 0) ha HBS.out rfl L2.out D2.out.err).mono ?_)
      rintro e w3 ⟨va, vc, rfl, _, hb3⟩
      have D3 := Lib.hid (D2.out.more hb3)
      clear hb3
      go_wp2
      go_ret
      exact ⟨rfl, D3.out.below⟩
    · have HBS := Lib.hid hbs
      clear hbs hok
      go_wp2_with (go_at_call 25; refine (Refund_p (k := 0) ha HBS.out rfl L2.out D2.out.err).mono ?_)
      rintro e w3 ⟨va, vc, rfl, _, hb3⟩
      have D3 := Lib.hid (D2.out.more hb3)
      clear hb3
      go_wp2
      go_ret
      exact ⟨rfl, D3.out.below⟩

end Go.Proofs.YtpaaeojojbdikaaDoor
