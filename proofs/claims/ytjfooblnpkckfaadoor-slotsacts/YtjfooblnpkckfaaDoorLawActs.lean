/- SlotsActs: the walk. -/
import Derived.Test.YtjfooblnpkckfaaDoorSlActs
namespace Go.Proofs.YtjfooblnpkckfaaDoor
open Go.RowKit Go.Proofs.Slt Go.Shelf

theorem same_p (n1 n2 : Nat) (l : List Hnd) (len : Nat) (a b : Option Addr) (ca cb : Nat) (w : World) (hlen : l.length = len) (h64 : len ≤ 64) (ha : Hs n1 w (.slice a len ca) l) (hb : Hs n2 w (.slice b len cb) l) : Calls Tryd.prog 19 #[.slice a len ca, .slice b len cb] w (TruePost w) := same_any n1 n2 l len a b ca cb w hlen h64 ha hb

set_option maxRecDepth 100000 in
set_option maxHeartbeats 2000000 in
theorem acts_walk_bad (t : Sn) (n : Int) (hn : n < 1 ∨ 64 < n) (a : Option Addr) (len cap : Nat) (w : World) (hc : Ctx t w.heap.size w) : Calls Tryd.prog 3 #[.int .i64 n, .slice a len cap] w (TruePost w) := by
  have HC := Lib.hid hc
  have HN := Lib.hid hn
  clear hc hn
  go_enter Tryd.func3, Tryd.ntmps3
  go_wp2_with (go_at_call 9; refine (shown_any t w.heap.size _ HC.out).mono ?_)
  rintro e w1 ⟨rfl, hb1⟩
  have HB1 := Lib.hid hb1
  clear hb1
  go_wp2_with (first
    | (go_at_call 10; refine (New_bad n w1 HN.out).mono ?_; rintro e w2 ⟨rfl, rfl⟩)
    | (go_at_call 11; refine (RNew_bad n w1 HN.out).mono ?_; rintro e w2 ⟨rfl, rfl⟩))
  go_ret
  exact ⟨rfl, HB1.out⟩

set_option maxRecDepth 100000 in
set_option maxHeartbeats 16000000 in
theorem acts_walk_ok (t : Sn) (n : Nat) (h1 : 1 ≤ n) (h2 : n ≤ 64) (a : Option Addr) (len cap : Nat) (zs : List Ac) (hlen : zs.length = len) (hlc : len ≤ cap) (hcm : cap ≤ maxLen) (w : World) (hc : Ctx t w.heap.size w) (hG : SlA w a zs) : Calls Tryd.prog 3 #[.int .i64 n, .slice a len cap] w (TruePost w) := by
  have HC := Lib.hid hc
  have HG := Lib.hid (And.intro hG hlen)
  have hm : cap < 9223372036854775808 := by unfold maxLen at hcm; omega
  have _hu := hlc
  clear _hu
  clear hc hG hlen hcm
  go_enter Tryd.func3, Tryd.ntmps3
  go_wp2_with (go_at_call 9; refine (shown_any t w.heap.size _ HC.out).mono ?_)
  rintro e w1 ⟨rfl, hb1⟩
  have HB1 := Lib.hid hb1
  clear hb1
  go_wp2_with (go_at_call 10; refine (New_ok n w1 h1 h2).mono ?_)
  rintro e w2 ⟨p, rfl, q1, q2⟩
  have R0 := Lib.hid (Run.start (HC.out.more HB1.out) HB1.out q1 q2)
  clear q1 q2
  go_wp2_with (go_at_call 11; refine (RNew_ok n w2 h1 h2).mono ?_)
  rintro e w2' ⟨q, rfl, q1, q2⟩
  have A0 := Lib.hid (AW.mk (R0.out.more q2) q1)
  clear q1 q2
  go_wp2
  go_loopw [10] (fun v wr => ∃ (i : Nat) (st : St), i ≤ len ∧ i ≤ 200 ∧ v = .int .i64 i ∧ Hid (AW t w.heap.size w w2.heap.size p q st st wr)) (fun v _ => len - (intOf v).toNat)
  case atStart => exact ⟨0, fresh n, by omega, by omega, rfl, A0.out⟩
  case round =>
    obtain ⟨i, st, hi, hi2, rfl, HR⟩ := hrel
    by_cases hlt : i < len ∧ i < 200
    · obtain ⟨hil, hi200⟩ := hlt
      obtain ⟨⟨tk, x1, x2⟩, hx⟩ : ∃ x, zs[i]? = some x := ⟨_, List.getElem?_eq_getElem (by rw [HG.out.2]; exact hil)⟩
      obtain ⟨g, off, rfl, hg, z0, z1, z2⟩ := HG.out.1 i _ hx
      dsimp only at z0 z1 z2
      have c0 := (HR.out.run.below.cell (p := ⟨g, off + i * 3, none⟩) hg).trans z0
      have c1 := (HR.out.run.below.cell (p := ⟨g, off + i * 3 + 1, none⟩) hg).trans z1
      have c2 := (HR.out.run.below.cell (p := ⟨g, off + i * 3 + 2, none⟩) hg).trans z2
      have H1 := Lib.hid (HR.out.more (Below.new wr (.cells #[.bool tk, .int .i64 x1, .int .i64 x2] 34)))
      obtain ⟨d0, d1, d2⟩ := new_cells3 wr (.bool tk) (.int .i64 x1) (.int .i64 x2) 34
      have HQL := Lib.hid HR.out.rf.lt
      have HZ := Lib.hid HR.out.run.z
      obtain ⟨W1, hW1⟩ : ∃ W1, wr.alloc (.cells #[.bool tk, .int .i64 x1, .int .i64 x2] 34) = W1 := ⟨_, rfl⟩
      rw [hW1] at H1 d0 d1 d2
      have HW1 := Lib.hid hW1
      clear hx hg z0 z1 z2 hW1
      cases tk with
      | true =>
        go_wp2_with fail
        rw [HW1.out]
        go_wp2_with (go_at_call 12; refine (Take_run H1.out.run).mono ?_)
        rintro e w3 ⟨he, r3, f3⟩
        obtain ⟨⟨t1, t2⟩, ht⟩ : ∃ y, takeH st = y := ⟨_, rfl⟩
        obtain ⟨te, hte⟩ : ∃ y, takeE st = y := ⟨_, rfl⟩
        have HTT := Lib.hid (And.intro ht hte)
        rw [ht, hte] at he
        simp only [ihv, toI] at he
        subst he
        have H3 := Lib.hid ((H1.out.s r3 f3).more (Below.new w3 (.cells #[.int .i64 t1, .int .i64 t2] 32)))
        have HV := Lib.hid (H2.new w3 t1 t2)
        have hql := (H1.out.s r3 f3).rf.lt
        have HQL := Lib.hid hql
        have HGN := Lib.hid H1.out.run.gens
        clear r3 f3 ht hte hql
        go_wp2_with (go_at_call 13; refine (RTake_any w2.heap.size q st _ H3.out.rf HGN.out).mono ?_)
        rintro e w4 ⟨he, r4, f4⟩
        rw [HTT.out.1, HTT.out.2] at he
        simp only [ihv, toI] at he
        subst he
        have HA := Lib.hid ((H3.out.r r4 f4).more (Below.new w4 (.cells #[.int .i64 t1, .int .i64 t2] 32)))
        have ha := H2.more (W := w4) (b := w3.heap.size) ⟨H3.out.cellR f4 HV.out.1 HQL.out, H3.out.cellR f4 HV.out.2 HQL.out⟩ (Below.new w4 (.cells #[.int .i64 t1, .int .i64 t2] 32))
        obtain ⟨u0, u1⟩ := ha
        obtain ⟨v0, v1⟩ := H2.new w4 t1 t2
        clear r4 f4
        go_wp2_with (go_at_call 18; refine (RAll_p HA.out).mono ?_)
        rintro e w7 ⟨a7, c7, he, hs7, h7⟩
        obtain ⟨L, hL⟩ : ∃ L, (allR (takeS st)).length = L := ⟨_, rfl⟩
        have hL64 : L ≤ 64 := by have := h7.run.few; rw [hL] at this; exact this
        have HL := Lib.hid hL
        rw [hL] at he hs7
        subst he
        have H7 := Lib.hid (And.intro hs7 h7)
        clear hs7 h7 hL
        go_wp2_with (go_at_call 20; refine (All_run H7.out.2.run).mono ?_)
        rintro e w8 ⟨a8, c8, he, hs8, r8, hb8⟩
        rw [HL.out] at he hs8
        subst he
        have HS8 := Lib.hid (And.intro hs8 (H7.out.1.more hb8))
        have H8 := Lib.hid (H7.out.2.more hb8)
        clear hs8 r8 hb8
        go_wp2_with (go_at_call 19; refine (same_p _ _ (allR (takeS st)) L a8 a7 c8 c7 w8 HL.out hL64 HS8.out.1 HS8.out.2).mono ?_)
        rintro e w9 ⟨rfl, hb9⟩
        have H9 := Lib.hid (H8.out.more hb9)
        have HU := Lib.hid (Used_run (H8.out.more hb9).run)
        rw [HL.out] at HU
        clear hb9
        go_wp2_with (go_at_call 21; refine HU.out.mono ?_; rintro e w' ⟨rfl, rfl⟩)
        go_roundw
        case rel => exact ⟨i + 1, (takeS st), by omega, by omega, by simp, H9.out⟩
        case measure => simp [intOf]; omega
      | false =>
        obtain ⟨lv, hlv⟩ : ∃ lv, liveR st (x1, x2) = lv := ⟨_, rfl⟩
        have HLV := Lib.hid hlv
        clear hlv
        cases lv with
        | true =>
          have HGV : Hid (giveE st (x1, x2) = 0) := by show giveE _ _ = _; rw [giveE, HLV.out]; rfl
          go_wp2_with fail
          rw [HW1.out]
          have H1d := Lib.hid (H1.out.more ((Below.refl _ W1).drew))
          refine wp_region_held_drew (S := (fun w' => w'.cell? ⟨wr.heap.size, 1, none⟩ = some (.int .i64 x1) ∧ w'.cell? ⟨wr.heap.size, 2, none⟩ = some (.int .i64 x2))) (by kernel_rfl) (⟨d1, d2⟩) (fun hS0 => ?_)
          refine wpAnyH_take (i := 0) (oi := { dst := some 78, op := Go.Op.move (Go.Operand.tmp 6), type := 24, pos := "law.go:43", after := #[], guard := none }) (v := ?_) rfl (by kernel_rfl) (by kernel_rfl) (by kernel_rfl) (fun _ _ _ h => h) (Or.inl ⟨by rfl, ?_⟩) hS0 ?_; rotate_left; (· (intro wq hSw; obtain ⟨y1, y2⟩ := hSw; go_simp; try with_reducible rfl))
          try simp only [Act.put, List.setIfInBounds_toArray, List.set_cons_zero, List.set_cons_succ]
          refine wpAnyH_take (i := 1) (oi := { dst := some 79, op := Go.Op.fieldAddr 34 (Go.Operand.tmp 11) 1, type := 0, pos := "law.go:43", after := #[], guard := none }) (v := ?_) rfl (by kernel_rfl) (by kernel_rfl) (by kernel_rfl) (fun _ _ _ h => h) (Or.inl ⟨by rfl, ?_⟩) hS0 ?_; rotate_left; (· (intro wq hSw; obtain ⟨y1, y2⟩ := hSw; go_simp; try with_reducible rfl))
          try simp only [Act.put, List.setIfInBounds_toArray, List.set_cons_zero, List.set_cons_succ]
          refine wpAnyH_take (i := 2) (oi := { dst := some 80, op := Go.Op.load 32 (Go.Operand.tmp 79), type := 32, pos := "law.go:43", after := #[{ on := 1, ground := Go.Ground.data }], guard := none }) (v := ?_) rfl (by kernel_rfl) (by kernel_rfl) (by kernel_rfl) (fun _ _ _ h => h) (Or.inl ⟨by rfl, ?_⟩) hS0 ?_; rotate_left; (· (intro wq hSw; obtain ⟨y1, y2⟩ := hSw; go_simp; try with_reducible rfl))
          try simp only [Act.put, List.setIfInBounds_toArray, List.set_cons_zero, List.set_cons_succ]
          refine wpAnyH_take (i := 4) (oi := { dst := some 82, op := Go.Op.move (Go.Operand.tmp 8), type := 28, pos := "law.go:43", after := #[], guard := none }) (v := ?_) rfl (by kernel_rfl) (by kernel_rfl) (by kernel_rfl) (fun _ _ _ h => h) (Or.inl ⟨by rfl, ?_⟩) hS0 ?_; rotate_left; (· (intro wq hSw; obtain ⟨y1, y2⟩ := hSw; go_simp; try with_reducible rfl))
          try simp only [Act.put, List.setIfInBounds_toArray, List.set_cons_zero, List.set_cons_succ]
          refine wpAnyH_take (i := 5) (oi := { dst := some 83, op := Go.Op.fieldAddr 34 (Go.Operand.tmp 11) 1, type := 0, pos := "law.go:43", after := #[], guard := none }) (v := ?_) rfl (by kernel_rfl) (by kernel_rfl) (by kernel_rfl) (fun _ _ _ h => h) (Or.inl ⟨by rfl, ?_⟩) hS0 ?_; rotate_left; (· (intro wq hSw; obtain ⟨y1, y2⟩ := hSw; go_simp; try with_reducible rfl))
          try simp only [Act.put, List.setIfInBounds_toArray, List.set_cons_zero, List.set_cons_succ]
          refine wpAnyH_take (i := 6) (oi := { dst := some 84, op := Go.Op.load 32 (Go.Operand.tmp 83), type := 32, pos := "law.go:43", after := #[{ on := 5, ground := Go.Ground.data }], guard := none }) (v := ?_) rfl (by kernel_rfl) (by kernel_rfl) (by kernel_rfl) (fun _ _ _ h => h) (Or.inl ⟨by rfl, ?_⟩) hS0 ?_; rotate_left; (· (intro wq hSw; obtain ⟨y1, y2⟩ := hSw; go_simp; try with_reducible rfl))
          try simp only [Act.put, List.setIfInBounds_toArray, List.set_cons_zero, List.set_cons_succ]
          refine wpAnyH_ready (rs := [3]) (by kernel_rfl) (by simp) ?_
          refine AllReadyH.cons (o := { dst := some 81, op := Go.Op.call { callee := Go.Callee.value (Go.Operand.func 14), args := #[Go.Operand.tmp 78, Go.Operand.tmp 80], argTypes := #[24, 32] }, type := 4, pos := "law.go:43", after := #[{ on := 0, ground := Go.Ground.data }, { on := 2, ground := Go.Ground.data }], guard := none }) rfl (fun K hK => ?_) AllReadyH.nil
          go_simp
          refine (Live_run H1d.out.run x1 x2).mono ?_
          rintro e w3 ⟨he, r3, b3⟩
          rw [HLV.out] at he
          subst he
          have H3 := Lib.hid (H1d.out.more b3)
          have S3 := And.intro (cell_later b3 hS0.1) (cell_later b3 hS0.2)
          clear r3 b3
          refine hK.out _ _ (S3) (fun hS1 => ?_)
          clear hK K hS0
          try simp only [Act.put, List.setIfInBounds_toArray, List.set_cons_zero, List.set_cons_succ]
          refine wpAnyH_ready (rs := [7]) (by kernel_rfl) (by simp) ?_
          refine AllReadyH.cons (o := { dst := some 85, op := Go.Op.call { callee := Go.Callee.value (Go.Operand.func 15), args := #[Go.Operand.tmp 82, Go.Operand.tmp 84], argTypes := #[28, 32] }, type := 4, pos := "law.go:43", after := #[{ on := 4, ground := Go.Ground.data }, { on := 6, ground := Go.Ground.data }, { on := 3, ground := Go.Ground.chain }], guard := none }) rfl (fun K hK => ?_) AllReadyH.nil
          go_simp
          refine (RLive_p w2.heap.size q st x1 x2 _ H3.out.rf).mono ?_
          rintro e w4 ⟨he, b4⟩
          rw [HLV.out] at he
          subst he
          have H4 := Lib.hid (H3.out.more b4)
          have S4 := And.intro (cell_later b4 hS1.1) (cell_later b4 hS1.2)
          clear b4
          refine hK.out _ _ (S4) (fun hS2 => ?_)
          clear hK K hS1
          try simp only [Act.put, List.setIfInBounds_toArray, List.set_cons_zero, List.set_cons_succ]
          refine wpAnyH_take (i := 8) (oi := { dst := some 86, op := Go.Op.binOp Go.BinOp.neq 4 (Go.Operand.tmp 81) (Go.Operand.tmp 85) 4, type := 4, pos := "law.go:43", after := #[{ on := 3, ground := Go.Ground.data }, { on := 7, ground := Go.Ground.data }], guard := none }) (v := ?_) rfl (by kernel_rfl) (by kernel_rfl) (by kernel_rfl) (fun _ _ _ h => h) (Or.inl ⟨by rfl, ?_⟩) hS2 ?_; rotate_left; (· (intro wq hSw; obtain ⟨y1, y2⟩ := hSw; go_simp; try with_reducible rfl))
          try simp only [Act.put, List.setIfInBounds_toArray, List.set_cons_zero, List.set_cons_succ]
          refine wpAnyH_take (i := 9) (oi := { dst := some 87, op := Go.Op.move (Go.Operand.tmp 86), type := 4, pos := "law.go:43", after := #[{ on := 8, ground := Go.Ground.data }, { on := 7, ground := Go.Ground.chain }], guard := none }) (v := ?_) rfl (by kernel_rfl) (by kernel_rfl) (by kernel_rfl) (fun _ _ _ h => h) (Or.inl ⟨by rfl, ?_⟩) hS2 ?_; rotate_left; (· (intro wq hSw; obtain ⟨y1, y2⟩ := hSw; go_simp; try with_reducible rfl))
          try simp only [Act.put, List.setIfInBounds_toArray, List.set_cons_zero, List.set_cons_succ]
          refine wpAnyH_take (i := 10) (oi := { dst := some 88, op := Go.Op.move (Go.Operand.tmp 6), type := 24, pos := "law.go:43", after := #[{ on := 9, ground := Go.Ground.guard }], guard := some (9, false) }) (v := ?_) rfl (by kernel_rfl) (by kernel_rfl) (by kernel_rfl) (fun _ _ _ h => h) (Or.inl ⟨by rfl, ?_⟩) hS2 ?_; rotate_left; (· (intro wq hSw; obtain ⟨y1, y2⟩ := hSw; go_simp; try with_reducible rfl))
          try simp only [Act.put, List.setIfInBounds_toArray, List.set_cons_zero, List.set_cons_succ]
          refine wpAnyH_take (i := 11) (oi := { dst := some 89, op := Go.Op.fieldAddr 34 (Go.Operand.tmp 11) 1, type := 0, pos := "law.go:43", after := #[{ on := 9, ground := Go.Ground.guard }], guard := some (9, false) }) (v := ?_) rfl (by kernel_rfl) (by kernel_rfl) (by kernel_rfl) (fun _ _ _ h => h) (Or.inl ⟨by rfl, ?_⟩) hS2 ?_; rotate_left; (· (intro wq hSw; obtain ⟨y1, y2⟩ := hSw; go_simp; try with_reducible rfl))
          try simp only [Act.put, List.setIfInBounds_toArray, List.set_cons_zero, List.set_cons_succ]
          refine wpAnyH_take (i := 12) (oi := { dst := some 90, op := Go.Op.load 32 (Go.Operand.tmp 89), type := 32, pos := "law.go:43", after := #[{ on := 11, ground := Go.Ground.data }, { on := 9, ground := Go.Ground.guard }], guard := some (9, false) }) (v := ?_) rfl (by kernel_rfl) (by kernel_rfl) (by kernel_rfl) (fun _ _ _ h => h) (Or.inl ⟨by rfl, ?_⟩) hS2 ?_; rotate_left; (· (intro wq hSw; obtain ⟨y1, y2⟩ := hSw; go_simp; try with_reducible rfl))
          try simp only [Act.put, List.setIfInBounds_toArray, List.set_cons_zero, List.set_cons_succ]
          refine wpAnyH_take (i := 14) (oi := { dst := some 92, op := Go.Op.move (Go.Operand.tmp 8), type := 28, pos := "law.go:43", after := #[{ on := 9, ground := Go.Ground.guard }], guard := some (9, false) }) (v := ?_) rfl (by kernel_rfl) (by kernel_rfl) (by kernel_rfl) (fun _ _ _ h => h) (Or.inl ⟨by rfl, ?_⟩) hS2 ?_; rotate_left; (· (intro wq hSw; obtain ⟨y1, y2⟩ := hSw; go_simp; try with_reducible rfl))
          try simp only [Act.put, List.setIfInBounds_toArray, List.set_cons_zero, List.set_cons_succ]
          refine wpAnyH_take (i := 15) (oi := { dst := some 93, op := Go.Op.fieldAddr 34 (Go.Operand.tmp 11) 1, type := 0, pos := "law.go:43", after := #[{ on := 9, ground := Go.Ground.guard }], guard := some (9, false) }) (v := ?_) rfl (by kernel_rfl) (by kernel_rfl) (by kernel_rfl) (fun _ _ _ h => h) (Or.inl ⟨by rfl, ?_⟩) hS2 ?_; rotate_left; (· (intro wq hSw; obtain ⟨y1, y2⟩ := hSw; go_simp; try with_reducible rfl))
          try simp only [Act.put, List.setIfInBounds_toArray, List.set_cons_zero, List.set_cons_succ]
          refine wpAnyH_take (i := 16) (oi := { dst := some 94, op := Go.Op.load 32 (Go.Operand.tmp 93), type := 32, pos := "law.go:43", after := #[{ on := 15, ground := Go.Ground.data }, { on := 9, ground := Go.Ground.guard }], guard := some (9, false) }) (v := ?_) rfl (by kernel_rfl) (by kernel_rfl) (by kernel_rfl) (fun _ _ _ h => h) (Or.inl ⟨by rfl, ?_⟩) hS2 ?_; rotate_left; (· (intro wq hSw; obtain ⟨y1, y2⟩ := hSw; go_simp; try with_reducible rfl))
          try simp only [Act.put, List.setIfInBounds_toArray, List.set_cons_zero, List.set_cons_succ]
          refine wpAnyH_ready (rs := [13]) (by kernel_rfl) (by simp) ?_
          refine AllReadyH.cons (o := { dst := some 91, op := Go.Op.call { callee := Go.Callee.value (Go.Operand.func 16), args := #[Go.Operand.tmp 88, Go.Operand.tmp 90], argTypes := #[24, 32] }, type := 25, pos := "law.go:43", after := #[{ on := 10, ground := Go.Ground.data }, { on := 12, ground := Go.Ground.data }, { on := 9, ground := Go.Ground.chain }, { on := 9, ground := Go.Ground.guard }], guard := some (9, false) }) rfl (fun K hK => ?_) AllReadyH.nil
          go_simp
          refine (Give_run H4.out.run x1 x2).mono ?_
          rintro e w5 ⟨he, r5, f5⟩
          rw [HGV.out] at he
          subst he
          have H5 := Lib.hid (H4.out.s r5 f5)
          have S5 := And.intro (H4.out.cellS f5 hS2.1 HZ.out) (H4.out.cellS f5 hS2.2 HZ.out)
          clear r5 f5
          refine hK.out _ _ (S5) (fun hS3 => ?_)
          clear hK K hS2
          try simp only [Act.put, List.setIfInBounds_toArray, List.set_cons_zero, List.set_cons_succ]
          refine wpAnyH_ready (rs := [17]) (by kernel_rfl) (by simp) ?_
          refine AllReadyH.cons (o := { dst := some 95, op := Go.Op.call { callee := Go.Callee.value (Go.Operand.func 17), args := #[Go.Operand.tmp 92, Go.Operand.tmp 94], argTypes := #[28, 32] }, type := 25, pos := "law.go:43", after := #[{ on := 14, ground := Go.Ground.data }, { on := 16, ground := Go.Ground.data }, { on := 13, ground := Go.Ground.chain }, { on := 9, ground := Go.Ground.guard }], guard := some (9, false) }) rfl (fun K hK => ?_) AllReadyH.nil
          go_simp
          refine (RGive_any w2.heap.size q st x1 x2 _ H5.out.rf).mono ?_
          rintro e w6 ⟨he, r6, f6⟩
          rw [HGV.out] at he
          subst he
          have H6 := Lib.hid (H5.out.r r6 f6)
          have S6 := And.intro (H5.out.cellR f6 hS3.1 HQL.out) (H5.out.cellR f6 hS3.2 HQL.out)
          clear r6 f6
          refine hK.out _ _ (S6) (fun hS4 => ?_)
          clear hK K hS3
          try simp only [Act.put, List.setIfInBounds_toArray, List.set_cons_zero, List.set_cons_succ]
          refine wpAnyH_take (i := 18) (oi := { dst := some 96, op := Go.Op.binOp Go.BinOp.neq 25 (Go.Operand.tmp 91) (Go.Operand.tmp 95) 25, type := 4, pos := "law.go:43", after := #[{ on := 13, ground := Go.Ground.data }, { on := 17, ground := Go.Ground.data }, { on := 9, ground := Go.Ground.guard }], guard := some (9, false) }) (v := ?_) rfl (by kernel_rfl) (by kernel_rfl) (by kernel_rfl) (fun _ _ _ h => h) (Or.inl ⟨by rfl, ?_⟩) hS4 ?_; rotate_left; (· (intro wq hSw; obtain ⟨y1, y2⟩ := hSw; go_simp; try with_reducible rfl))
          try simp only [Act.put, List.setIfInBounds_toArray, List.set_cons_zero, List.set_cons_succ]
          refine wpAnyH_take (i := 19) (oi := { dst := some 97, op := Go.Op.pick (Go.Operand.tmp 87) (Go.Operand.const (Go.Value.bool true)) (Go.Operand.tmp 96), type := 4, pos := "law.go:43", after := #[{ on := 9, ground := Go.Ground.data }, { on := 18, ground := Go.Ground.data }], guard := none }) (v := ?_) rfl (by kernel_rfl) (by kernel_rfl) (by kernel_rfl) (fun _ _ _ h => h) (Or.inl ⟨by rfl, ?_⟩) hS4 ?_; rotate_left; (· (intro wq hSw; obtain ⟨y1, y2⟩ := hSw; go_simp; try with_reducible rfl))
          try simp only [Act.put, List.setIfInBounds_toArray, List.set_cons_zero, List.set_cons_succ]
          refine wpAnyH_done (by kernel_rfl) ?_ _
          have HA := H6
          go_wp2_with fail
          go_wp2_with (go_at_call 18; refine (RAll_p HA.out).mono ?_)
          rintro e w7 ⟨a7, c7, he, hs7, h7⟩
          obtain ⟨L, hL⟩ : ∃ L, (allR (giveS st (x1, x2))).length = L := ⟨_, rfl⟩
          have hL64 : L ≤ 64 := by have := h7.run.few; rw [hL] at this; exact this
          have HL := Lib.hid hL
          rw [hL] at he hs7
          subst he
          have H7 := Lib.hid (And.intro hs7 h7)
          clear hs7 h7 hL
          go_wp2_with (go_at_call 20; refine (All_run H7.out.2.run).mono ?_)
          rintro e w8 ⟨a8, c8, he, hs8, r8, hb8⟩
          rw [HL.out] at he hs8
          subst he
          have HS8 := Lib.hid (And.intro hs8 (H7.out.1.more hb8))
          have H8 := Lib.hid (H7.out.2.more hb8)
          clear hs8 r8 hb8
          go_wp2_with (go_at_call 19; refine (same_p _ _ (allR (giveS st (x1, x2))) L a8 a7 c8 c7 w8 HL.out hL64 HS8.out.1 HS8.out.2).mono ?_)
          rintro e w9 ⟨rfl, hb9⟩
          have H9 := Lib.hid (H8.out.more hb9)
          have HU := Lib.hid (Used_run (H8.out.more hb9).run)
          rw [HL.out] at HU
          clear hb9
          go_wp2_with (go_at_call 21; refine HU.out.mono ?_; rintro e w' ⟨rfl, rfl⟩)
          go_roundw
          case rel => exact ⟨i + 1, (giveS st (x1, x2)), by omega, by omega, by simp, H9.out⟩
          case measure => simp [intOf]; omega
        | false =>
          have HGV : Hid (giveE st (x1, x2) = 61) := by show giveE _ _ = _; rw [giveE, HLV.out]; rfl
          go_wp2_with fail
          rw [HW1.out]
          have H1d := Lib.hid (H1.out.more ((Below.refl _ W1).drew))
          refine wp_region_held_drew (S := (fun w' => w'.cell? ⟨wr.heap.size, 1, none⟩ = some (.int .i64 x1) ∧ w'.cell? ⟨wr.heap.size, 2, none⟩ = some (.int .i64 x2))) (by kernel_rfl) (⟨d1, d2⟩) (fun hS0 => ?_)
          refine wpAnyH_take (i := 0) (oi := { dst := some 78, op := Go.Op.move (Go.Operand.tmp 6), type := 24, pos := "law.go:43", after := #[], guard := none }) (v := ?_) rfl (by kernel_rfl) (by kernel_rfl) (by kernel_rfl) (fun _ _ _ h => h) (Or.inl ⟨by rfl, ?_⟩) hS0 ?_; rotate_left; (· (intro wq hSw; obtain ⟨y1, y2⟩ := hSw; go_simp; try with_reducible rfl))
          try simp only [Act.put, List.setIfInBounds_toArray, List.set_cons_zero, List.set_cons_succ]
          refine wpAnyH_take (i := 1) (oi := { dst := some 79, op := Go.Op.fieldAddr 34 (Go.Operand.tmp 11) 1, type := 0, pos := "law.go:43", after := #[], guard := none }) (v := ?_) rfl (by kernel_rfl) (by kernel_rfl) (by kernel_rfl) (fun _ _ _ h => h) (Or.inl ⟨by rfl, ?_⟩) hS0 ?_; rotate_left; (· (intro wq hSw; obtain ⟨y1, y2⟩ := hSw; go_simp; try with_reducible rfl))
          try simp only [Act.put, List.setIfInBounds_toArray, List.set_cons_zero, List.set_cons_succ]
          refine wpAnyH_take (i := 2) (oi := { dst := some 80, op := Go.Op.load 32 (Go.Operand.tmp 79), type := 32, pos := "law.go:43", after := #[{ on := 1, ground := Go.Ground.data }], guard := none }) (v := ?_) rfl (by kernel_rfl) (by kernel_rfl) (by kernel_rfl) (fun _ _ _ h => h) (Or.inl ⟨by rfl, ?_⟩) hS0 ?_; rotate_left; (· (intro wq hSw; obtain ⟨y1, y2⟩ := hSw; go_simp; try with_reducible rfl))
          try simp only [Act.put, List.setIfInBounds_toArray, List.set_cons_zero, List.set_cons_succ]
          refine wpAnyH_take (i := 4) (oi := { dst := some 82, op := Go.Op.move (Go.Operand.tmp 8), type := 28, pos := "law.go:43", after := #[], guard := none }) (v := ?_) rfl (by kernel_rfl) (by kernel_rfl) (by kernel_rfl) (fun _ _ _ h => h) (Or.inl ⟨by rfl, ?_⟩) hS0 ?_; rotate_left; (· (intro wq hSw; obtain ⟨y1, y2⟩ := hSw; go_simp; try with_reducible rfl))
          try simp only [Act.put, List.setIfInBounds_toArray, List.set_cons_zero, List.set_cons_succ]
          refine wpAnyH_take (i := 5) (oi := { dst := some 83, op := Go.Op.fieldAddr 34 (Go.Operand.tmp 11) 1, type := 0, pos := "law.go:43", after := #[], guard := none }) (v := ?_) rfl (by kernel_rfl) (by kernel_rfl) (by kernel_rfl) (fun _ _ _ h => h) (Or.inl ⟨by rfl, ?_⟩) hS0 ?_; rotate_left; (· (intro wq hSw; obtain ⟨y1, y2⟩ := hSw; go_simp; try with_reducible rfl))
          try simp only [Act.put, List.setIfInBounds_toArray, List.set_cons_zero, List.set_cons_succ]
          refine wpAnyH_take (i := 6) (oi := { dst := some 84, op := Go.Op.load 32 (Go.Operand.tmp 83), type := 32, pos := "law.go:43", after := #[{ on := 5, ground := Go.Ground.data }], guard := none }) (v := ?_) rfl (by kernel_rfl) (by kernel_rfl) (by kernel_rfl) (fun _ _ _ h => h) (Or.inl ⟨by rfl, ?_⟩) hS0 ?_; rotate_left; (· (intro wq hSw; obtain ⟨y1, y2⟩ := hSw; go_simp; try with_reducible rfl))
          try simp only [Act.put, List.setIfInBounds_toArray, List.set_cons_zero, List.set_cons_succ]
          refine wpAnyH_ready (rs := [3]) (by kernel_rfl) (by simp) ?_
          refine AllReadyH.cons (o := { dst := some 81, op := Go.Op.call { callee := Go.Callee.value (Go.Operand.func 14), args := #[Go.Operand.tmp 78, Go.Operand.tmp 80], argTypes := #[24, 32] }, type := 4, pos := "law.go:43", after := #[{ on := 0, ground := Go.Ground.data }, { on := 2, ground := Go.Ground.data }], guard := none }) rfl (fun K hK => ?_) AllReadyH.nil
          go_simp
          refine (Live_run H1d.out.run x1 x2).mono ?_
          rintro e w3 ⟨he, r3, b3⟩
          rw [HLV.out] at he
          subst he
          have H3 := Lib.hid (H1d.out.more b3)
          have S3 := And.intro (cell_later b3 hS0.1) (cell_later b3 hS0.2)
          clear r3 b3
          refine hK.out _ _ (S3) (fun hS1 => ?_)
          clear hK K hS0
          try simp only [Act.put, List.setIfInBounds_toArray, List.set_cons_zero, List.set_cons_succ]
          refine wpAnyH_ready (rs := [7]) (by kernel_rfl) (by simp) ?_
          refine AllReadyH.cons (o := { dst := some 85, op := Go.Op.call { callee := Go.Callee.value (Go.Operand.func 15), args := #[Go.Operand.tmp 82, Go.Operand.tmp 84], argTypes := #[28, 32] }, type := 4, pos := "law.go:43", after := #[{ on := 4, ground := Go.Ground.data }, { on := 6, ground := Go.Ground.data }, { on := 3, ground := Go.Ground.chain }], guard := none }) rfl (fun K hK => ?_) AllReadyH.nil
          go_simp
          refine (RLive_p w2.heap.size q st x1 x2 _ H3.out.rf).mono ?_
          rintro e w4 ⟨he, b4⟩
          rw [HLV.out] at he
          subst he
          have H4 := Lib.hid (H3.out.more b4)
          have S4 := And.intro (cell_later b4 hS1.1) (cell_later b4 hS1.2)
          clear b4
          refine hK.out _ _ (S4) (fun hS2 => ?_)
          clear hK K hS1
          try simp only [Act.put, List.setIfInBounds_toArray, List.set_cons_zero, List.set_cons_succ]
          refine wpAnyH_take (i := 8) (oi := { dst := some 86, op := Go.Op.binOp Go.BinOp.neq 4 (Go.Operand.tmp 81) (Go.Operand.tmp 85) 4, type := 4, pos := "law.go:43", after := #[{ on := 3, ground := Go.Ground.data }, { on := 7, ground := Go.Ground.data }], guard := none }) (v := ?_) rfl (by kernel_rfl) (by kernel_rfl) (by kernel_rfl) (fun _ _ _ h => h) (Or.inl ⟨by rfl, ?_⟩) hS2 ?_; rotate_left; (· (intro wq hSw; obtain ⟨y1, y2⟩ := hSw; go_simp; try with_reducible rfl))
          try simp only [Act.put, List.setIfInBounds_toArray, List.set_cons_zero, List.set_cons_succ]
          refine wpAnyH_take (i := 9) (oi := { dst := some 87, op := Go.Op.move (Go.Operand.tmp 86), type := 4, pos := "law.go:43", after := #[{ on := 8, ground := Go.Ground.data }, { on := 7, ground := Go.Ground.chain }], guard := none }) (v := ?_) rfl (by kernel_rfl) (by kernel_rfl) (by kernel_rfl) (fun _ _ _ h => h) (Or.inl ⟨by rfl, ?_⟩) hS2 ?_; rotate_left; (· (intro wq hSw; obtain ⟨y1, y2⟩ := hSw; go_simp; try with_reducible rfl))
          try simp only [Act.put, List.setIfInBounds_toArray, List.set_cons_zero, List.set_cons_succ]
          refine wpAnyH_take (i := 10) (oi := { dst := some 88, op := Go.Op.move (Go.Operand.tmp 6), type := 24, pos := "law.go:43", after := #[{ on := 9, ground := Go.Ground.guard }], guard := some (9, false) }) (v := ?_) rfl (by kernel_rfl) (by kernel_rfl) (by kernel_rfl) (fun _ _ _ h => h) (Or.inl ⟨by rfl, ?_⟩) hS2 ?_; rotate_left; (· (intro wq hSw; obtain ⟨y1, y2⟩ := hSw; go_simp; try with_reducible rfl))
          try simp only [Act.put, List.setIfInBounds_toArray, List.set_cons_zero, List.set_cons_succ]
          refine wpAnyH_take (i := 11) (oi := { dst := some 89, op := Go.Op.fieldAddr 34 (Go.Operand.tmp 11) 1, type := 0, pos := "law.go:43", after := #[{ on := 9, ground := Go.Ground.guard }], guard := some (9, false) }) (v := ?_) rfl (by kernel_rfl) (by kernel_rfl) (by kernel_rfl) (fun _ _ _ h => h) (Or.inl ⟨by rfl, ?_⟩) hS2 ?_; rotate_left; (· (intro wq hSw; obtain ⟨y1, y2⟩ := hSw; go_simp; try with_reducible rfl))
          try simp only [Act.put, List.setIfInBounds_toArray, List.set_cons_zero, List.set_cons_succ]
          refine wpAnyH_take (i := 12) (oi := { dst := some 90, op := Go.Op.load 32 (Go.Operand.tmp 89), type := 32, pos := "law.go:43", after := #[{ on := 11, ground := Go.Ground.data }, { on := 9, ground := Go.Ground.guard }], guard := some (9, false) }) (v := ?_) rfl (by kernel_rfl) (by kernel_rfl) (by kernel_rfl) (fun _ _ _ h => h) (Or.inl ⟨by rfl, ?_⟩) hS2 ?_; rotate_left; (· (intro wq hSw; obtain ⟨y1, y2⟩ := hSw; go_simp; try with_reducible rfl))
          try simp only [Act.put, List.setIfInBounds_toArray, List.set_cons_zero, List.set_cons_succ]
          refine wpAnyH_take (i := 14) (oi := { dst := some 92, op := Go.Op.move (Go.Operand.tmp 8), type := 28, pos := "law.go:43", after := #[{ on := 9, ground := Go.Ground.guard }], guard := some (9, false) }) (v := ?_) rfl (by kernel_rfl) (by kernel_rfl) (by kernel_rfl) (fun _ _ _ h => h) (Or.inl ⟨by rfl, ?_⟩) hS2 ?_; rotate_left; (· (intro wq hSw; obtain ⟨y1, y2⟩ := hSw; go_simp; try with_reducible rfl))
          try simp only [Act.put, List.setIfInBounds_toArray, List.set_cons_zero, List.set_cons_succ]
          refine wpAnyH_take (i := 15) (oi := { dst := some 93, op := Go.Op.fieldAddr 34 (Go.Operand.tmp 11) 1, type := 0, pos := "law.go:43", after := #[{ on := 9, ground := Go.Ground.guard }], guard := some (9, false) }) (v := ?_) rfl (by kernel_rfl) (by kernel_rfl) (by kernel_rfl) (fun _ _ _ h => h) (Or.inl ⟨by rfl, ?_⟩) hS2 ?_; rotate_left; (· (intro wq hSw; obtain ⟨y1, y2⟩ := hSw; go_simp; try with_reducible rfl))
          try simp only [Act.put, List.setIfInBounds_toArray, List.set_cons_zero, List.set_cons_succ]
          refine wpAnyH_take (i := 16) (oi := { dst := some 94, op := Go.Op.load 32 (Go.Operand.tmp 93), type := 32, pos := "law.go:43", after := #[{ on := 15, ground := Go.Ground.data }, { on := 9, ground := Go.Ground.guard }], guard := some (9, false) }) (v := ?_) rfl (by kernel_rfl) (by kernel_rfl) (by kernel_rfl) (fun _ _ _ h => h) (Or.inl ⟨by rfl, ?_⟩) hS2 ?_; rotate_left; (· (intro wq hSw; obtain ⟨y1, y2⟩ := hSw; go_simp; try with_reducible rfl))
          try simp only [Act.put, List.setIfInBounds_toArray, List.set_cons_zero, List.set_cons_succ]
          refine wpAnyH_ready (rs := [13]) (by kernel_rfl) (by simp) ?_
          refine AllReadyH.cons (o := { dst := some 91, op := Go.Op.call { callee := Go.Callee.value (Go.Operand.func 16), args := #[Go.Operand.tmp 88, Go.Operand.tmp 90], argTypes := #[24, 32] }, type := 25, pos := "law.go:43", after := #[{ on := 10, ground := Go.Ground.data }, { on := 12, ground := Go.Ground.data }, { on := 9, ground := Go.Ground.chain }, { on := 9, ground := Go.Ground.guard }], guard := some (9, false) }) rfl (fun K hK => ?_) AllReadyH.nil
          go_simp
          refine (Give_run H4.out.run x1 x2).mono ?_
          rintro e w5 ⟨he, r5, f5⟩
          rw [HGV.out] at he
          subst he
          have H5 := Lib.hid (H4.out.s r5 f5)
          have S5 := And.intro (H4.out.cellS f5 hS2.1 HZ.out) (H4.out.cellS f5 hS2.2 HZ.out)
          clear r5 f5
          refine hK.out _ _ (S5) (fun hS3 => ?_)
          clear hK K hS2
          try simp only [Act.put, List.setIfInBounds_toArray, List.set_cons_zero, List.set_cons_succ]
          refine wpAnyH_ready (rs := [17]) (by kernel_rfl) (by simp) ?_
          refine AllReadyH.cons (o := { dst := some 95, op := Go.Op.call { callee := Go.Callee.value (Go.Operand.func 17), args := #[Go.Operand.tmp 92, Go.Operand.tmp 94], argTypes := #[28, 32] }, type := 25, pos := "law.go:43", after := #[{ on := 14, ground := Go.Ground.data }, { on := 16, ground := Go.Ground.data }, { on := 13, ground := Go.Ground.chain }, { on := 9, ground := Go.Ground.guard }], guard := some (9, false) }) rfl (fun K hK => ?_) AllReadyH.nil
          go_simp
          refine (RGive_any w2.heap.size q st x1 x2 _ H5.out.rf).mono ?_
          rintro e w6 ⟨he, r6, f6⟩
          rw [HGV.out] at he
          subst he
          have H6 := Lib.hid (H5.out.r r6 f6)
          have S6 := And.intro (H5.out.cellR f6 hS3.1 HQL.out) (H5.out.cellR f6 hS3.2 HQL.out)
          clear r6 f6
          refine hK.out _ _ (S6) (fun hS4 => ?_)
          clear hK K hS3
          try simp only [Act.put, List.setIfInBounds_toArray, List.set_cons_zero, List.set_cons_succ]
          refine wpAnyH_take (i := 18) (oi := { dst := some 96, op := Go.Op.binOp Go.BinOp.neq 25 (Go.Operand.tmp 91) (Go.Operand.tmp 95) 25, type := 4, pos := "law.go:43", after := #[{ on := 13, ground := Go.Ground.data }, { on := 17, ground := Go.Ground.data }, { on := 9, ground := Go.Ground.guard }], guard := some (9, false) }) (v := ?_) rfl (by kernel_rfl) (by kernel_rfl) (by kernel_rfl) (fun _ _ _ h => h) (Or.inl ⟨by rfl, ?_⟩) hS4 ?_; rotate_left; (· (intro wq hSw; obtain ⟨y1, y2⟩ := hSw; go_simp; try with_reducible rfl))
          try simp only [Act.put, List.setIfInBounds_toArray, List.set_cons_zero, List.set_cons_succ]
          refine wpAnyH_take (i := 19) (oi := { dst := some 97, op := Go.Op.pick (Go.Operand.tmp 87) (Go.Operand.const (Go.Value.bool true)) (Go.Operand.tmp 96), type := 4, pos := "law.go:43", after := #[{ on := 9, ground := Go.Ground.data }, { on := 18, ground := Go.Ground.data }], guard := none }) (v := ?_) rfl (by kernel_rfl) (by kernel_rfl) (by kernel_rfl) (fun _ _ _ h => h) (Or.inl ⟨by rfl, ?_⟩) hS4 ?_; rotate_left; (· (intro wq hSw; obtain ⟨y1, y2⟩ := hSw; go_simp; try with_reducible rfl))
          try simp only [Act.put, List.setIfInBounds_toArray, List.set_cons_zero, List.set_cons_succ]
          refine wpAnyH_done (by kernel_rfl) ?_ _
          have HA := H6
          go_wp2_with fail
          go_wp2_with (go_at_call 18; refine (RAll_p HA.out).mono ?_)
          rintro e w7 ⟨a7, c7, he, hs7, h7⟩
          obtain ⟨L, hL⟩ : ∃ L, (allR (giveS st (x1, x2))).length = L := ⟨_, rfl⟩
          have hL64 : L ≤ 64 := by have := h7.run.few; rw [hL] at this; exact this
          have HL := Lib.hid hL
          rw [hL] at he hs7
          subst he
          have H7 := Lib.hid (And.intro hs7 h7)
          clear hs7 h7 hL
          go_wp2_with (go_at_call 20; refine (All_run H7.out.2.run).mono ?_)
          rintro e w8 ⟨a8, c8, he, hs8, r8, hb8⟩
          rw [HL.out] at he hs8
          subst he
          have HS8 := Lib.hid (And.intro hs8 (H7.out.1.more hb8))
          have H8 := Lib.hid (H7.out.2.more hb8)
          clear hs8 r8 hb8
          go_wp2_with (go_at_call 19; refine (same_p _ _ (allR (giveS st (x1, x2))) L a8 a7 c8 c7 w8 HL.out hL64 HS8.out.1 HS8.out.2).mono ?_)
          rintro e w9 ⟨rfl, hb9⟩
          have H9 := Lib.hid (H8.out.more hb9)
          have HU := Lib.hid (Used_run (H8.out.more hb9).run)
          rw [HL.out] at HU
          clear hb9
          go_wp2_with (go_at_call 21; refine HU.out.mono ?_; rintro e w' ⟨rfl, rfl⟩)
          go_roundw
          case rel => exact ⟨i + 1, (giveS st (x1, x2)), by omega, by omega, by simp, H9.out⟩
          case measure => simp [intOf]; omega
    · by_cases hil : i < len
      · have hi200 : ¬ i < 200 := fun h => hlt ⟨hil, h⟩
        clear hlt
        go_wp2
        go_ret
        exact ⟨rfl, HR.out.run.below⟩
      · clear hlt
        go_wp2
        go_ret
        exact ⟨rfl, HR.out.run.below⟩

theorem acts_walk (t : Sn) (n : Int) (a : Option Addr) (len cap : Nat) (zs : List Ac) (w : World) (h : ActsIn w a len cap zs) (hc : Ctx t w.heap.size w) : Calls Tryd.prog 3 #[.int .i64 n, .slice a len cap] w (TruePost w) := by
  by_cases hn : n < 1 ∨ 64 < n
  · exact acts_walk_bad t n hn a len cap w hc
  · obtain ⟨k, rfl⟩ := Int.eq_ofNat_of_zero_le (show 0 ≤ n by omega)
    exact acts_walk_ok t k (by omega) (by omega) a len cap zs h.1 h.2.1 h.2.2.1 w hc h.2.2.2

end Go.Proofs.YtjfooblnpkckfaaDoor
