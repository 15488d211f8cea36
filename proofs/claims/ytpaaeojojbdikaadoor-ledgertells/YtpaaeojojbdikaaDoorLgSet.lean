/- The document's set: a ledger, a label's line having so much. -/
import Derived.Test.YtpaaeojojbdikaaDoorLgRef3
namespace Go.Proofs.YtpaaeojojbdikaaDoor
open Go.RowKit Go.Proofs.Cats Go.Proofs.Lgr Go.Shelf Go.Sort

theorem neqL (a b : Lab) (w : World) : (binOp .neq 25 (.agg #[.int .i64 a.l, .int .u64 a.c, .int .i64 a.i]) (.agg #[.int .i64 b.l, .int .u64 b.c, .int .i64 b.i])).run Tryd.prog w = .ok (.bool (!(a.same b))) w := by
  have h := eqInL a b w
  go_simp
theorem set_step {l : List Ln} {k : Nat} {x : Ln} (a : Lab) (n : Int) (d : Bool) (h : l[k]? = some x) : setGo a n d (l.drop k) = (if !d && !x.a.ahead a then [⟨a, n⟩] else []) ++ (if x.a.same a then [] else [x]) ++ setGo a n (d || !x.a.ahead a) (l.drop (k + 1)) := by
  obtain ⟨hk, rfl⟩ := List.getElem?_eq_some_iff.1 h
  rw [List.drop_eq_getElem_cons hk]
  rfl

set_option maxRecDepth 100000 in
set_option maxHeartbeats 8000000 in
theorem set_any (a : Lab) (n : Int) (ao : Option Addr) (len cap : Nat) (l : List Ln) (hreach : len ≤ 1000) (w : World) (hL : Lns w ao len cap l) :
    Calls Tryd.prog 41 #[.slice ao len cap, .agg #[.int .i64 a.l, .int .u64 a.c, .int .i64 a.i], .int .i64 n] w (SeqP (setGo a n (n == 0) l) w) := by
  obtain ⟨i0, hi, hz0, hz1, hz2⟩ := info_parts infoLn
  have hB0 := Below.new w (.cells #[.int .i64 a.l, .int .u64 a.c, .int .i64 a.i] 25)
  have hll := hL.hlen
  have HL := Lib.hid (And.intro (hL.more hB0) (And.intro hB0 (And.intro (La3.new w a) hll)))
  clear hL hB0 hll
  obtain ⟨d0, hd0⟩ : ∃ d0, (n == 0) = d0 := ⟨_, rfl⟩
  rw [hd0]
  go_enter Tryd.func41, Tryd.ntmps41
  go_wp2
  clear hd0
  obtain ⟨W0, hW0⟩ : ∃ W0, w.alloc (.cells #[.int .i64 a.l, .int .u64 a.c, .int .i64 a.i] 25) = W0 := ⟨_, rfl⟩
  rw [hW0] at HL ⊢
  clear hW0
  go_loopw [7, 8, 9] (fun o dv v wr => ∃ (k m : Nat) (va : Option Addr) (vc : Nat) (d : Bool) (O : List Ln), k ≤ len ∧ m ≤ 2 * k ∧ o = .slice va m vc ∧ dv = .bool d ∧ v = .int .i64 k ∧ Hid (OutW W0.heap.size W0 (.slice va m vc) m O wr) ∧ Hid (setGo a n d0 l = O ++ setGo a n d (l.drop k))) (fun _ _ v _ => len - (intOf v).toNat)
  case atStart => exact ⟨0, 0, none, 0, d0, [], Nat.zero_le _, Nat.le_refl _, rfl, rfl, rfl, ⟨World.ownsRow_nil _ _ _ _, rfl, Below.refl _ _, Nat.le_refl _⟩, (by show setGo a n d0 l = _; simp)⟩
  case round =>
    obtain ⟨k, m, va, vc, d, O, hk, hmk, rfl, rfl, rfl, HO, HE⟩ := hrel
    by_cases hlt : k < len
    · obtain ⟨x, hx⟩ : ∃ x, l[k]? = some x := ⟨_, List.getElem?_eq_getElem (by rw [HL.out.2.2.2]; exact hlt)⟩
      obtain ⟨b, off, rfl, hb, hcs⟩ := HL.out.1.at (by omega)
      have HX := Lib.hid hx
      have HC := Lib.hid hcs
      have hst := set_step a n d hx
      have hn := neqL x.a a
      have hle := cmp_le a x.a
      clear hx hcs
      cases d with
      | true =>
        cases hs : x.a.same a with
        | true =>
          rw [hs] at hn hst
          have HD := Lib.hid hst
          clear hs hst hle
          obtain ⟨q0, q1, q2, q3⟩ := (HC.out k x HX.out).of_block (HO.out.below.block b hb)
          obtain ⟨a0, a1, a2⟩ := HL.out.2.2.1.more HO.out.below
          go_wp2
          go_quiet (fail)
          have hb1 : Below wr.heap.size wr (wr.drewN nq) := below_drewN (Below.refl _ _) nq
          obtain ⟨W1, hW1⟩ : ∃ W1, wr.drewN nq = W1 := ⟨_, rfl⟩
          rw [hW1] at hb1 ⊢
          clear hW1
          have HO1 := Lib.hid (HO.out.more hb1)
          clear hb1 q0 q1 q2 q3 a0 a1 a2
          obtain ⟨q0, q1, q2, q3⟩ := (HC.out k x HX.out).of_block (HO1.out.below.block b hb)
          obtain ⟨a0, a1, a2⟩ := HL.out.2.2.1.more HO1.out.below
          go_wp2
          go_quiet (fail)
          have hb2 : Below W1.heap.size W1 (W1.drewN nq) := below_drewN (Below.refl _ _) nq
          obtain ⟨W2, hW2⟩ : ∃ W2, W1.drewN nq = W2 := ⟨_, rfl⟩
          rw [hW2] at hb2 ⊢
          clear hW2
          have HO6 := Lib.hid (HO1.out.more hb2)
          clear hb2 q0 q1 q2 q3 a0 a1 a2
          go_wp2
          go_roundw
          case rel =>
            refine ⟨k + 1, m, va, vc, true, _, by omega, by omega, rfl, rfl, by simp, HO6.out, Lib.hid ?_⟩
            rw [HE.out, HD.out]
            simp
          case measure => simp [intOf]; omega
        | false =>
          rw [hs] at hn hst
          have HD := Lib.hid hst
          clear hs hst hle
          obtain ⟨q0, q1, q2, q3⟩ := (HC.out k x HX.out).of_block (HO.out.below.block b hb)
          obtain ⟨a0, a1, a2⟩ := HL.out.2.2.1.more HO.out.below
          go_wp2
          go_quiet (fail)
          have hb1 : Below wr.heap.size wr (wr.drewN nq) := below_drewN (Below.refl _ _) nq
          obtain ⟨W1, hW1⟩ : ∃ W1, wr.drewN nq = W1 := ⟨_, rfl⟩
          rw [hW1] at hb1 ⊢
          clear hW1
          have HO1 := Lib.hid (HO.out.more hb1)
          clear hb1 q0 q1 q2 q3 a0 a1 a2
          obtain ⟨q0, q1, q2, q3⟩ := (HC.out k x HX.out).of_block (HO1.out.below.block b hb)
          obtain ⟨a0, a1, a2⟩ := HL.out.2.2.1.more HO1.out.below
          go_wp2
          go_quiet (fail)
          have hb2 : Below W1.heap.size W1 (W1.drewN nq) := below_drewN (Below.refl _ _) nq
          obtain ⟨W2, hW2⟩ : ∃ W2, W1.drewN nq = W2 := ⟨_, rfl⟩
          rw [hW2] at hb2 ⊢
          clear hW2
          have HO6 := Lib.hid (HO1.out.more hb2)
          clear hb2 q0 q1 q2 q3 a0 a1 a2
          obtain ⟨q0, q1, q2, q3⟩ := (HC.out k x HX.out).of_block (HO6.out.below.block b hb)
          obtain ⟨a0, a1, a2⟩ := HL.out.2.2.1.more HO6.out.below
          have hO6a := HO6.out.more (Below.new W2 (.cells #[.int .i64 x.a.l, .int .u64 x.a.c, .int .i64 x.a.i, .int .i64 x.u] 43))
          have HOa := Lib.hid hO6a
          have HN := Lib.hid (ln_new W2 x)
          have hsz : W0.heap.size ≤ (W2.alloc (.cells #[.int .i64 x.a.l, .int .u64 x.a.c, .int .i64 x.a.i, .int .i64 x.u] 43)).heap.size := hO6a.below.size
          have HSZ := Lib.hid hsz
          clear hO6a hsz
          go_wp2_with (at_builtin; go_loud (refine wpList_append_own _ rfl _ _ 22 rfl W0.heap.size 43 i0 (.agg #[.int .i64 0, .int .u64 0, .int .i64 0, .int .i64 0]) 4 32 Tryd.underlying22 hi hz0 hz1 hz2 rfl (by decide) (.slice va m vc) (m) _ rfl HOa.out.row ⟨W2.heap.size, 0, none⟩ 1 1 (cells4 x) rfl rfl HN.out (by simp [cells4, Value.oneCell']) (by unfold maxLen; omega) (by omega) HSZ.out ?_))
          intro v2 w7 hown hgrow _
          obtain ⟨g2, cap2, rfl⟩ := ownsRow_succ hown
          have HO7 := Lib.hid (HOa.out.snoc hown hgrow)
          clear hown hgrow HOa HN HSZ
          clear q0 q1 q2 q3 a0 a1 a2
          go_wp2
          go_roundw
          case rel =>
            refine ⟨k + 1, m + 1, some ⟨g2, 0, none⟩, cap2, true, _, by omega, by omega, rfl, rfl, by simp, HO7.out, Lib.hid ?_⟩
            rw [HE.out, HD.out]
            simp
          case measure => simp [intOf]; omega
      | false =>
        cases ha : x.a.ahead a with
        | true =>
          have hs := same_no (ahead_ne ha)
          rw [hs] at hn hst
          rw [ha] at hst hle
          have HD := Lib.hid hst
          clear hs hst ha
          obtain ⟨q0, q1, q2, q3⟩ := (HC.out k x HX.out).of_block (HO.out.below.block b hb)
          obtain ⟨a0, a1, a2⟩ := HL.out.2.2.1.more HO.out.below
          have k0 := cell_regrown q0
          have k1 := cell_regrown q1
          have k2 := cell_regrown q2
          have e0 := cell_regrown a0
          have e1 := cell_regrown a1
          have e2 := cell_regrown a2
          have cC := rg_int (V := wr) fun W _ => refCmpQ a x.a W
          go_wp2
          refine wp_region_quiet_below (by kernel_rfl) (by kernel_rfl) ?_
          repeat (quiet_step (with_reducible (first | exact cC _ _)))
          refine wpQuiet_nil ?_
          intro W1 hw'
          obtain ⟨⟨dq, osq⟩, hw''⟩ := hw'
          have hb1 : Below wr.heap.size wr W1 := hw'' ▸ below_regrown wr dq osq
          clear hw'' k0 k1 k2 e0 e1 e2 cC
          have HO1 := Lib.hid (HO.out.more hb1)
          clear hb1 q0 q1 q2 q3 a0 a1 a2
          obtain ⟨q0, q1, q2, q3⟩ := (HC.out k x HX.out).of_block (HO1.out.below.block b hb)
          obtain ⟨a0, a1, a2⟩ := HL.out.2.2.1.more HO1.out.below
          go_wp2
          go_quiet (fail)
          have hb2 : Below W1.heap.size W1 (W1.drewN nq) := below_drewN (Below.refl _ _) nq
          obtain ⟨W2, hW2⟩ : ∃ W2, W1.drewN nq = W2 := ⟨_, rfl⟩
          rw [hW2] at hb2 ⊢
          clear hW2
          have HO6 := Lib.hid (HO1.out.more hb2)
          clear hb2 q0 q1 q2 q3 a0 a1 a2
          obtain ⟨q0, q1, q2, q3⟩ := (HC.out k x HX.out).of_block (HO6.out.below.block b hb)
          obtain ⟨a0, a1, a2⟩ := HL.out.2.2.1.more HO6.out.below
          have hO6a := HO6.out.more (Below.new W2 (.cells #[.int .i64 x.a.l, .int .u64 x.a.c, .int .i64 x.a.i, .int .i64 x.u] 43))
          have HOa := Lib.hid hO6a
          have HN := Lib.hid (ln_new W2 x)
          have hsz : W0.heap.size ≤ (W2.alloc (.cells #[.int .i64 x.a.l, .int .u64 x.a.c, .int .i64 x.a.i, .int .i64 x.u] 43)).heap.size := hO6a.below.size
          have HSZ := Lib.hid hsz
          clear hO6a hsz
          go_wp2_with (at_builtin; go_loud (refine wpList_append_own _ rfl _ _ 22 rfl W0.heap.size 43 i0 (.agg #[.int .i64 0, .int .u64 0, .int .i64 0, .int .i64 0]) 4 32 Tryd.underlying22 hi hz0 hz1 hz2 rfl (by decide) (.slice va m vc) (m) _ rfl HOa.out.row ⟨W2.heap.size, 0, none⟩ 1 1 (cells4 x) rfl rfl HN.out (by simp [cells4, Value.oneCell']) (by unfold maxLen; omega) (by omega) HSZ.out ?_))
          intro v2 w7 hown hgrow _
          obtain ⟨g2, cap2, rfl⟩ := ownsRow_succ hown
          have HO7 := Lib.hid (HOa.out.snoc hown hgrow)
          clear hown hgrow HOa HN HSZ
          clear q0 q1 q2 q3 a0 a1 a2
          go_wp2
          go_roundw
          case rel =>
            refine ⟨k + 1, m + 1, some ⟨g2, 0, none⟩, cap2, false, _, by omega, by omega, rfl, rfl, by simp, HO7.out, Lib.hid ?_⟩
            rw [HE.out, HD.out]
            simp
          case measure => simp [intOf]; omega
        | false =>
          rw [ha] at hst hle
          cases hs : x.a.same a with
          | true =>
            rw [hs] at hn hst
            have HD := Lib.hid hst
            clear hs hst ha
            obtain ⟨q0, q1, q2, q3⟩ := (HC.out k x HX.out).of_block (HO.out.below.block b hb)
            obtain ⟨a0, a1, a2⟩ := HL.out.2.2.1.more HO.out.below
            have k0 := cell_regrown q0
            have k1 := cell_regrown q1
            have k2 := cell_regrown q2
            have e0 := cell_regrown a0
            have e1 := cell_regrown a1
            have e2 := cell_regrown a2
            have cC := rg_int (V := wr) fun W _ => refCmpQ a x.a W
            go_wp2
            refine wp_region_quiet_below (by kernel_rfl) (by kernel_rfl) ?_
            repeat (quiet_step (with_reducible (first | exact cC _ _)))
            refine wpQuiet_nil ?_
            intro W1 hw'
            obtain ⟨⟨dq, osq⟩, hw''⟩ := hw'
            have hb1 : Below wr.heap.size wr W1 := hw'' ▸ below_regrown wr dq osq
            clear hw'' k0 k1 k2 e0 e1 e2 cC
            have HO1 := Lib.hid (HO.out.more hb1)
            clear hb1 q0 q1 q2 q3 a0 a1 a2
            obtain ⟨q0, q1, q2, q3⟩ := (HC.out k x HX.out).of_block (HO1.out.below.block b hb)
            obtain ⟨a0, a1, a2⟩ := HL.out.2.2.1.more HO1.out.below
            have hO1a := HO1.out.more (Below.new W1 (.cells #[.int .i64 a.l, .int .u64 a.c, .int .i64 a.i, .int .i64 n] 43))
            have HOa := Lib.hid hO1a
            have HN := Lib.hid (ln_new W1 ⟨a, n⟩)
            have hsz : W0.heap.size ≤ (W1.alloc (.cells #[.int .i64 a.l, .int .u64 a.c, .int .i64 a.i, .int .i64 n] 43)).heap.size := hO1a.below.size
            have HSZ := Lib.hid hsz
            clear hO1a hsz
            go_wp2_with (at_builtin; go_loud (refine wpList_append_own _ rfl _ _ 22 rfl W0.heap.size 43 i0 (.agg #[.int .i64 0, .int .u64 0, .int .i64 0, .int .i64 0]) 4 32 Tryd.underlying22 hi hz0 hz1 hz2 rfl (by decide) (.slice va m vc) (m) _ rfl HOa.out.row ⟨W1.heap.size, 0, none⟩ 1 1 (cells4 ⟨a, n⟩) rfl rfl HN.out (by simp [cells4, Value.oneCell']) (by unfold maxLen; omega) (by omega) HSZ.out ?_))
            intro v' w5 hown hgrow _
            obtain ⟨g', cap', rfl⟩ := ownsRow_succ hown
            have HO5 := Lib.hid (HOa.out.snoc hown hgrow)
            clear hown hgrow HOa HN HSZ
            clear q0 q1 q2 q3 a0 a1 a2
            obtain ⟨q0, q1, q2, q3⟩ := (HC.out k x HX.out).of_block (HO5.out.below.block b hb)
            obtain ⟨a0, a1, a2⟩ := HL.out.2.2.1.more HO5.out.below
            go_wp2
            go_quiet (fail)
            have hb2 : Below w5.heap.size w5 (w5.drewN nq) := below_drewN (Below.refl _ _) nq
            obtain ⟨W2, hW2⟩ : ∃ W2, w5.drewN nq = W2 := ⟨_, rfl⟩
            rw [hW2] at hb2 ⊢
            clear hW2
            have HO6 := Lib.hid (HO5.out.more hb2)
            clear hb2 q0 q1 q2 q3 a0 a1 a2
            go_wp2
            go_roundw
            case rel =>
              refine ⟨k + 1, m + 1, some ⟨g', 0, none⟩, cap', true, _, by omega, by omega, rfl, rfl, by simp, HO6.out, Lib.hid ?_⟩
              rw [HE.out, HD.out]
              simp
            case measure => simp [intOf]; omega
          | false =>
            rw [hs] at hn hst
            have HD := Lib.hid hst
            clear hs hst ha
            obtain ⟨q0, q1, q2, q3⟩ := (HC.out k x HX.out).of_block (HO.out.below.block b hb)
            obtain ⟨a0, a1, a2⟩ := HL.out.2.2.1.more HO.out.below
            have k0 := cell_regrown q0
            have k1 := cell_regrown q1
            have k2 := cell_regrown q2
            have e0 := cell_regrown a0
            have e1 := cell_regrown a1
            have e2 := cell_regrown a2
            have cC := rg_int (V := wr) fun W _ => refCmpQ a x.a W
            go_wp2
            refine wp_region_quiet_below (by kernel_rfl) (by kernel_rfl) ?_
            repeat (quiet_step (with_reducible (first | exact cC _ _)))
            refine wpQuiet_nil ?_
            intro W1 hw'
            obtain ⟨⟨dq, osq⟩, hw''⟩ := hw'
            have hb1 : Below wr.heap.size wr W1 := hw'' ▸ below_regrown wr dq osq
            clear hw'' k0 k1 k2 e0 e1 e2 cC
            have HO1 := Lib.hid (HO.out.more hb1)
            clear hb1 q0 q1 q2 q3 a0 a1 a2
            obtain ⟨q0, q1, q2, q3⟩ := (HC.out k x HX.out).of_block (HO1.out.below.block b hb)
            obtain ⟨a0, a1, a2⟩ := HL.out.2.2.1.more HO1.out.below
            have hO1a := HO1.out.more (Below.new W1 (.cells #[.int .i64 a.l, .int .u64 a.c, .int .i64 a.i, .int .i64 n] 43))
            have HOa := Lib.hid hO1a
            have HN := Lib.hid (ln_new W1 ⟨a, n⟩)
            have hsz : W0.heap.size ≤ (W1.alloc (.cells #[.int .i64 a.l, .int .u64 a.c, .int .i64 a.i, .int .i64 n] 43)).heap.size := hO1a.below.size
            have HSZ := Lib.hid hsz
            clear hO1a hsz
            go_wp2_with (at_builtin; go_loud (refine wpList_append_own _ rfl _ _ 22 rfl W0.heap.size 43 i0 (.agg #[.int .i64 0, .int .u64 0, .int .i64 0, .int .i64 0]) 4 32 Tryd.underlying22 hi hz0 hz1 hz2 rfl (by decide) (.slice va m vc) (m) _ rfl HOa.out.row ⟨W1.heap.size, 0, none⟩ 1 1 (cells4 ⟨a, n⟩) rfl rfl HN.out (by simp [cells4, Value.oneCell']) (by unfold maxLen; omega) (by omega) HSZ.out ?_))
            intro v' w5 hown hgrow _
            obtain ⟨g', cap', rfl⟩ := ownsRow_succ hown
            have HO5 := Lib.hid (HOa.out.snoc hown hgrow)
            clear hown hgrow HOa HN HSZ
            clear q0 q1 q2 q3 a0 a1 a2
            obtain ⟨q0, q1, q2, q3⟩ := (HC.out k x HX.out).of_block (HO5.out.below.block b hb)
            obtain ⟨a0, a1, a2⟩ := HL.out.2.2.1.more HO5.out.below
            go_wp2
            go_quiet (fail)
            have hb2 : Below w5.heap.size w5 (w5.drewN nq) := below_drewN (Below.refl _ _) nq
            obtain ⟨W2, hW2⟩ : ∃ W2, w5.drewN nq = W2 := ⟨_, rfl⟩
            rw [hW2] at hb2 ⊢
            clear hW2
            have HO6 := Lib.hid (HO5.out.more hb2)
            clear hb2 q0 q1 q2 q3 a0 a1 a2
            obtain ⟨q0, q1, q2, q3⟩ := (HC.out k x HX.out).of_block (HO6.out.below.block b hb)
            obtain ⟨a0, a1, a2⟩ := HL.out.2.2.1.more HO6.out.below
            have hO6a := HO6.out.more (Below.new W2 (.cells #[.int .i64 x.a.l, .int .u64 x.a.c, .int .i64 x.a.i, .int .i64 x.u] 43))
            have HOa := Lib.hid hO6a
            have HN := Lib.hid (ln_new W2 x)
            have hsz : W0.heap.size ≤ (W2.alloc (.cells #[.int .i64 x.a.l, .int .u64 x.a.c, .int .i64 x.a.i, .int .i64 x.u] 43)).heap.size := hO6a.below.size
            have HSZ := Lib.hid hsz
            clear hO6a hsz
            go_wp2_with (at_builtin; go_loud (refine wpList_append_own _ rfl _ _ 22 rfl W0.heap.size 43 i0 (.agg #[.int .i64 0, .int .u64 0, .int .i64 0, .int .i64 0]) 4 32 Tryd.underlying22 hi hz0 hz1 hz2 rfl (by decide) (.slice (some ⟨g', 0, none⟩) (m + 1) cap') (m + 1) _ rfl HOa.out.row ⟨W2.heap.size, 0, none⟩ 1 1 (cells4 x) rfl rfl HN.out (by simp [cells4, Value.oneCell']) (by unfold maxLen; omega) (by omega) HSZ.out ?_))
            intro v2 w7 hown hgrow _
            obtain ⟨g2, cap2, rfl⟩ := ownsRow_succ hown
            have HO7 := Lib.hid (HOa.out.snoc hown hgrow)
            clear hown hgrow HOa HN HSZ
            clear q0 q1 q2 q3 a0 a1 a2
            go_wp2
            go_roundw
            case rel =>
              refine ⟨k + 1, m + 1 + 1, some ⟨g2, 0, none⟩, cap2, true, _, by omega, by omega, rfl, rfl, by simp, HO7.out, Lib.hid ?_⟩
              rw [HE.out, HD.out]
              simp
            case measure => simp [intOf]; omega
    · obtain rfl : k = len := by omega
      have hdr : l.drop k = [] := List.drop_eq_nil_of_le (by rw [HL.out.2.2.2]; exact Nat.le_refl _)
      have hE := HE.out
      rw [hdr] at hE
      have hsz := HL.out.2.1.size
      cases d with
      | true =>
        have HF := Lib.hid (show setGo a n d0 l = O by rw [hE]; simp [setGo])
        have HOo := Lib.hid (show OwnL W0.heap.size wr (.slice va m vc) O by unfold OwnL; rw [HO.out.len]; exact HO.out.row)
        clear hE hdr
        go_wp2
        go_ret
        exact ⟨va, vc, by rw [HF.out, HO.out.len]; rfl, by rw [HF.out, HO.out.len]; exact HOo.out.mono hsz, below_more HL.out.2.1 HO.out.below⟩
      | false =>
        have HF := Lib.hid (show setGo a n d0 l = O ++ [⟨a, n⟩] by rw [hE]; simp [setGo])
        clear hE hdr
        obtain ⟨a0, a1, a2⟩ := HL.out.2.2.1.more HO.out.below
        have hO1a := HO.out.more (Below.new wr (.cells #[.int .i64 a.l, .int .u64 a.c, .int .i64 a.i, .int .i64 n] 43))
        have HOa := Lib.hid hO1a
        have HN := Lib.hid (ln_new wr ⟨a, n⟩)
        have hsz : W0.heap.size ≤ (wr.alloc (.cells #[.int .i64 a.l, .int .u64 a.c, .int .i64 a.i, .int .i64 n] 43)).heap.size := hO1a.below.size
        have HSZ := Lib.hid hsz
        clear hO1a hsz
        go_wp2_with (at_builtin; go_loud (refine wpList_append_own _ rfl _ _ 22 rfl W0.heap.size 43 i0 (.agg #[.int .i64 0, .int .u64 0, .int .i64 0, .int .i64 0]) 4 32 Tryd.underlying22 hi hz0 hz1 hz2 rfl (by decide) (.slice va m vc) (m) _ rfl HOa.out.row ⟨wr.heap.size, 0, none⟩ 1 1 (cells4 ⟨a, n⟩) rfl rfl HN.out (by simp [cells4, Value.oneCell']) (by unfold maxLen; omega) (by omega) HSZ.out ?_))
        intro v' w5 hown hgrow _
        obtain ⟨g', cap', rfl⟩ := ownsRow_succ hown
        have HO5 := Lib.hid (HOa.out.snoc hown hgrow)
        clear hown hgrow HOa HN HSZ
        have HOo := Lib.hid (show OwnL W0.heap.size w5 (.slice (some ⟨g', 0, none⟩) (m + 1) cap') (O ++ [⟨a, n⟩]) by unfold OwnL; rw [HO5.out.len]; exact HO5.out.row)
        go_wp2
        go_ret
        exact ⟨_, cap', by rw [HF.out, HO5.out.len]; rfl, by rw [HF.out, HO5.out.len]; exact HOo.out.mono hsz, below_more HL.out.2.1 HO5.out.below⟩

end Go.Proofs.YtpaaeojojbdikaaDoor
