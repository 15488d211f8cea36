/- RingBound: the walk. -/
import Derived.Test.YtbdhagilmdmpdaaDoorLawTurns
namespace Go.Proofs.YtbdhagilmdmpdaaDoor
open Go.RowKit Go.Proofs.Fld Go.Proofs.Rng Go.Shelf Go.Sort

theorem wr (t : Int) (h0 : 0 ≤ t) (h1 : t ≤ 1000000000) : IntKind.i64.wrap t = t ∧ wrap64 t = t := by
  constructor
  · rw [IntKind.wrap_i64]; omega
  · unfold wrap64; omega

set_option maxRecDepth 100000 in
set_option maxHeartbeats 8000000 in
theorem bound_walk (s : Sn) (m : Int) (ao : Option Addr) (len cap : Nat) (zs : List It) (x : It) (hx : x.length ≤ 9223372036854775807) (w : World) (hL : Txs w ao len cap zs) (hs : Sent s w) :
    Calls Tryd.prog 6 #[.agg #[.int .i64 m, .slice ao len cap], .string (bs x)] w (TruePost w) := by
  have R := Rv.new w m ao len cap zs hL
  have hN := Below.new w (.cells #[.int .i64 m, .slice ao len cap] 24)
  have D := (Wd.of hs).more hN
  obtain ⟨W0, hW0⟩ : ∃ W0, w.alloc (.cells #[.int .i64 m, .slice ao len cap] 24) = W0 := ⟨_, rfl⟩
  rw [hW0] at R hN D
  have R := Lib.hid R
  have D := Lib.hid D
  have S0 := Lib.hid hs
  obtain ⟨ys, hys⟩ : ∃ ys, fewI zs = ys := ⟨_, rfl⟩
  have hyl := fewI_length zs
  have hyt := fewI_takes zs
  rw [hys] at hyl hyt
  obtain ⟨k, hk⟩ : ∃ k, ys.length = k := ⟨_, rfl⟩
  have hk40 : k ≤ 40 := hk ▸ hyl
  have HY := Lib.hid (And.intro hys hk)
  clear hL hs hN hys hk hyl
  obtain ⟨y, hy⟩ : ∃ y, x.take 210 = y := ⟨_, rfl⟩
  have hy210 : y.length ≤ 210 := by rw [← hy, List.length_take]; omega
  have HC := Lib.hid (fun W => hy ▸ cut_any x hx W)
  clear hy
  go_enter Tryd.func6, Tryd.ntmps6
  go_wp2_with (go_at_call 9; refine (shown_any s _ D.out.sent).mono ?_)
  rintro e w1 ⟨rfl, hb⟩
  replace D := Lib.hid (D.out.more hb)
  replace R := Lib.hid (R.out.more hb)
  clear hb
  have c0 := R.out.r.c0
  have c1 := R.out.r.c1
  have hlt := R.out.r.lt
  go_wp2_with (go_at_call 10; refine (Few_p HY.out.1 HY.out.2 R.out.t).mono ?_)
  rintro e w2 ⟨va2, vc2, rfl, ⟨ht, ho⟩, hb⟩
  clear c0 c1
  replace D := Lib.hid (D.out.more hb)
  replace R := Lib.hid (R.out.more hb)
  have R' := Rv.set (m := m) R.out.r ht (ho.apart hlt)
  have D' := D.out.set S0.out (b := w.heap.size) (Nat.le_refl _) (.int .i64 m) (.slice va2 k vc2)
  obtain ⟨c0, c1, f0, f1⟩ := R.out.r
  obtain ⟨W2, hW2⟩ : ∃ W2, ((w2.setCell ⟨w.heap.size, 0, none⟩ (.int .i64 m)).setCell ⟨w.heap.size, 1, none⟩ (.slice va2 k vc2)) = W2 := ⟨_, rfl⟩
  rw [hW2] at R' D'
  replace R := Lib.hid R'
  replace D := Lib.hid D'
  clear ht ho hb hlt R' D'
  go_wp2_with fail
  clear c0 c1 f0 f1
  go_wp2_with (go_at_call 14; refine (HC.out _).mono ?_)
  rintro e w3 ⟨rfl, rfl⟩
  obtain ⟨am, ham⟩ : ∃ v, putM m ys y = v := ⟨_, rfl⟩
  obtain ⟨al, hal⟩ : ∃ v, putL m ys y = v := ⟨_, rfl⟩
  obtain ⟨ec, hec⟩ : ∃ v, errN (putE m ys y) = v := ⟨_, rfl⟩
  obtain ⟨ak, hak⟩ : ∃ v, al.length = v := ⟨_, rfl⟩
  have t1 := putL_takes m ys y
  have t2 := putL_len m ys y
  rw [hal] at t1 t2
  have hkk := HY.out.2
  have a1 : ak ≤ 1000000 := by omega
  have a2 : takes al ≤ 1000000 := by omega
  have a7 : k ≤ 1000000 := by omega
  have a8 : takes ys ≤ 1000000 := by omega
  have a9 : y.length ≤ 900000 := by omega
  clear t1 t2 hkk
  have HW := Lib.hid (And.intro ham (And.intro hal (And.intro hec hak)))
  clear ham hal hec hak
  have Rc0 := R.out.r.c0
  have Rc1 := R.out.r.c1
  go_wp2_with (go_at_call 13; refine (Put_q a9 a7 a8 HW.out.1 HW.out.2.1 HW.out.2.2.1 HW.out.2.2.2 R.out.t D.out.sent).mono ?_)
  rintro e w4 ⟨va4, vc4, rfl, ⟨ht4, ho4⟩, hb4⟩
  clear Rc0 Rc1
  have hN4 := Below.new w4 (.cells #[.int .i64 am, .slice va4 ak vc4] 24)
  have b4 := below_more hb4 hN4
  have A := Rv.new w4 am va4 ak vc4 al ht4
  obtain ⟨W4, hW4⟩ : ∃ W4, w4.alloc (.cells #[.int .i64 am, .slice va4 ak vc4] 24) = W4 := ⟨_, rfl⟩
  rw [hW4] at b4 A
  have A := Lib.hid A
  replace D := Lib.hid (D.out.more b4)
  replace R := Lib.hid (R.out.more b4)
  clear ht4 ho4 hb4 hN4 b4
  have hsz := bs_size y
  cases hr : rightR m ys with
  | false =>
    have e1 : ec = 2 := by rw [← HW.out.2.2.1, putE, hr]; rfl
    subst e1
    have HR := Lib.hid hr
    clear hr
    have Rc0 := R.out.r.c0
    have Rc1 := R.out.r.c1
    go_wp2_with (go_at_call 19; refine (Right_p a7 a8 HR.out R.out.t D.out.sent).mono ?_)
    rintro e w5 ⟨rfl, hb⟩
    clear Rc0 Rc1
    replace D := Lib.hid (D.out.more hb)
    replace R := Lib.hid (R.out.more hb)
    replace A := Lib.hid (A.out.more hb)
    clear hb
    go_wp2
    go_ret
    exact ⟨rfl, D.out.below⟩
  | true =>
    by_cases h2 : 200 < y.length
    · have hd : decide ((y.length : Int) > 200) = true := decide_eq_true (by omega)
      have e1 : ec = 2 := by rw [← HW.out.2.2.1, putE, if_pos hr, roomE_one, if_pos h2]; rfl
      subst e1
      have HR := Lib.hid hr
      clear hr
      have Rc0 := R.out.r.c0
      have Rc1 := R.out.r.c1
      go_wp2_with (go_at_call 19; refine (Right_p a7 a8 HR.out R.out.t D.out.sent).mono ?_)
      rintro e w5 ⟨rfl, hb⟩
      clear Rc0 Rc1
      replace D := Lib.hid (D.out.more hb)
      replace R := Lib.hid (R.out.more hb)
      replace A := Lib.hid (A.out.more hb)
      clear hb
      go_wp2
      go_ret
      exact ⟨rfl, D.out.below⟩
    · have hd : decide ((y.length : Int) > 200) = false := decide_eq_false (by omega)
      have HR := Lib.hid hr
      have hu : usedR m ys = takes ys := by unfold usedR; rw [if_pos hr]
      obtain ⟨u, hu'⟩ : ∃ u, takes ys = u := ⟨_, rfl⟩
      rw [hu'] at hu a8
      have HU := Lib.hid (And.intro hu hu')
      clear hr hu hu'
      have Rc0 := R.out.r.c0
      have Rc1 := R.out.r.c1
      go_wp2_with (go_at_call 19; refine (Right_p a7 (by rw [HU.out.2]; exact a8) HR.out R.out.t D.out.sent).mono ?_)
      rintro e w5 ⟨rfl, hb⟩
      clear Rc0 Rc1
      replace D := Lib.hid (D.out.more hb)
      replace R := Lib.hid (R.out.more hb)
      replace A := Lib.hid (A.out.more hb)
      clear hb
      obtain ⟨t1, ht1⟩ : ∃ t1 : Int, (u : Int) + (y.length : Int) = t1 := ⟨_, rfl⟩
      obtain ⟨t2, ht2⟩ : ∃ t2 : Int, t1 + 1 = t2 := ⟨_, rfl⟩
      have hb1 : 0 ≤ t1 ∧ t1 ≤ 2000000 := by clear hd; omega
      have hb2 : 0 ≤ t2 ∧ t2 ≤ 2000001 := by clear hd; omega
      have g1 : t1 ≤ 1000000000 := by omega
      have g2 : t2 ≤ 1000000000 := by omega
      have HWR := Lib.hid (And.intro (show IntKind.i64.wrap ((u : Int) + (y.length : Int)) = t1 from ht1 ▸ (wr t1 hb1.1 g1).1) (And.intro (show IntKind.i64.wrap (t1 + 1) = t2 from ht2 ▸ (wr t2 hb2.1 g2).1) (And.intro (show wrap64 ((u : Int) + (y.length : Int)) = t1 from ht1 ▸ (wr t1 hb1.1 g1).2) (show wrap64 (t1 + 1) = t2 from ht2 ▸ (wr t2 hb2.1 g2).2))))
      clear g1 g2
      clear hb1 hb2
      have HT := Lib.hid (And.intro ht1 ht2)
      by_cases hf : t2 ≤ m
      · have hd2 : decide (t2 ≤ m) = true := decide_eq_true hf
        have e0 : putE m ys y = 0 := putE_iff.2 ⟨HR.out, by omega, by rw [HU.out.2]; omega⟩
        have e1 : ec = 0 := by rw [← HW.out.2.2.1, e0]; rfl
        obtain ⟨e2, e3⟩ := put_0 e0
        obtain ⟨_, e4, _, e5⟩ := right_put e0
        rw [← e3, HW.out.2.1] at e4 e5
        have e6 : am = m := HW.out.1.symm.trans e2
        subst e1 e6
        have e7 : usedR am al = u + y.length + 1 := by unfold usedR; rw [if_pos e4, e5, HU.out.2]
        obtain ⟨u2, hu2⟩ : ∃ u2, u + y.length + 1 = u2 := ⟨_, rfl⟩
        rw [hu2] at e7
        have hu3 : t2 = (u2 : Int) := by omega
        subst hu3
        have HE := Lib.hid (And.intro e4 (And.intro e7 hu2))
        clear e0 e2 e3 e4 e5 e7 hu2 ht1 ht2 hf
        have cU := rg_int (V := w5) fun W hb => Used_p a7 (by rw [HU.out.2]; exact a8) HU.out.1 (R.out.more hb).t (D.out.more hb).sent
        have r0 := cell_regrown R.out.r.c0
        have r1 := cell_regrown R.out.r.c1
        have q0 := R.out.r.c0
        have q1 := R.out.r.c1
        obtain ⟨hw1, hw2, hw3, hw4⟩ := HWR.out
        go_wp2
        refine wp_region_quiet_below (by kernel_rfl) (by kernel_rfl) ?_
        repeat (quiet_step (with_reducible (first | exact cU _ _)))
        refine wpQuiet_nil ?_
        intro W9 hw'
        obtain ⟨⟨dq, osq⟩, hw''⟩ := hw'
        have hbq : Below w5.heap.size w5 W9 := hw'' ▸ below_regrown w5 dq osq
        clear hw'' cU r0 r1 q0 q1
        replace D := Lib.hid (D.out.more hbq)
        replace R := Lib.hid (R.out.more hbq)
        replace A := Lib.hid (A.out.more hbq)
        clear hbq
        have cU := rg_int (V := W9) fun W hb => Used_p a7 (by rw [HU.out.2]; exact a8) HU.out.1 (R.out.more hb).t (D.out.more hb).sent
        have cV := rg_int (V := W9) fun W hb => Used_p a1 a2 HE.out.2.1 (A.out.more hb).t (D.out.more hb).sent
        have cR := rg_bool (V := W9) fun W hb => Right_p a1 a2 HE.out.1 (A.out.more hb).t (D.out.more hb).sent
        have r0 := cell_regrown R.out.r.c0
        have r1 := cell_regrown R.out.r.c1
        have p0 := cell_regrown A.out.r.c0
        have p1 := cell_regrown A.out.r.c1
        have q0 := R.out.r.c0
        have q1 := R.out.r.c1
        have q2 := A.out.r.c0
        have q3 := A.out.r.c1
        go_wp2
        refine wp_region_quiet_below (by kernel_rfl) (by kernel_rfl) ?_
        repeat (quiet_step (with_reducible (first | exact cU _ _ | exact cV _ _ | exact cR _ _)))
        refine wpQuiet_nil ?_
        intro W8 hw'
        obtain ⟨⟨dq, osq⟩, hw''⟩ := hw'
        have hbq : Below W9.heap.size W9 W8 := hw'' ▸ below_regrown W9 dq osq
        replace D := Lib.hid (D.out.more hbq)
        clear hw'' hbq cU cV cR
        go_wp2
        go_ret
        exact ⟨rfl, D.out.below⟩
      · have hd2 : decide (t2 ≤ m) = false := decide_eq_false hf
        have e0 : ec = 80 := by rw [← HW.out.2.2.1, putE, if_pos HR.out, roomE_one, if_neg h2, HU.out.2, if_pos (by omega)]; rfl
        subst e0
        clear ht1 ht2 hf
        have cU := rg_int (V := w5) fun W hb => Used_p a7 (by rw [HU.out.2]; exact a8) HU.out.1 (R.out.more hb).t (D.out.more hb).sent
        have r0 := cell_regrown R.out.r.c0
        have r1 := cell_regrown R.out.r.c1
        have q0 := R.out.r.c0
        have q1 := R.out.r.c1
        obtain ⟨hw1, hw2, hw3, hw4⟩ := HWR.out
        go_wp2
        refine wp_region_quiet_below (by kernel_rfl) (by kernel_rfl) ?_
        repeat (quiet_step (with_reducible (first | exact cU _ _)))
        refine wpQuiet_nil ?_
        intro W9 hw'
        obtain ⟨⟨dq, osq⟩, hw''⟩ := hw'
        have hbq : Below w5.heap.size w5 W9 := hw'' ▸ below_regrown w5 dq osq
        clear hw'' cU r0 r1 q0 q1
        replace D := Lib.hid (D.out.more hbq)
        replace R := Lib.hid (R.out.more hbq)
        replace A := Lib.hid (A.out.more hbq)
        clear hbq
        have q0 := R.out.r.c0
        have q1 := R.out.r.c1
        have q2 := A.out.r.c0
        have q3 := A.out.r.c1
        go_wp2
        go_quiet (fail)
        go_wp2
        go_ret
        exact ⟨rfl, below_drewN D.out.below _⟩

end Go.Proofs.YtbdhagilmdmpdaaDoor
