/- RingOrder: the walk. -/
import Derived.Test.YtbdhagilmdmpdaaDoorLawTurns
namespace Go.Proofs.Rng
theorem order_facts {m : Int} (ls : List It) (h : rightR m [] = true) : ∃ n, allN m [] ls = n ∧ n ≤ ls.length ∧ allM m [] = m ∧ allL m [] ls = ls.take n ∧ errN (allE m []) = 0 ∧ rightR m (ls.take n) = true := by
  refine ⟨roomN m (takes []) ls, by unfold allN; rw [if_pos h], roomN_le _ _ _, by unfold allM; rw [if_pos h], by unfold allL; rw [if_pos h]; rfl, by unfold allE; rw [if_pos h]; rfl, ?_⟩
  have := right_all h (room_fit m (takes []) ls) (roomN_le _ _ _)
  simpa using this
theorem order_take {m : Int} {ls : List It} {n k : Nat} {x : It} (h : rightR m (ls.take n) = true) (hk : k < n) (hx : ls[k]? = some x) : takeX m ((ls.take n).drop k) = x ∧ takeM m ((ls.take n).drop k) = m ∧ takeL m ((ls.take n).drop k) = (ls.take n).drop (k + 1) ∧ errN (takeE m ((ls.take n).drop k)) = 0 := by
  have hr := right_drop k h
  have h0 : ((ls.take n).drop k)[0]? = some x := by
    rw [List.getElem?_drop, Nat.add_zero, List.getElem?_take, if_pos hk, hx]
  have hne : (ls.take n).drop k ≠ [] := fun e => by rw [e] at h0; simp at h0
  have ht := takeE_iff.2 ⟨hr, hne⟩
  obtain ⟨_, a, r, e, e1, e2, e3⟩ := take_0 ht
  rw [e] at h0
  have hax : a = x := by simpa using h0
  refine ⟨e3.trans hax, e1, ?_, by rw [ht]; rfl⟩
  rw [e2]
  have : (ls.take n).drop (k + 1) = ((ls.take n).drop k).drop 1 := by rw [List.drop_drop]
  rw [this, e]
  rfl
theorem order_end {m : Int} (h : rightR m [] = true) : takeX m [] = [] ∧ takeM m [] = 0 ∧ takeL m [] = [] ∧ errN (takeE m []) = 81 := by
  have e : takeE m [] = 3 := by unfold takeE; rw [if_pos h, if_pos rfl]
  exact ⟨by unfold takeX; rw [e]; rfl, by unfold takeM; rw [e]; rfl, by unfold takeL; rw [e]; rfl, by rw [e]; rfl⟩
end Go.Proofs.Rng
namespace Go.Proofs.YtbdhagilmdmpdaaDoor
open Go.RowKit Go.Proofs.Fld Go.Proofs.Rng Go.Shelf Go.Sort

theorem Txs.empty {W W' : World} {ao : Option Addr} {k c : Nat} (h : Txs W ao k c []) : Txs W' ao k c [] := ⟨h.hlen, h.hle, h.hmax, h.hnone, h.hfits, fun h => absurd rfl h⟩
theorem Txs.set2 {W : World} {b : Nat} {ao : Option Addr} {k c : Nat} {l : List It} {u v : Value} (h : Txs W ao k c l) (hne : 0 < k → ∀ a, ao = some a → a.block ≠ b) : Txs ((W.setCell ⟨b, 0, none⟩ u).setCell ⟨b, 1, none⟩ v) ao k c l := by
  by_cases hz : l = []
  · subst hz
    exact h.empty
  · have hk : 0 < k := by rw [← h.hlen]; exact List.length_pos_iff.2 hz
    exact (h.set (hne hk)).set (hne hk)
theorem Txs.below {W : World} {ao : Option Addr} {k c : Nat} {l : List It} (h : Txs W ao k c l) : 0 < k → ∀ a, ao = some a → a.block < W.heap.size := by
  intro hp a e
  obtain ⟨b, off, e', hb, _⟩ := h.at hp
  rw [e] at e'
  obtain rfl := Option.some.inj e'
  exact hb
theorem R2.other {W : World} {b b' : Nat} {u x u' x' : Value} (h : R2 W b u x) (hne : b' ≠ b) : R2 ((W.setCell ⟨b', 0, none⟩ u').setCell ⟨b', 1, none⟩ x') b u x := ⟨set2O h.c0 hne, set2O h.c1 hne, setF (setF h.f0), setF (setF h.f1)⟩
/-- RingOrder between two rounds. -/
structure OrdI (s : Sn) (w0 wr : World) (m : Int) (Br Bq : Nat) (ra ia qa : Option Addr) (rc ik ic n k qc : Nat) (ls : List It) : Prop where
  d : Wd s w0 wr
  i : Txs wr ia ik ic ls
  r : Rv wr Br m ra 0 rc []
  q : Rv wr Bq m qa (n - k) qc ((ls.take n).drop k)

set_option maxRecDepth 100000 in
set_option maxHeartbeats 8000000 in
theorem order_walk (s : Sn) (m : Int) (ao : Option Addr) (len cap : Nat) (zs : List It) (w : World) (hL : Txs w ao len cap zs) (hs : Sent s w) :
    Calls Tryd.prog 5 #[.int .i64 m, .slice ao len cap] w (TruePost w) := by
  have D := Lib.hid (Wd.of hs)
  have I := Lib.hid hL
  have S0 := Lib.hid hs
  obtain ⟨ys, hys⟩ : ∃ ys, fewI zs = ys := ⟨_, rfl⟩
  have hyl := fewI_length zs
  have hyt := fewI_takes zs
  rw [hys] at hyl hyt
  obtain ⟨k, hk⟩ : ∃ k, ys.length = k := ⟨_, rfl⟩
  have hk40 : k ≤ 40 := hk ▸ hyl
  have HY := Lib.hid (And.intro hys hk)
  clear hL hs hys hk hyl
  go_enter Tryd.func5, Tryd.ntmps5
  go_wp2_with (go_at_call 9; refine (shown_any s _ D.out.sent).mono ?_)
  rintro e w1 ⟨rfl, hb⟩
  replace D := Lib.hid (D.out.more hb)
  replace I := Lib.hid (I.out.more hb)
  clear hb
  go_wp2_with (go_at_call 25; refine (few_p HY.out.1 HY.out.2 I.out).mono ?_)
  rintro e w2 ⟨ia, ic, rfl, ⟨ht, ho⟩, hb⟩
  replace D := Lib.hid (D.out.more hb)
  replace I := Lib.hid ht
  clear ht ho hb
  have a7 : k ≤ 1000000 := by omega
  have a8 : takes ys ≤ 900000 := by omega
  cases hr : rightR m [] with
  | false =>
    have HN := Lib.hid (And.intro (show newM m = 0 by unfold newM; rw [hr]; rfl) (show errN (newE m) = 2 by unfold newE; rw [hr]; rfl))
    clear hr
    go_wp2_with (go_at_call 11; refine (New_q HN.out.1 HN.out.2 D.out.sent).mono ?_)
    rintro e w3 ⟨va3, vc3, rfl, ⟨ht3, ho3⟩, hb3⟩
    have hN3 := Below.new w3 (.cells #[.int .i64 0, .slice va3 0 vc3] 24)
    have b3 := below_more hb3 hN3
    have R := Rv.new w3 0 va3 0 vc3 [] ht3
    obtain ⟨W3, hW3⟩ : ∃ W3, w3.alloc (.cells #[.int .i64 0, .slice va3 0 vc3] 24) = W3 := ⟨_, rfl⟩
    rw [hW3] at b3 R
    have R := Lib.hid R
    replace D := Lib.hid (D.out.more b3)
    replace I := Lib.hid (I.out.more b3)
    clear ht3 ho3 hb3 hN3 b3
    go_wp2
    go_ret
    exact ⟨rfl, D.out.below⟩
  | true =>
    have HN := Lib.hid (And.intro (show newM m = m by unfold newM; rw [hr]; rfl) (show errN (newE m) = 0 by unfold newE; rw [hr]; rfl))
    obtain ⟨n, h1, h2, h3, h4, h5, h6⟩ := order_facts ys hr
    obtain ⟨ql, hql⟩ : ∃ ql, ys.take n = ql := ⟨_, rfl⟩
    have hqk : ql.length = n := by rw [← hql, List.length_take]; omega
    have hnk : n ≤ k := by rw [← HY.out.2]; exact h2
    have HF := Lib.hid (And.intro h3 (And.intro (h4.trans hql) (And.intro h1 (And.intro h5 (And.intro hqk (And.intro h6 (And.intro hr hql)))))))
    clear h1 h2 h3 h4 h5 h6 hr hqk
    go_wp2_with (go_at_call 11; refine (New_q HN.out.1 HN.out.2 D.out.sent).mono ?_)
    rintro e w3 ⟨va3, vc3, rfl, ⟨ht3, ho3⟩, hb3⟩
    have hN3 := Below.new w3 (.cells #[.int .i64 m, .slice va3 0 vc3] 24)
    have b3 := below_more hb3 hN3
    have R := Rv.new w3 m va3 0 vc3 [] ht3
    obtain ⟨W3, hW3⟩ : ∃ W3, w3.alloc (.cells #[.int .i64 m, .slice va3 0 vc3] 24) = W3 := ⟨_, rfl⟩
    rw [hW3] at b3 R
    have R := Lib.hid R
    replace D := Lib.hid (D.out.more b3)
    replace I := Lib.hid (I.out.more b3)
    clear ht3 ho3 hb3 hN3 b3
    have HIB := Lib.hid I.out.below
    have Rc0 := R.out.r.c0
    have Rc1 := R.out.r.c1
    go_wp2_with (go_at_call 24; refine (All_q (by omega) (by simp [takes]) a7 a8 HF.out.1 HF.out.2.1 HF.out.2.2.1 HF.out.2.2.2.1 HF.out.2.2.2.2.1 R.out.t I.out D.out.sent).mono ?_)
    rintro e w4 ⟨va4, vc4, rfl, ⟨ht, ho⟩, hb⟩
    clear Rc0 Rc1
    have hRQ : w3.heap.size ≠ w4.heap.size := by have := (R.out.more hb).r.lt; omega
    have HW0 := Lib.hid (Nat.le_trans D.out.below.size hb.size)
    have hle : W3.heap.size ≤ w4.heap.size := hb.size
    have hN := Below.new w4 (.cells #[.int .i64 m, .slice va4 n vc4] 24)
    have b := below_more hb hN
    have Q := Rv.new w4 m va4 n vc4 ql ht
    obtain ⟨W4, hW4⟩ : ∃ W4, w4.alloc (.cells #[.int .i64 m, .slice va4 n vc4] 24) = W4 := ⟨_, rfl⟩
    rw [hW4] at b Q
    replace D := Lib.hid (D.out.more b)
    replace I := Lib.hid (I.out.more b)
    replace R := Lib.hid (R.out.more b)
    have hwq : w.heap.size ≤ w4.heap.size := HW0.out
    have Q := Lib.hid Q
    clear ht ho hb hN b
    have HIQ := Lib.hid (show 0 < k → ∀ a, ia = some a → a.block ≠ w4.heap.size from fun hp a e q => by have := HIB.out hp a e; omega)
    have hd1 : decide ((n : Int) < 0) = false := decide_eq_false (by omega)
    have hd2 : decide ((n : Int) > (k : Int)) = false := decide_eq_false (by omega)
    have hd5 : decide (k < n) = false := decide_eq_false (by omega)
    have hd6 : decide ((k : Int) < (n : Int)) = false := decide_eq_false (by omega)
    have q0 := Q.out.r.c0
    have q1 := Q.out.r.c1
    go_wp2
    clear q0 q1
    go_loopw [11] (fun v wr => ∃ (k' : Nat) (qa : Option Addr) (qc : Nat), k' ≤ n ∧ v = .int .i64 k' ∧ Hid (OrdI s w wr m w3.heap.size w4.heap.size va3 ia qa vc3 k ic n k' qc ys)) (fun v _ => n - (intOf v).toNat)
    case atStart => exact ⟨0, va4, vc4, Nat.zero_le _, rfl, ⟨D.out, I.out, R.out, by have := Q.out; rw [← HF.out.2.2.2.2.2.2.2] at this; simpa using this⟩⟩
    case round =>
      obtain ⟨k', qa, qc, hk', rfl, HO⟩ := hrel
      clear Q D I R
      have D := Lib.hid HO.out.d
      have I := Lib.hid HO.out.i
      have R := Lib.hid HO.out.r
      have Q := Lib.hid HO.out.q
      clear HO
      by_cases hlt : k' < n
      · obtain ⟨x, hx⟩ : ∃ x, ys[k']? = some x := ⟨_, List.getElem?_eq_getElem (by rw [HY.out.2]; omega)⟩
        have hf := order_take HF.out.2.2.2.2.2.1 hlt hx
        obtain ⟨qs, hqs⟩ : ∃ qs, (ys.take n).drop k' = qs := ⟨_, rfl⟩
        obtain ⟨qt, hqt⟩ : ∃ qt, (ys.take n).drop (k' + 1) = qt := ⟨_, rfl⟩
        obtain ⟨kq, hkq⟩ : ∃ kq, n - k' = kq := ⟨_, rfl⟩
        obtain ⟨kt, hkt⟩ : ∃ kt, n - (k' + 1) = kt := ⟨_, rfl⟩
        have hqtl : qt.length = kt := by rw [← hqt, List.length_drop, List.length_take, HY.out.2]; omega
        rw [hqs, hkq] at Q
        rw [hqs, hqt] at hf
        have b1 : kq ≤ 1000000 := by omega
        have b2 : takes qs ≤ 1000000 := by
          have u1 := takes_append ((ys.take n).take k') ((ys.take n).drop k')
          rw [List.take_append_drop, hqs] at u1
          have u2 := takes_take_le ys n
          omega
        have HT := Lib.hid (And.intro hf (And.intro hqtl (And.intro hqt hkt)))
        obtain ⟨b, off, rfl, hbl, hcs⟩ := I.out.at (by omega)
        have HI0 := Lib.hid (hcs k' x hx)
        have hd3 : decide ((k' : Int) < (n : Int)) = true := decide_eq_true (by omega)
        have hd4 : decide (k' < n) = true := decide_eq_true hlt
        clear hcs hf hqtl hqt hx hqs
        have Qc0 := Q.out.r.c0
        have Qc1 := Q.out.r.c1
        go_wp2_with (go_at_call 16; refine (Take_q b1 b2 HT.out.1.1 HT.out.1.2.1 HT.out.1.2.2.1 HT.out.1.2.2.2 HT.out.2.1 Q.out.t D.out.sent).mono ?_)
        rintro e w5 ⟨va5, vc5, rfl, ⟨ht, ho⟩, hb⟩
        clear Qc0 Qc1
        have hQl := Q.out.r.lt
        have hN := Below.new w5 (.cells #[.int .i64 m, .slice va5 kt vc5] 24)
        have bb := below_more hb hN
        have X := Rv.new w5 m va5 kt vc5 qt ht
        obtain ⟨W5, hW5⟩ : ∃ W5, w5.alloc (.cells #[.int .i64 m, .slice va5 kt vc5] 24) = W5 := ⟨_, rfl⟩
        rw [hW5] at bb X
        have i0 := cell_later bb HI0.out
        replace D := Lib.hid (D.out.more bb)
        replace I := Lib.hid (I.out.more bb)
        replace R := Lib.hid (R.out.more bb)
        replace Q := Lib.hid (Q.out.more bb)
        have D' := D.out.set S0.out (b := w4.heap.size) hwq (.int .i64 m) (.slice va5 kt vc5)
        have I' := I.out.set2 (u := .int .i64 m) (v := .slice va5 kt vc5) HIQ.out
        have R' : Rv ((W5.setCell ⟨w4.heap.size, 0, none⟩ (.int .i64 m)).setCell ⟨w4.heap.size, 1, none⟩ (.slice va5 kt vc5)) w3.heap.size m va3 0 vc3 [] := ⟨R.out.r.other hRQ.symm, R.out.t.empty⟩
        have Q' := Rv.set (m := m) Q.out.r X.t (ho.apart hQl)
        have HX := Lib.hid (And.intro D' (And.intro I' (And.intro R' Q')))
        have x0 := X.r.c0
        have x1 := X.r.c1
        obtain ⟨c0, c1, f0, f1⟩ := Q.out.r
        clear D' I' R' Q' X ht ho hb hN bb hQl
        go_wp2
        go_roundw
        case rel => exact ⟨k' + 1, va5, vc5, by omega, by simp, ⟨HX.out.1, HX.out.2.1, HX.out.2.2.1, by rw [HT.out.2.2.1, HT.out.2.2.2]; exact HX.out.2.2.2⟩⟩
        case measure => simp [intOf]; omega
      · obtain rfl : k' = n := by omega
        have hqe : (ys.take k').drop k' = [] := List.drop_eq_nil_of_le (by rw [List.length_take]; omega)
        rw [hqe, Nat.sub_self] at Q
        have HE := Lib.hid (order_end HF.out.2.2.2.2.2.2.1)
        have HSm := Lib.hid (show sameR m [] m [] = true from sameR_iff.2 ⟨rfl, rfl⟩)
        have hd3 : decide ((k' : Int) < (k' : Int)) = false := decide_eq_false (by omega)
        clear hqe
        have Qc0 := Q.out.r.c0
        have Qc1 := Q.out.r.c1
        go_wp2_with (go_at_call 16; refine (Take_q (by omega) (by simp [takes]) HE.out.1 HE.out.2.1 HE.out.2.2.1 HE.out.2.2.2 rfl Q.out.t D.out.sent).mono ?_)
        rintro e w6 ⟨va6, vc6, rfl, ⟨ht6, ho6⟩, hb6⟩
        clear Qc0 Qc1
        have hN6 := Below.new w6 (.cells #[.int .i64 0, .slice va6 0 vc6] 24)
        have b6 := below_more hb6 hN6
        have X := Rv.new w6 0 va6 0 vc6 [] ht6
        obtain ⟨W6, hW6⟩ : ∃ W6, w6.alloc (.cells #[.int .i64 0, .slice va6 0 vc6] 24) = W6 := ⟨_, rfl⟩
        rw [hW6] at b6 X
        have X := Lib.hid X
        replace D := Lib.hid (D.out.more b6)
        replace I := Lib.hid (I.out.more b6)
        replace R := Lib.hid (R.out.more b6)
        replace Q := Lib.hid (Q.out.more b6)
        clear ht6 ho6 hb6 hN6 b6
        have Qc0 := Q.out.r.c0
        have Qc1 := Q.out.r.c1
        have Rc0 := R.out.r.c0
        have Rc1 := R.out.r.c1
        go_wp2_with (go_at_call 23; refine (Same_p (by omega) (by omega) HSm.out Q.out.t R.out.t).mono ?_)
        rintro e w7 ⟨rfl, hb⟩
        clear Qc0 Qc1 Rc0 Rc1
        replace D := Lib.hid (D.out.more hb)
        replace I := Lib.hid (I.out.more hb)
        replace R := Lib.hid (R.out.more hb)
        replace Q := Lib.hid (Q.out.more hb)
        replace X := Lib.hid (X.out.more hb)
        clear hb
        go_wp2
        go_ret
        exact ⟨rfl, D.out.below⟩

end Go.Proofs.YtbdhagilmdmpdaaDoor
