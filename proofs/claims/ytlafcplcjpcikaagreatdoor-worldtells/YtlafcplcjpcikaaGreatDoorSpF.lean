/- Merged texts: SwTurns, SwBack, SpRef, SpRef2, SpRefIs, SpRefR, SpDoc, SpDoc2, SpRefC, SpRefE -/
import Derived.Test.YtlafcplcjpcikaaGreatDoorSpE
import Derived.Test.YtlafcplcjpcikaaGreatDoorRgB
import Derived.Test.YtlafcplcjpcikaaGreatDoorSpA
import Derived.Test.YtlafcplcjpcikaaGreatDoorFlB
/- SpaceTurns: the walk. -/
namespace Go.Proofs.YtlafcplcjpcikaaGreatDoor
open Go.RowKit Go.Proofs.Fld Go.Proofs.Rng Go.Proofs.Spc Go.Shelf Go.Sort





end Go.Proofs.YtlafcplcjpcikaaGreatDoor

/- SpaceBack: the walk. -/
namespace Go.Proofs.Spc
open Go.Proofs.Rng







end Go.Proofs.Spc
namespace Go.Proofs.YtlafcplcjpcikaaGreatDoor
open Go.RowKit Go.Proofs.Fld Go.Proofs.Rng Go.Proofs.Spc Go.Shelf Go.Sort

/-- The cells of an object of the slice. -/
theorem SO.cell {W : World} {va : Option Addr} {k vc : Nat} {vs : List Ov} {l : List Ob} (h : SO W va k vc vs l) {i : Nat} {o : Ob} (ho : l[i]? = some o) : ∃ b off x, va = some ⟨b, off, none⟩ ∧ x.o = o ∧ Lv W x ∧ ObAt W b (off + i * 5) x := by
  rw [← h.e] at ho
  obtain ⟨x, hx, hxo⟩ := obs_at ho
  have hlt : i < vs.length := (List.getElem?_eq_some_iff.1 hx).1
  obtain ⟨b, off, e, _, hc⟩ := h.o.at (by have := h.o.hlen; omega)
  exact ⟨b, off, x, e, hxo, h.o.row hx, hc i x hx⟩

end Go.Proofs.YtlafcplcjpcikaaGreatDoor

/- The document's functions: One, Find, Same. -/
namespace Go.Proofs.Spc
open Go.Proofs.Rng
def NoN (l : List Ob) (n : It) (k : Nat) : Prop := ∀ j x, j < k → l[j]? = some x → decide (x.n = n) = false
theorem NoN.next {l : List Ob} {n : It} {k : Nat} {x : Ob} (h : NoN l n k) (hx : l[k]? = some x) (hs : decide (x.n = n) = false) : NoN l n (k + 1) := fun j y hj hy => by
  by_cases e : j = k
  · subst e
    rw [hx] at hy
    obtain rfl := Option.some.inj hy
    exact hs
  · exact h j y (by omega) hy
























end Go.Proofs.Spc
namespace Go.Proofs.YtlafcplcjpcikaaGreatDoor
open Go.RowKit Go.Proofs.Fld Go.Proofs.Rng Go.Proofs.Spc Go.Shelf Go.Sort

set_option maxRecDepth 100000 in
set_option maxHeartbeats 4000000 in
theorem refOne_any (x y : Ov) (hx : Bd x.o) (hy : Bd y.o) {b : Bool} (hb : sameO x.o y.o = b) (w : World) (h1 : Lv w x) (h2 : Lv w y) :
    Calls Tryz.prog 35 #[.agg #[.string (bs x.o.n), .int .i64 x.o.k, .string (bs x.o.d), .int .i64 x.o.m, .slice x.a x.o.l.length x.c], .agg #[.string (bs y.o.n), .int .i64 y.o.k, .string (bs y.o.d), .int .i64 y.o.m, .slice y.a y.o.l.length y.c]] w (BoolP b w) := by
  have hB1 := Below.new w (.cells #[.string (bs x.o.n), .int .i64 x.o.k, .string (bs x.o.d), .int .i64 x.o.m, .slice x.a x.o.l.length x.c] 51)
  have hN := Below.new (w.alloc (.cells #[.string (bs x.o.n), .int .i64 x.o.k, .string (bs x.o.d), .int .i64 x.o.m, .slice x.a x.o.l.length x.c] 51)) (.cells #[.string (bs y.o.n), .int .i64 y.o.k, .string (bs y.o.d), .int .i64 y.o.m, .slice y.a y.o.l.length y.c] 51)
  have hB2 := below_more hB1 hN
  obtain ⟨p0, p1, p2, p3, p4⟩ := ((ObAt.new w x 51).more hN).var
  have r2 := ObAt.new (w.alloc (.cells #[.string (bs x.o.n), .int .i64 x.o.k, .string (bs x.o.d), .int .i64 x.o.m, .slice x.a x.o.l.length x.c] 51)) y 51
  rw [World.size_alloc] at r2
  obtain ⟨q0, q1, q2, q3, q4⟩ := r2.var
  obtain ⟨W0, hW0⟩ : ∃ W0, (w.alloc (.cells #[.string (bs x.o.n), .int .i64 x.o.k, .string (bs x.o.d), .int .i64 x.o.m, .slice x.a x.o.l.length x.c] 51)).alloc (.cells #[.string (bs y.o.n), .int .i64 y.o.k, .string (bs y.o.d), .int .i64 y.o.m, .slice y.a y.o.l.length y.c] 51) = W0 := ⟨_, rfl⟩
  rw [hW0] at hB2 p0 p1 p2 p3 p4 q0 q1 q2 q3 q4
  have hn : ((bs x.o.n).toList == (bs y.o.n).toList) = decide (x.o.n = y.o.n) := str_same _ _
  have hd : ((bs x.o.d).toList == (bs y.o.d).toList) = decide (x.o.d = y.o.d) := str_same _ _
  have HE := Lib.hid (RSame_p (m1 := x.o.m) (m2 := y.o.m) hx.len hy.len rfl (h1.t.more hB2) (h2.t.more hB2))
  have HB := Lib.hid (And.intro hB2 hb)
  clear hB1 hB2 hN h1 h2 hb r2 hx hy
  have fin : ∀ {c : Bool}, sameO x.o y.o = c → b = c := fun h => by rw [← HB.out.2]; exact h
  by_cases e1 : x.o.n = y.o.n
  · rw [decide_eq_true e1] at hn
    by_cases e2 : x.o.k = y.o.k
    · have hk : (x.o.k == y.o.k) = true := by simp [e2]
      by_cases e3 : x.o.d = y.o.d
      · rw [decide_eq_true e3] at hd
        have HV := Lib.hid (fin (show sameO x.o y.o = sameR x.o.m x.o.l y.o.m y.o.l by unfold sameO; rw [decide_eq_true e1, decide_eq_true e2, decide_eq_true e3]; rfl))
        clear fin e1 e2 e3
        go_enter Tryz.func35, Tryz.ntmps35
        go_wp2_with (go_at_call 52; refine HE.out.mono ?_)
        rintro e w1 ⟨rfl, hb1⟩
        have HB1 := Lib.hid (below_more HB.out.1 hb1)
        clear hb1
        go_wp2
        go_ret
        exact ⟨by rw [HV.out]; rfl, HB1.out⟩
      · rw [decide_eq_false e3] at hd
        have HV := Lib.hid (fin (show sameO x.o y.o = false by unfold sameO; rw [decide_eq_false e3]; simp))
        clear fin e1 e2 e3
        go_enter Tryz.func35, Tryz.ntmps35
        go_wp2
        go_ret
        exact ⟨by rw [HV.out]; rfl, HB.out.1⟩
    · have hk : (x.o.k == y.o.k) = false := by simp [e2]
      have HV := Lib.hid (fin (show sameO x.o y.o = false by unfold sameO; rw [decide_eq_false e2]; simp))
      clear fin e1 e2
      go_enter Tryz.func35, Tryz.ntmps35
      go_wp2
      go_ret
      exact ⟨by rw [HV.out]; rfl, HB.out.1⟩
  · rw [decide_eq_false e1] at hn
    have HV := Lib.hid (fin (show sameO x.o y.o = false by unfold sameO; rw [decide_eq_false e1]; rfl))
    clear fin e1
    go_enter Tryz.func35, Tryz.ntmps35
    go_wp2
    go_ret
    exact ⟨by rw [HV.out]; rfl, HB.out.1⟩

end Go.Proofs.YtlafcplcjpcikaaGreatDoor

/- The document's Same; kept. -/
namespace Go.Proofs.YtlafcplcjpcikaaGreatDoor
open Go.RowKit Go.Proofs.Fld Go.Proofs.Rng Go.Proofs.Spc Go.Shelf Go.Sort

set_option maxRecDepth 100000 in
set_option maxHeartbeats 4000000 in
theorem refSame_any (a1 a2 : Option Addr) (len1 len2 c1 c2 : Nat) (l m : List Ov) (hr1 : len1 ≤ 1000000) (hr2 : len2 ≤ 1000000) (hbl : ∀ x ∈ l, Bd x.o) (hbm : ∀ x ∈ m, Bd x.o) (w : World) (h1 : Objs w a1 len1 c1 l) (h2 : Objs w a2 len2 c2 m) :
    Calls Tryz.prog 14 #[.slice a1 len1 c1, .slice a2 len2 c2] w (BoolP (sameL (obs l) (obs m)) w) := by
  have e1 := h1.hlen
  have e2 := h2.hlen
  by_cases hne : len1 = len2
  · subst hne
    have HH := Lib.hid (And.intro h1 (And.intro h2 (And.intro e1 e2)))
    have HD := Lib.hid (And.intro hbl hbm)
    clear h1 h2 e1 e2 hbl hbm
    go_enter Tryz.func14, Tryz.ntmps14
    go_wp2
    go_loopw [5] (fun v wr => ∃ k : Nat, k ≤ len1 ∧ v = .int .i64 k ∧ Hid (EqO l m k) ∧ Below w.heap.size w wr) (fun v _ => len1 - (intOf v).toNat)
    case atStart => exact ⟨0, Nat.zero_le _, rfl, (fun j x y hj => absurd hj (by omega)), Below.refl _ _⟩
    case round =>
      obtain ⟨k, hk, rfl, HI, hB⟩ := hrel
      by_cases hlt : k < len1
      · obtain ⟨x, hx⟩ : ∃ x, l[k]? = some x := ⟨_, List.getElem?_eq_getElem (by rw [HH.out.2.2.1]; exact hlt)⟩
        obtain ⟨y, hy⟩ : ∃ y, m[k]? = some y := ⟨_, List.getElem?_eq_getElem (by rw [HH.out.2.2.2]; exact hlt)⟩
        obtain ⟨b1, o1, rfl, hb1, hc1⟩ := HH.out.1.at (by omega)
        obtain ⟨b2, o2, rfl, hb2, hc2⟩ := HH.out.2.1.at (by omega)
        have hd1 : decide ((k : Int) < (len1 : Int)) = true := decide_eq_true (by omega)
        obtain ⟨q0, q1, q2, q3, q4⟩ := (hc1 k x hx).of_block (hB.block b1 hb1)
        obtain ⟨p0, p1, p2, p3, p4⟩ := (hc2 k y hy).of_block (hB.block b2 hb2)
        have HC := Lib.hid (refOne_any x y (HD.out.1 x (List.mem_of_getElem? hx)) (HD.out.2 y (List.mem_of_getElem? hy)) rfl wr.drew (((HH.out.1.row hx).more (hB.mono (Nat.le_refl _))).more (Below.refl _ wr).drew) (((HH.out.2.1.row hy).more (hB.mono (Nat.le_refl _))).more (Below.refl _ wr).drew))
        have HX := Lib.hid (And.intro hx hy)
        clear hx hy hc1 hc2
        have hD : Below wr.heap.size wr wr.drew := (Below.refl _ _).drew
        have dq0 := cell_later hD q0
        have dq1 := cell_later hD q1
        have dq2 := cell_later hD q2
        have dq3 := cell_later hD q3
        have dq4 := cell_later hD q4
        have dp0 := cell_later hD p0
        have dp1 := cell_later hD p1
        have dp2 := cell_later hD p2
        have dp3 := cell_later hD p3
        have dp4 := cell_later hD p4
        clear hD
        go_wp2
        go_region_held3 (fun w' => w'.cell? ⟨b1, o1 + k * 5, none⟩ = some (.string (bs x.o.n)) ∧ w'.cell? ⟨b1, o1 + k * 5 + 1, none⟩ = some (.int .i64 x.o.k) ∧ w'.cell? ⟨b1, o1 + k * 5 + 2, none⟩ = some (.string (bs x.o.d)) ∧ w'.cell? ⟨b1, o1 + k * 5 + 3, none⟩ = some (.int .i64 x.o.m) ∧ w'.cell? ⟨b1, o1 + k * 5 + 4, none⟩ = some (.slice x.a x.o.l.length x.c) ∧ w'.cell? ⟨b2, o2 + k * 5, none⟩ = some (.string (bs y.o.n)) ∧ w'.cell? ⟨b2, o2 + k * 5 + 1, none⟩ = some (.int .i64 y.o.k) ∧ w'.cell? ⟨b2, o2 + k * 5 + 2, none⟩ = some (.string (bs y.o.d)) ∧ w'.cell? ⟨b2, o2 + k * 5 + 3, none⟩ = some (.int .i64 y.o.m) ∧ w'.cell? ⟨b2, o2 + k * 5 + 4, none⟩ = some (.slice y.a y.o.l.length y.c))
          (first | (with_reducible exact ⟨dq0, dq1, dq2, dq3, dq4, dp0, dp1, dp2, dp3, dp4⟩) | (with_reducible exact ⟨eq0, eq1, eq2, eq3, eq4, ep0, ep1, ep2, ep3, ep4⟩))
          (first | (go_at_call 35; ((with_reducible refine HC.out.mono ?_); rintro e we ⟨rfl, hb3⟩; have eq0 := cell_later hb3 dq0; have eq1 := cell_later hb3 dq1; have eq2 := cell_later hb3 dq2; have eq3 := cell_later hb3 dq3; have eq4 := cell_later hb3 dq4; have ep0 := cell_later hb3 dp0; have ep1 := cell_later hb3 dp1; have ep2 := cell_later hb3 dp2; have ep3 := cell_later hb3 dp3; have ep4 := cell_later hb3 dp4)))
        have HB3 := Lib.hid ((hB.trans ((Below.refl _ wr).drew.mono hB.size)).trans (hb3.mono hB.size))
        clear hb3 dq0 dq1 dq2 dq3 dq4 dp0 dp1 dp2 dp3 dp4 eq0 eq1 eq2 eq3 eq4 ep0 ep1 ep2 ep3 ep4
        cases hs : sameO x.o y.o with
        | true =>
          have HN := Lib.hid (HI.out.next HX.out.1 HX.out.2 hs)
          clear hs
          go_wp2
          go_roundw
          case rel => exact ⟨k + 1, by omega, by simp, HN.out, HB3.out⟩
          case measure => simp [intOf]; omega
        | false =>
          have HN := Lib.hid (sameL_at (obs_get HX.out.1) (obs_get HX.out.2) hs)
          clear hs
          go_wp2
          go_ret
          exact ⟨by rw [HN.out]; rfl, HB3.out⟩
      · obtain rfl : k = len1 := by omega
        have hd1 : decide ((k : Int) < (k : Int)) = false := decide_eq_false (by omega)
        have HN := Lib.hid (HI.out.all HH.out.2.2.1 HH.out.2.2.2)
        go_wp2
        go_ret
        exact ⟨by rw [HN.out]; rfl, hB⟩
  · have HN := Lib.hid (sameL_len (l := obs l) (m := obs m) (by rw [obs_length, obs_length]; omega))
    have hd : (((len1 : Nat) : Int) != ((len2 : Nat) : Int)) = true := by simp; omega
    clear h1 h2 e1 e2 hbl hbm
    go_enter Tryz.func14, Tryz.ntmps14
    go_wp2
    go_ret
    exact ⟨by rw [HN.out]; rfl, Below.refl _ _⟩
theorem RSame_w {w : World} {ao bo : Option Addr} {k0 cap k1 cap1 : Nat} {zs ys : List Ov} {l m : List Ob} {b : Bool} (hb : sameL l m = b) (hL : SO w ao k0 cap zs l) (hM : SO w bo k1 cap1 ys m) : Calls Tryz.prog 14 #[.slice ao k0 cap, .slice bo k1 cap1] w (BoolP b w) := by
  obtain rfl := hL.e
  obtain rfl := hM.e
  exact hb ▸ refSame_any _ _ _ _ _ _ _ _ hL.le2 hM.le2 hL.bd hM.bd w hL.o hM.o
end Go.Proofs.YtlafcplcjpcikaaGreatDoor

/- The document's is: an object? -/
namespace Go.Proofs.YtlafcplcjpcikaaGreatDoor
open Go.RowKit Go.Proofs.Fld Go.Proofs.Rng Go.Proofs.Spc Go.Shelf Go.Sort

theorem isB_1 {o : Ob} (h : o.k = 1) : isB o = (nameB o.n && (decide (o.d.length ≤ 1000) && decide (o.m = 0) && o.l.isEmpty)) := by unfold isB wholeB; rw [if_pos h]
theorem isB_2 {o : Ob} (h : o.k = 2) : isB o = (nameB o.n && (o.d.isEmpty && rightR o.m o.l)) := by unfold isB wholeB; rw [if_neg (by omega), decide_eq_true h, Bool.true_and]
theorem isB_3 {o : Ob} (h1 : ¬ o.k = 1) (h2 : ¬ o.k = 2) : isB o = false := by unfold isB wholeB; rw [if_neg h1, decide_eq_false h2]; simp
set_option maxRecDepth 100000 in
set_option maxHeartbeats 4000000 in
theorem refIs_any (x : Ov) (hb : Bd x.o) {b : Bool} (hv : isB x.o = b) (w : World) (hx : Lv w x) : Calls Tryz.prog 51 #[.agg #[.string (bs x.o.n), .int .i64 x.o.k, .string (bs x.o.d), .int .i64 x.o.m, .slice x.a x.o.l.length x.c]] w (BoolP b w) := by
  have hB := Below.new w (.cells #[.string (bs x.o.n), .int .i64 x.o.k, .string (bs x.o.d), .int .i64 x.o.m, .slice x.a x.o.l.length x.c] 51)
  have hO := ObAt.new w x 51
  have HL := Lib.hid (And.intro hB (And.intro hO (And.intro (hx.more hB) (And.intro hb.len hb.t))))
  have HC := Lib.hid (refName_any x.o.n (Nat.le_trans hb.n (by omega)) (w.alloc (.cells #[.string (bs x.o.n), .int .i64 x.o.k, .string (bs x.o.d), .int .i64 x.o.m, .slice x.a x.o.l.length x.c] 51)))
  have hz := bs_size x.o.d
  have hq : ((bs x.o.d).toList == []) = x.o.d.isEmpty := by rw [bs_toList]; cases x.o.d <;> rfl
  clear hb hx hB hO
  by_cases h1 : x.o.k = 1
  · have q1 : (x.o.k == 1) = true := by rw [beq_iff_eq]; exact h1
    rw [isB_1 h1] at hv
    clear h1 hq
    cases hn : nameB x.o.n with
    | false =>
      rw [hn, Bool.false_and] at hv
      rw [hn] at HC
      clear hn
      obtain rfl := hv
      go_enter Tryz.func51, Tryz.ntmps51
      go_wp2_with (go_at_call 70; refine HC.out.mono ?_)
      rintro e w1 ⟨rfl, hb1⟩
      obtain ⟨y0, y1, y2, y3, y4⟩ := (HL.out.2.1.more hb1).var
      have HB := Lib.hid (below_more HL.out.1 hb1)
      clear hb1
      go_wp2
      go_ret
      exact ⟨rfl, HB.out⟩
    | true =>
      rw [hn, Bool.true_and] at hv
      by_cases hd : x.o.d.length ≤ 1000
      · have g1 : decide ((x.o.d.length : Int) ≤ 1000) = true := decide_eq_true (by omega)
        rw [decide_eq_true hd, Bool.true_and] at hv
        by_cases hm : x.o.m = 0
        · have g2 : (x.o.m == 0) = true := by simp [hm]
          rw [decide_eq_true hm, Bool.true_and] at hv
          cases hl : x.o.l.isEmpty with
          | true =>
            have g3 : ((x.o.l.length : Int) == 0) = true := by rw [List.isEmpty_iff.1 hl]; rfl
            rw [hl] at hv
            clear hl hm hd
            rw [hn] at HC
            clear hn
            obtain rfl := hv
            go_enter Tryz.func51, Tryz.ntmps51
            go_wp2_with (go_at_call 70; refine HC.out.mono ?_)
            rintro e w1 ⟨rfl, hb1⟩
            obtain ⟨y0, y1, y2, y3, y4⟩ := (HL.out.2.1.more hb1).var
            have HB := Lib.hid (below_more HL.out.1 hb1)
            clear hb1
            go_wp2
            go_ret
            exact ⟨rfl, HB.out⟩
          | false =>
            have g3 : ((x.o.l.length : Int) == 0) = false := by
              cases e : x.o.l with
              | nil => rw [e] at hl; cases hl
              | cons a r => rw [beq_eq_false_iff_ne]; simp only [List.length_cons]; omega
            rw [hl] at hv
            clear hl hm hd
            rw [hn] at HC
            clear hn
            obtain rfl := hv
            go_enter Tryz.func51, Tryz.ntmps51
            go_wp2_with (go_at_call 70; refine HC.out.mono ?_)
            rintro e w1 ⟨rfl, hb1⟩
            obtain ⟨y0, y1, y2, y3, y4⟩ := (HL.out.2.1.more hb1).var
            have HB := Lib.hid (below_more HL.out.1 hb1)
            clear hb1
            go_wp2
            go_ret
            exact ⟨rfl, HB.out⟩
        · have g2 : (x.o.m == 0) = false := by simp [hm]
          rw [decide_eq_false hm, Bool.false_and] at hv
          clear hm hd
          rw [hn] at HC
          clear hn
          obtain rfl := hv
          go_enter Tryz.func51, Tryz.ntmps51
          go_wp2_with (go_at_call 70; refine HC.out.mono ?_)
          rintro e w1 ⟨rfl, hb1⟩
          obtain ⟨y0, y1, y2, y3, y4⟩ := (HL.out.2.1.more hb1).var
          have HB := Lib.hid (below_more HL.out.1 hb1)
          clear hb1
          go_wp2
          go_ret
          exact ⟨rfl, HB.out⟩
      · have g1 : decide ((x.o.d.length : Int) ≤ 1000) = false := decide_eq_false (by omega)
        rw [decide_eq_false hd, Bool.false_and, Bool.false_and] at hv
        clear hd
        rw [hn] at HC
        clear hn
        obtain rfl := hv
        go_enter Tryz.func51, Tryz.ntmps51
        go_wp2_with (go_at_call 70; refine HC.out.mono ?_)
        rintro e w1 ⟨rfl, hb1⟩
        obtain ⟨y0, y1, y2, y3, y4⟩ := (HL.out.2.1.more hb1).var
        have HB := Lib.hid (below_more HL.out.1 hb1)
        clear hb1
        go_wp2
        go_ret
        exact ⟨rfl, HB.out⟩
  · have q1 : (x.o.k == 1) = false := by rw [beq_eq_false_iff_ne]; exact h1
    by_cases h2 : x.o.k = 2
    · have q2 : (x.o.k == 2) = true := by rw [beq_iff_eq]; exact h2
      rw [isB_2 h2] at hv
      clear h1 h2
      cases hn : nameB x.o.n with
      | false =>
        rw [hn, Bool.false_and] at hv
        rw [hn] at HC
        clear hn
        obtain rfl := hv
        go_enter Tryz.func51, Tryz.ntmps51
        go_wp2_with (go_at_call 70; refine HC.out.mono ?_)
        rintro e w1 ⟨rfl, hb1⟩
        obtain ⟨y0, y1, y2, y3, y4⟩ := (HL.out.2.1.more hb1).var
        have HB := Lib.hid (below_more HL.out.1 hb1)
        clear hb1
        go_wp2
        go_ret
        exact ⟨rfl, HB.out⟩
      | true =>
        rw [hn, Bool.true_and] at hv
        cases hd : x.o.d.isEmpty with
        | false =>
          rw [hd] at hq
          rw [hd, Bool.false_and] at hv
          clear hd
          rw [hn] at HC
          clear hn
          obtain rfl := hv
          go_enter Tryz.func51, Tryz.ntmps51
          go_wp2_with (go_at_call 70; refine HC.out.mono ?_)
          rintro e w1 ⟨rfl, hb1⟩
          obtain ⟨y0, y1, y2, y3, y4⟩ := (HL.out.2.1.more hb1).var
          have HB := Lib.hid (below_more HL.out.1 hb1)
          clear hb1
          go_wp2
          go_ret
          exact ⟨rfl, HB.out⟩
        | true =>
          rw [hd] at hq
          rw [hd, Bool.true_and] at hv
          clear hd
          rw [hn] at HC
          clear hn
          go_enter Tryz.func51, Tryz.ntmps51
          go_wp2_with (go_at_call 70; refine HC.out.mono ?_)
          rintro e w1 ⟨rfl, hb1⟩
          obtain ⟨y0, y1, y2, y3, y4⟩ := (HL.out.2.1.more hb1).var
          have HB := Lib.hid (below_more HL.out.1 hb1)
          have HR := Lib.hid (RRight_p HL.out.2.2.2.1 (by have := HL.out.2.2.2.2; omega) hv (HL.out.2.2.1.more hb1).t)
          clear hb1 hv
          go_wp2_with (go_at_call 71; refine HR.out.mono ?_)
          rintro e w2 ⟨rfl, hb2⟩
          replace HB := Lib.hid (below_more HB.out hb2)
          clear hb2
          go_wp2
          go_ret
          exact ⟨rfl, HB.out⟩
    · have q2 : (x.o.k == 2) = false := by rw [beq_eq_false_iff_ne]; exact h2
      rw [isB_3 h1 h2] at hv
      clear h1 h2
      obtain rfl := hv
      go_enter Tryz.func51, Tryz.ntmps51
      go_wp2
      go_ret
      exact ⟨rfl, HL.out.1⟩

end Go.Proofs.YtlafcplcjpcikaaGreatDoor

/- The document's Right. -/
namespace Go.Proofs.Spc
open Go.Proofs.Rng
theorem nextB_first {x : Ob} : nextB [] x = isB x := by
  unfold nextB isB
  cases h : nameB x.n
  · rfl
  · rw [name_pos h]; rfl
theorem nextB_later {a : It} {x : Ob} : nextB a x = (isB x && ltB a x.n) := by
  unfold nextB isB
  cases nameB x.n <;> cases ltB a x.n <;> cases wholeB x <;> rfl
theorem good_next {l : List Ob} {k : Nat} {x : Ob} (hx : l[k]? = some x) (h : goodF [] (l.take k) = true) (hn : nextB (lastN [] (l.take k)) x = true) : goodF [] (l.take (k + 1)) = true := by
  rw [List.take_add_one, hx]
  show goodF [] (l.take k ++ [x]) = true
  rw [goodF_snoc, h, hn]
  rfl
theorem right_stop {l : List Ob} {k : Nat} {x : Ob} (hx : l[k]? = some x) (hn : nextB (lastN [] (l.take k)) x = false) : rightB l = false := by
  have hk := (List.getElem?_eq_some_iff.1 hx).1
  have e : l = l.take k ++ x :: l.drop (k + 1) := by
    have := List.take_append_drop k l
    rw [List.drop_eq_getElem_cons hk, (List.getElem?_eq_some_iff.1 hx).2] at this
    exact this.symm
  unfold rightB
  rw [e, goodF_stop hn, Bool.and_false]
theorem last_take {l : List Ob} {j : Nat} {p : Ob} (hp : l[j]? = some p) : lastN [] (l.take (j + 1)) = p.n := by
  rw [List.take_add_one, hp]
  exact lastN_snoc _ _ _
end Go.Proofs.Spc
namespace Go.Proofs.YtlafcplcjpcikaaGreatDoor
open Go.RowKit Go.Proofs.Fld Go.Proofs.Rng Go.Proofs.Spc Go.Shelf Go.Sort

set_option maxRecDepth 100000 in
set_option maxHeartbeats 4000000 in
theorem refRight_any (ao : Option Addr) (len cap : Nat) (zs : List Ov) {b : Bool} (hb : rightB (obs zs) = b) (hr : len ≤ 1000000) (hbd : ∀ x ∈ zs, Bd x.o) (w : World) (hL : Objs w ao len cap zs) :
    Calls Tryz.prog 33 #[.slice ao len cap] w (BoolP b w) := by
  have e1 := hL.hlen
  have HH := Lib.hid (And.intro hL (And.intro e1 (And.intro hb hbd)))
  clear hL e1 hb hbd
  go_enter Tryz.func33, Tryz.ntmps33
  go_wp2
  go_loopw [3] (fun v wr => ∃ k : Nat, k ≤ len ∧ v = .int .i64 k ∧ Hid (goodF [] ((obs zs).take k) = true) ∧ Below w.heap.size w wr) (fun v _ => len - (intOf v).toNat)
  case atStart => exact ⟨0, Nat.zero_le _, rfl, rfl, Below.refl _ _⟩
  case round =>
    obtain ⟨k, hk, rfl, HI, hB⟩ := hrel
    by_cases hlt : k < len
    · obtain ⟨x, hx⟩ : ∃ x, zs[k]? = some x := ⟨_, List.getElem?_eq_getElem (by rw [HH.out.2.1]; exact hlt)⟩
      obtain ⟨b1, o1, rfl, hb1, hc1⟩ := HH.out.1.at (by omega)
      have hd1 : decide ((k : Int) < (len : Int)) = true := decide_eq_true (by omega)
      have hxa := (hc1 k x hx).of_block (hB.block b1 hb1)
      have HXA := Lib.hid hxa
      obtain ⟨q0, q1, q2, q3, q4⟩ := hxa
      have HX := Lib.hid (obs_get hx)
      have HLV := Lib.hid ((HH.out.1.row hx).more (hB.mono (Nat.le_refl _)))
      have HBD := Lib.hid (HH.out.2.2.2 x (List.mem_of_getElem? hx))
      cases his : isB x.o with
      | false =>
        have HC := Lib.hid (refIs_any x HBD.out his wr.drew (HLV.out.more (Below.refl _ wr).drew))
        have HN := Lib.hid (right_stop HX.out (by rw [nextB_later, his]; rfl))
        clear hx hc1 his
        have hD : Below wr.heap.size wr wr.drew := (Below.refl _ _).drew
        have dq0 := cell_later hD q0
        have dq1 := cell_later hD q1
        have dq2 := cell_later hD q2
        have dq3 := cell_later hD q3
        have dq4 := cell_later hD q4
        clear hD
        go_wp2
        refine wp_region_held_drew (S := (fun w' => w'.cell? ⟨b1, o1 + k * 5, none⟩ = some (.string (bs x.o.n)) ∧ w'.cell? ⟨b1, o1 + k * 5 + 1, none⟩ = some (.int .i64 x.o.k) ∧ w'.cell? ⟨b1, o1 + k * 5 + 2, none⟩ = some (.string (bs x.o.d)) ∧ w'.cell? ⟨b1, o1 + k * 5 + 3, none⟩ = some (.int .i64 x.o.m) ∧ w'.cell? ⟨b1, o1 + k * 5 + 4, none⟩ = some (.slice x.a x.o.l.length x.c))) (by kernel_rfl) (⟨dq0, dq1, dq2, dq3, dq4⟩) (fun hS0 => ?_)
        refine wpAnyH_take (i := 0) (oi := { dst := some 10, op := Go.Op.move (Go.Operand.tmp 0), type := 30, pos := "ref.go:50", after := #[], guard := none }) (v := ?_) rfl (by kernel_rfl) (by kernel_rfl) (by kernel_rfl) (fun _ _ _ h => h) (Or.inl ⟨by rfl, ?_⟩) hS0 ?_; rotate_left; (· (intro wq hSw; obtain ⟨y0, y1, y2, y3, y4⟩ := hSw; go_simp; try with_reducible rfl))
        try simp only [Act.put, List.setIfInBounds_toArray, List.set_cons_zero, List.set_cons_succ]
        refine wpAnyH_take (i := 1) (oi := { dst := some 11, op := Go.Op.move (Go.Operand.tmp 3), type := 3, pos := "ref.go:50", after := #[], guard := none }) (v := ?_) rfl (by kernel_rfl) (by kernel_rfl) (by kernel_rfl) (fun _ _ _ h => h) (Or.inl ⟨by rfl, ?_⟩) hS0 ?_; rotate_left; (· (intro wq hSw; obtain ⟨y0, y1, y2, y3, y4⟩ := hSw; go_simp; try with_reducible rfl))
        try simp only [Act.put, List.setIfInBounds_toArray, List.set_cons_zero, List.set_cons_succ]
        refine wpAnyH_take (i := 2) (oi := { dst := some 12, op := Go.Op.indexAddr 30 (Go.Operand.tmp 10) (Go.Operand.tmp 11), type := 0, pos := "ref.go:50", after := #[{ on := 0, ground := Go.Ground.data }, { on := 1, ground := Go.Ground.data }], guard := none }) (v := ?_) rfl (by kernel_rfl) (by kernel_rfl) (by kernel_rfl) (fun _ _ _ h => h) (Or.inl ⟨by rfl, ?_⟩) hS0 ?_; rotate_left; (· (intro wq hSw; obtain ⟨y0, y1, y2, y3, y4⟩ := hSw; go_simp; try with_reducible rfl))
        try simp only [Act.put, List.setIfInBounds_toArray, List.set_cons_zero, List.set_cons_succ]
        refine wpAnyH_take (i := 3) (oi := { dst := some 13, op := Go.Op.load 51 (Go.Operand.tmp 12), type := 51, pos := "ref.go:50", after := #[{ on := 2, ground := Go.Ground.data }], guard := none }) (v := ?_) rfl (by kernel_rfl) (by kernel_rfl) (by kernel_rfl) (fun _ _ _ h => h) (Or.inl ⟨by rfl, ?_⟩) hS0 ?_; rotate_left; (· (intro wq hSw; obtain ⟨y0, y1, y2, y3, y4⟩ := hSw; go_simp; try with_reducible rfl))
        try simp only [Act.put, List.setIfInBounds_toArray, List.set_cons_zero, List.set_cons_succ]
        refine wpAnyH_ready (rs := [4]) (by kernel_rfl) (by simp) ?_
        refine AllReadyH.cons (o := { dst := some 14, op := Go.Op.call { callee := Go.Callee.value (Go.Operand.func 51), args := #[Go.Operand.tmp 13], argTypes := #[51] }, type := 4, pos := "ref.go:50", after := #[{ on := 3, ground := Go.Ground.data }], guard := none }) rfl (fun K hK => ?_) AllReadyH.nil
        go_simp
        refine (HC.out).mono ?_
        rintro e we ⟨rfl, hb3⟩
        have HB3 := Lib.hid ((hB.trans ((Below.refl _ wr).drew.mono hB.size)).trans (hb3.mono hB.size))
        refine hK.out _ _ (⟨cell_later hb3 hS0.1, cell_later hb3 hS0.2.1, cell_later hb3 hS0.2.2.1, cell_later hb3 hS0.2.2.2.1, cell_later hb3 hS0.2.2.2.2⟩) (fun hS1 => ?_)
        clear hK K hS0 hb3
        try simp only [Act.put, List.setIfInBounds_toArray, List.set_cons_zero, List.set_cons_succ]
        refine wpAnyH_take (i := 5) (oi := { dst := some 15, op := Go.Op.unOp Go.UnOp.not 4 (Go.Operand.tmp 14), type := 4, pos := "ref.go:50", after := #[{ on := 4, ground := Go.Ground.data }], guard := none }) (v := ?_) rfl (by kernel_rfl) (by kernel_rfl) (by kernel_rfl) (fun _ _ _ h => h) (Or.inl ⟨by rfl, ?_⟩) hS1 ?_; rotate_left; (· (intro wq hSw; obtain ⟨y0, y1, y2, y3, y4⟩ := hSw; go_simp; try with_reducible rfl))
        try simp only [Act.put, List.setIfInBounds_toArray, List.set_cons_zero, List.set_cons_succ]
        refine wpAnyH_take (i := 6) (oi := { dst := some 16, op := Go.Op.move (Go.Operand.tmp 15), type := 4, pos := "ref.go:50", after := #[{ on := 5, ground := Go.Ground.data }, { on := 4, ground := Go.Ground.chain }], guard := none }) (v := ?_) rfl (by kernel_rfl) (by kernel_rfl) (by kernel_rfl) (fun _ _ _ h => h) (Or.inl ⟨by rfl, ?_⟩) hS1 ?_; rotate_left; (· (intro wq hSw; obtain ⟨y0, y1, y2, y3, y4⟩ := hSw; go_simp; try with_reducible rfl))
        try simp only [Act.put, List.setIfInBounds_toArray, List.set_cons_zero, List.set_cons_succ]
        refine wpAnyH_take (i := 7) (oi := { dst := some 17, op := Go.Op.move (Go.Operand.tmp 3), type := 3, pos := "ref.go:50", after := #[{ on := 6, ground := Go.Ground.guard }], guard := some (6, false) }) (v := undef) rfl (by kernel_rfl) (by kernel_rfl) (by kernel_rfl) (fun _ _ _ h => h) (Or.inr ⟨by rfl, rfl⟩) hS1 ?_
        try simp only [Act.put, List.setIfInBounds_toArray, List.set_cons_zero, List.set_cons_succ]
        refine wpAnyH_take (i := 8) (oi := { dst := some 18, op := Go.Op.binOp Go.BinOp.gtr 3 (Go.Operand.tmp 17) (Go.Operand.const (Go.Value.int Go.IntKind.i64 0)) 3, type := 4, pos := "ref.go:50", after := #[{ on := 7, ground := Go.Ground.data }, { on := 6, ground := Go.Ground.guard }], guard := some (6, false) }) (v := undef) rfl (by kernel_rfl) (by kernel_rfl) (by kernel_rfl) (fun _ _ _ h => h) (Or.inr ⟨by rfl, rfl⟩) hS1 ?_
        try simp only [Act.put, List.setIfInBounds_toArray, List.set_cons_zero, List.set_cons_succ]
        refine wpAnyH_take (i := 9) (oi := { dst := some 19, op := Go.Op.move (Go.Operand.tmp 18), type := 4, pos := "ref.go:50", after := #[{ on := 8, ground := Go.Ground.data }, { on := 6, ground := Go.Ground.chain }, { on := 6, ground := Go.Ground.guard }], guard := some (6, false) }) (v := undef) rfl (by kernel_rfl) (by kernel_rfl) (by kernel_rfl) (fun _ _ _ h => h) (Or.inr ⟨by rfl, rfl⟩) hS1 ?_
        try simp only [Act.put, List.setIfInBounds_toArray, List.set_cons_zero, List.set_cons_succ]
        refine wpAnyH_take (i := 10) (oi := { dst := some 20, op := Go.Op.move (Go.Operand.tmp 0), type := 30, pos := "ref.go:50", after := #[{ on := 9, ground := Go.Ground.guard }], guard := some (9, true) }) (v := undef) rfl (by kernel_rfl) (by kernel_rfl) (by kernel_rfl) (fun _ _ _ h => h) (Or.inr ⟨by rfl, rfl⟩) hS1 ?_
        try simp only [Act.put, List.setIfInBounds_toArray, List.set_cons_zero, List.set_cons_succ]
        refine wpAnyH_take (i := 11) (oi := { dst := some 21, op := Go.Op.move (Go.Operand.tmp 3), type := 3, pos := "ref.go:50", after := #[{ on := 9, ground := Go.Ground.guard }], guard := some (9, true) }) (v := undef) rfl (by kernel_rfl) (by kernel_rfl) (by kernel_rfl) (fun _ _ _ h => h) (Or.inr ⟨by rfl, rfl⟩) hS1 ?_
        try simp only [Act.put, List.setIfInBounds_toArray, List.set_cons_zero, List.set_cons_succ]
        refine wpAnyH_take (i := 12) (oi := { dst := some 22, op := Go.Op.binOp Go.BinOp.sub 3 (Go.Operand.tmp 21) (Go.Operand.const (Go.Value.int Go.IntKind.i64 1)) 3, type := 3, pos := "ref.go:50", after := #[{ on := 11, ground := Go.Ground.data }, { on := 9, ground := Go.Ground.guard }], guard := some (9, true) }) (v := undef) rfl (by kernel_rfl) (by kernel_rfl) (by kernel_rfl) (fun _ _ _ h => h) (Or.inr ⟨by rfl, rfl⟩) hS1 ?_
        try simp only [Act.put, List.setIfInBounds_toArray, List.set_cons_zero, List.set_cons_succ]
        refine wpAnyH_take (i := 13) (oi := { dst := some 23, op := Go.Op.indexAddr 30 (Go.Operand.tmp 20) (Go.Operand.tmp 22), type := 0, pos := "ref.go:50", after := #[{ on := 10, ground := Go.Ground.data }, { on := 12, ground := Go.Ground.data }, { on := 9, ground := Go.Ground.guard }], guard := some (9, true) }) (v := undef) rfl (by kernel_rfl) (by kernel_rfl) (by kernel_rfl) (fun _ _ _ h => h) (Or.inr ⟨by rfl, rfl⟩) hS1 ?_
        try simp only [Act.put, List.setIfInBounds_toArray, List.set_cons_zero, List.set_cons_succ]
        refine wpAnyH_take (i := 14) (oi := { dst := some 24, op := Go.Op.fieldAddr 51 (Go.Operand.tmp 23) 0, type := 0, pos := "ref.go:50", after := #[{ on := 13, ground := Go.Ground.data }, { on := 9, ground := Go.Ground.guard }], guard := some (9, true) }) (v := undef) rfl (by kernel_rfl) (by kernel_rfl) (by kernel_rfl) (fun _ _ _ h => h) (Or.inr ⟨by rfl, rfl⟩) hS1 ?_
        try simp only [Act.put, List.setIfInBounds_toArray, List.set_cons_zero, List.set_cons_succ]
        refine wpAnyH_take (i := 15) (oi := { dst := some 25, op := Go.Op.load 9 (Go.Operand.tmp 24), type := 9, pos := "ref.go:50", after := #[{ on := 14, ground := Go.Ground.data }, { on := 9, ground := Go.Ground.guard }], guard := some (9, true) }) (v := undef) rfl (by kernel_rfl) (by kernel_rfl) (by kernel_rfl) (fun _ _ _ h => h) (Or.inr ⟨by rfl, rfl⟩) hS1 ?_
        try simp only [Act.put, List.setIfInBounds_toArray, List.set_cons_zero, List.set_cons_succ]
        refine wpAnyH_take (i := 16) (oi := { dst := some 26, op := Go.Op.move (Go.Operand.tmp 0), type := 30, pos := "ref.go:50", after := #[{ on := 9, ground := Go.Ground.guard }], guard := some (9, true) }) (v := undef) rfl (by kernel_rfl) (by kernel_rfl) (by kernel_rfl) (fun _ _ _ h => h) (Or.inr ⟨by rfl, rfl⟩) hS1 ?_
        try simp only [Act.put, List.setIfInBounds_toArray, List.set_cons_zero, List.set_cons_succ]
        refine wpAnyH_take (i := 17) (oi := { dst := some 27, op := Go.Op.move (Go.Operand.tmp 3), type := 3, pos := "ref.go:50", after := #[{ on := 9, ground := Go.Ground.guard }], guard := some (9, true) }) (v := undef) rfl (by kernel_rfl) (by kernel_rfl) (by kernel_rfl) (fun _ _ _ h => h) (Or.inr ⟨by rfl, rfl⟩) hS1 ?_
        try simp only [Act.put, List.setIfInBounds_toArray, List.set_cons_zero, List.set_cons_succ]
        refine wpAnyH_take (i := 18) (oi := { dst := some 28, op := Go.Op.indexAddr 30 (Go.Operand.tmp 26) (Go.Operand.tmp 27), type := 0, pos := "ref.go:50", after := #[{ on := 16, ground := Go.Ground.data }, { on := 17, ground := Go.Ground.data }, { on := 9, ground := Go.Ground.guard }], guard := some (9, true) }) (v := undef) rfl (by kernel_rfl) (by kernel_rfl) (by kernel_rfl) (fun _ _ _ h => h) (Or.inr ⟨by rfl, rfl⟩) hS1 ?_
        try simp only [Act.put, List.setIfInBounds_toArray, List.set_cons_zero, List.set_cons_succ]
        refine wpAnyH_take (i := 19) (oi := { dst := some 29, op := Go.Op.fieldAddr 51 (Go.Operand.tmp 28) 0, type := 0, pos := "ref.go:50", after := #[{ on := 18, ground := Go.Ground.data }, { on := 9, ground := Go.Ground.guard }], guard := some (9, true) }) (v := undef) rfl (by kernel_rfl) (by kernel_rfl) (by kernel_rfl) (fun _ _ _ h => h) (Or.inr ⟨by rfl, rfl⟩) hS1 ?_
        try simp only [Act.put, List.setIfInBounds_toArray, List.set_cons_zero, List.set_cons_succ]
        refine wpAnyH_take (i := 20) (oi := { dst := some 30, op := Go.Op.load 9 (Go.Operand.tmp 29), type := 9, pos := "ref.go:50", after := #[{ on := 19, ground := Go.Ground.data }, { on := 9, ground := Go.Ground.guard }], guard := some (9, true) }) (v := undef) rfl (by kernel_rfl) (by kernel_rfl) (by kernel_rfl) (fun _ _ _ h => h) (Or.inr ⟨by rfl, rfl⟩) hS1 ?_
        try simp only [Act.put, List.setIfInBounds_toArray, List.set_cons_zero, List.set_cons_succ]
        refine wpAnyH_take (i := 21) (oi := { dst := some 31, op := Go.Op.binOp Go.BinOp.geq 9 (Go.Operand.tmp 25) (Go.Operand.tmp 30) 9, type := 4, pos := "ref.go:50", after := #[{ on := 15, ground := Go.Ground.data }, { on := 20, ground := Go.Ground.data }, { on := 9, ground := Go.Ground.guard }], guard := some (9, true) }) (v := undef) rfl (by kernel_rfl) (by kernel_rfl) (by kernel_rfl) (fun _ _ _ h => h) (Or.inr ⟨by rfl, rfl⟩) hS1 ?_
        try simp only [Act.put, List.setIfInBounds_toArray, List.set_cons_zero, List.set_cons_succ]
        refine wpAnyH_take (i := 22) (oi := { dst := some 32, op := Go.Op.pick (Go.Operand.tmp 19) (Go.Operand.tmp 31) (Go.Operand.const (Go.Value.bool false)), type := 4, pos := "ref.go:50", after := #[{ on := 9, ground := Go.Ground.data }, { on := 21, ground := Go.Ground.data }, { on := 6, ground := Go.Ground.guard }], guard := some (6, false) }) (v := undef) rfl (by kernel_rfl) (by kernel_rfl) (by kernel_rfl) (fun _ _ _ h => h) (Or.inr ⟨by rfl, rfl⟩) hS1 ?_
        try simp only [Act.put, List.setIfInBounds_toArray, List.set_cons_zero, List.set_cons_succ]
        refine wpAnyH_take (i := 23) (oi := { dst := some 33, op := Go.Op.pick (Go.Operand.tmp 16) (Go.Operand.const (Go.Value.bool true)) (Go.Operand.tmp 32), type := 4, pos := "ref.go:50", after := #[{ on := 6, ground := Go.Ground.data }, { on := 22, ground := Go.Ground.data }], guard := none }) (v := ?_) rfl (by kernel_rfl) (by kernel_rfl) (by kernel_rfl) (fun _ _ _ h => h) (Or.inl ⟨by rfl, ?_⟩) hS1 ?_; rotate_left; (· (intro wq hSw; obtain ⟨y0, y1, y2, y3, y4⟩ := hSw; go_simp; try with_reducible rfl))
        try simp only [Act.put, List.setIfInBounds_toArray, List.set_cons_zero, List.set_cons_succ]
        refine wpAnyH_done (by kernel_rfl) ?_ _
        go_wp2
        go_ret
        exact ⟨by rw [← HH.out.2.2.1, HN.out]; rfl, HB3.out⟩
      | true =>
        have HC := Lib.hid (refIs_any x HBD.out his wr.drew (HLV.out.more (Below.refl _ wr).drew))
        by_cases hk0 : k = 0
        · subst hk0
          have HN := Lib.hid (good_next HX.out HI.out (by show nextB [] x.o = true; rw [nextB_first]; exact his))
          clear hx hc1 his
          simp only [Nat.zero_mul, Nat.add_zero] at q0 q1 q2 q3 q4
          have hD : Below wr.heap.size wr wr.drew := (Below.refl _ _).drew
          have dq0 := cell_later hD q0
          have dq1 := cell_later hD q1
          have dq2 := cell_later hD q2
          have dq3 := cell_later hD q3
          have dq4 := cell_later hD q4
          clear hD
          go_wp2
          refine wp_region_held_drew (S := (fun w' => w'.cell? ⟨b1, o1, none⟩ = some (.string (bs x.o.n)) ∧ w'.cell? ⟨b1, o1 + 1, none⟩ = some (.int .i64 x.o.k) ∧ w'.cell? ⟨b1, o1 + 2, none⟩ = some (.string (bs x.o.d)) ∧ w'.cell? ⟨b1, o1 + 3, none⟩ = some (.int .i64 x.o.m) ∧ w'.cell? ⟨b1, o1 + 4, none⟩ = some (.slice x.a x.o.l.length x.c))) (by kernel_rfl) (⟨dq0, dq1, dq2, dq3, dq4⟩) (fun hS0 => ?_)
          refine wpAnyH_take (i := 0) (oi := { dst := some 10, op := Go.Op.move (Go.Operand.tmp 0), type := 30, pos := "ref.go:50", after := #[], guard := none }) (v := ?_) rfl (by kernel_rfl) (by kernel_rfl) (by kernel_rfl) (fun _ _ _ h => h) (Or.inl ⟨by rfl, ?_⟩) hS0 ?_; rotate_left; (· (intro wq hSw; obtain ⟨y0, y1, y2, y3, y4⟩ := hSw; go_simp; try with_reducible rfl))
          try simp only [Act.put, List.setIfInBounds_toArray, List.set_cons_zero, List.set_cons_succ]
          refine wpAnyH_take (i := 1) (oi := { dst := some 11, op := Go.Op.move (Go.Operand.tmp 3), type := 3, pos := "ref.go:50", after := #[], guard := none }) (v := ?_) rfl (by kernel_rfl) (by kernel_rfl) (by kernel_rfl) (fun _ _ _ h => h) (Or.inl ⟨by rfl, ?_⟩) hS0 ?_; rotate_left; (· (intro wq hSw; obtain ⟨y0, y1, y2, y3, y4⟩ := hSw; go_simp; try with_reducible rfl))
          try simp only [Act.put, List.setIfInBounds_toArray, List.set_cons_zero, List.set_cons_succ]
          refine wpAnyH_take (i := 2) (oi := { dst := some 12, op := Go.Op.indexAddr 30 (Go.Operand.tmp 10) (Go.Operand.tmp 11), type := 0, pos := "ref.go:50", after := #[{ on := 0, ground := Go.Ground.data }, { on := 1, ground := Go.Ground.data }], guard := none }) (v := ?_) rfl (by kernel_rfl) (by kernel_rfl) (by kernel_rfl) (fun _ _ _ h => h) (Or.inl ⟨by rfl, ?_⟩) hS0 ?_; rotate_left; (· (intro wq hSw; obtain ⟨y0, y1, y2, y3, y4⟩ := hSw; go_simp; try with_reducible rfl))
          try simp only [Act.put, List.setIfInBounds_toArray, List.set_cons_zero, List.set_cons_succ]
          refine wpAnyH_take (i := 3) (oi := { dst := some 13, op := Go.Op.load 51 (Go.Operand.tmp 12), type := 51, pos := "ref.go:50", after := #[{ on := 2, ground := Go.Ground.data }], guard := none }) (v := ?_) rfl (by kernel_rfl) (by kernel_rfl) (by kernel_rfl) (fun _ _ _ h => h) (Or.inl ⟨by rfl, ?_⟩) hS0 ?_; rotate_left; (· (intro wq hSw; obtain ⟨y0, y1, y2, y3, y4⟩ := hSw; go_simp; try with_reducible rfl))
          try simp only [Act.put, List.setIfInBounds_toArray, List.set_cons_zero, List.set_cons_succ]
          refine wpAnyH_ready (rs := [4]) (by kernel_rfl) (by simp) ?_
          refine AllReadyH.cons (o := { dst := some 14, op := Go.Op.call { callee := Go.Callee.value (Go.Operand.func 51), args := #[Go.Operand.tmp 13], argTypes := #[51] }, type := 4, pos := "ref.go:50", after := #[{ on := 3, ground := Go.Ground.data }], guard := none }) rfl (fun K hK => ?_) AllReadyH.nil
          go_simp
          refine (HC.out).mono ?_
          rintro e we ⟨rfl, hb3⟩
          have HB3 := Lib.hid ((hB.trans ((Below.refl _ wr).drew.mono hB.size)).trans (hb3.mono hB.size))
          refine hK.out _ _ (⟨cell_later hb3 hS0.1, cell_later hb3 hS0.2.1, cell_later hb3 hS0.2.2.1, cell_later hb3 hS0.2.2.2.1, cell_later hb3 hS0.2.2.2.2⟩) (fun hS1 => ?_)
          clear hK K hS0 hb3
          try simp only [Act.put, List.setIfInBounds_toArray, List.set_cons_zero, List.set_cons_succ]
          refine wpAnyH_take (i := 5) (oi := { dst := some 15, op := Go.Op.unOp Go.UnOp.not 4 (Go.Operand.tmp 14), type := 4, pos := "ref.go:50", after := #[{ on := 4, ground := Go.Ground.data }], guard := none }) (v := ?_) rfl (by kernel_rfl) (by kernel_rfl) (by kernel_rfl) (fun _ _ _ h => h) (Or.inl ⟨by rfl, ?_⟩) hS1 ?_; rotate_left; (· (intro wq hSw; obtain ⟨y0, y1, y2, y3, y4⟩ := hSw; go_simp; try with_reducible rfl))
          try simp only [Act.put, List.setIfInBounds_toArray, List.set_cons_zero, List.set_cons_succ]
          refine wpAnyH_take (i := 6) (oi := { dst := some 16, op := Go.Op.move (Go.Operand.tmp 15), type := 4, pos := "ref.go:50", after := #[{ on := 5, ground := Go.Ground.data }, { on := 4, ground := Go.Ground.chain }], guard := none }) (v := ?_) rfl (by kernel_rfl) (by kernel_rfl) (by kernel_rfl) (fun _ _ _ h => h) (Or.inl ⟨by rfl, ?_⟩) hS1 ?_; rotate_left; (· (intro wq hSw; obtain ⟨y0, y1, y2, y3, y4⟩ := hSw; go_simp; try with_reducible rfl))
          try simp only [Act.put, List.setIfInBounds_toArray, List.set_cons_zero, List.set_cons_succ]
          refine wpAnyH_take (i := 7) (oi := { dst := some 17, op := Go.Op.move (Go.Operand.tmp 3), type := 3, pos := "ref.go:50", after := #[{ on := 6, ground := Go.Ground.guard }], guard := some (6, false) }) (v := ?_) rfl (by kernel_rfl) (by kernel_rfl) (by kernel_rfl) (fun _ _ _ h => h) (Or.inl ⟨by rfl, ?_⟩) hS1 ?_; rotate_left; (· (intro wq hSw; obtain ⟨y0, y1, y2, y3, y4⟩ := hSw; go_simp; try with_reducible rfl))
          try simp only [Act.put, List.setIfInBounds_toArray, List.set_cons_zero, List.set_cons_succ]
          refine wpAnyH_take (i := 8) (oi := { dst := some 18, op := Go.Op.binOp Go.BinOp.gtr 3 (Go.Operand.tmp 17) (Go.Operand.const (Go.Value.int Go.IntKind.i64 0)) 3, type := 4, pos := "ref.go:50", after := #[{ on := 7, ground := Go.Ground.data }, { on := 6, ground := Go.Ground.guard }], guard := some (6, false) }) (v := ?_) rfl (by kernel_rfl) (by kernel_rfl) (by kernel_rfl) (fun _ _ _ h => h) (Or.inl ⟨by rfl, ?_⟩) hS1 ?_; rotate_left; (· (intro wq hSw; obtain ⟨y0, y1, y2, y3, y4⟩ := hSw; go_simp; try with_reducible rfl))
          try simp only [Act.put, List.setIfInBounds_toArray, List.set_cons_zero, List.set_cons_succ]
          refine wpAnyH_take (i := 9) (oi := { dst := some 19, op := Go.Op.move (Go.Operand.tmp 18), type := 4, pos := "ref.go:50", after := #[{ on := 8, ground := Go.Ground.data }, { on := 6, ground := Go.Ground.chain }, { on := 6, ground := Go.Ground.guard }], guard := some (6, false) }) (v := ?_) rfl (by kernel_rfl) (by kernel_rfl) (by kernel_rfl) (fun _ _ _ h => h) (Or.inl ⟨by rfl, ?_⟩) hS1 ?_; rotate_left; (· (intro wq hSw; obtain ⟨y0, y1, y2, y3, y4⟩ := hSw; go_simp; try with_reducible rfl))
          try simp only [Act.put, List.setIfInBounds_toArray, List.set_cons_zero, List.set_cons_succ]
          refine wpAnyH_take (i := 10) (oi := { dst := some 20, op := Go.Op.move (Go.Operand.tmp 0), type := 30, pos := "ref.go:50", after := #[{ on := 9, ground := Go.Ground.guard }], guard := some (9, true) }) (v := undef) rfl (by kernel_rfl) (by kernel_rfl) (by kernel_rfl) (fun _ _ _ h => h) (Or.inr ⟨by rfl, rfl⟩) hS1 ?_
          try simp only [Act.put, List.setIfInBounds_toArray, List.set_cons_zero, List.set_cons_succ]
          refine wpAnyH_take (i := 11) (oi := { dst := some 21, op := Go.Op.move (Go.Operand.tmp 3), type := 3, pos := "ref.go:50", after := #[{ on := 9, ground := Go.Ground.guard }], guard := some (9, true) }) (v := undef) rfl (by kernel_rfl) (by kernel_rfl) (by kernel_rfl) (fun _ _ _ h => h) (Or.inr ⟨by rfl, rfl⟩) hS1 ?_
          try simp only [Act.put, List.setIfInBounds_toArray, List.set_cons_zero, List.set_cons_succ]
          refine wpAnyH_take (i := 12) (oi := { dst := some 22, op := Go.Op.binOp Go.BinOp.sub 3 (Go.Operand.tmp 21) (Go.Operand.const (Go.Value.int Go.IntKind.i64 1)) 3, type := 3, pos := "ref.go:50", after := #[{ on := 11, ground := Go.Ground.data }, { on := 9, ground := Go.Ground.guard }], guard := some (9, true) }) (v := undef) rfl (by kernel_rfl) (by kernel_rfl) (by kernel_rfl) (fun _ _ _ h => h) (Or.inr ⟨by rfl, rfl⟩) hS1 ?_
          try simp only [Act.put, List.setIfInBounds_toArray, List.set_cons_zero, List.set_cons_succ]
          refine wpAnyH_take (i := 13) (oi := { dst := some 23, op := Go.Op.indexAddr 30 (Go.Operand.tmp 20) (Go.Operand.tmp 22), type := 0, pos := "ref.go:50", after := #[{ on := 10, ground := Go.Ground.data }, { on := 12, ground := Go.Ground.data }, { on := 9, ground := Go.Ground.guard }], guard := some (9, true) }) (v := undef) rfl (by kernel_rfl) (by kernel_rfl) (by kernel_rfl) (fun _ _ _ h => h) (Or.inr ⟨by rfl, rfl⟩) hS1 ?_
          try simp only [Act.put, List.setIfInBounds_toArray, List.set_cons_zero, List.set_cons_succ]
          refine wpAnyH_take (i := 14) (oi := { dst := some 24, op := Go.Op.fieldAddr 51 (Go.Operand.tmp 23) 0, type := 0, pos := "ref.go:50", after := #[{ on := 13, ground := Go.Ground.data }, { on := 9, ground := Go.Ground.guard }], guard := some (9, true) }) (v := undef) rfl (by kernel_rfl) (by kernel_rfl) (by kernel_rfl) (fun _ _ _ h => h) (Or.inr ⟨by rfl, rfl⟩) hS1 ?_
          try simp only [Act.put, List.setIfInBounds_toArray, List.set_cons_zero, List.set_cons_succ]
          refine wpAnyH_take (i := 15) (oi := { dst := some 25, op := Go.Op.load 9 (Go.Operand.tmp 24), type := 9, pos := "ref.go:50", after := #[{ on := 14, ground := Go.Ground.data }, { on := 9, ground := Go.Ground.guard }], guard := some (9, true) }) (v := undef) rfl (by kernel_rfl) (by kernel_rfl) (by kernel_rfl) (fun _ _ _ h => h) (Or.inr ⟨by rfl, rfl⟩) hS1 ?_
          try simp only [Act.put, List.setIfInBounds_toArray, List.set_cons_zero, List.set_cons_succ]
          refine wpAnyH_take (i := 16) (oi := { dst := some 26, op := Go.Op.move (Go.Operand.tmp 0), type := 30, pos := "ref.go:50", after := #[{ on := 9, ground := Go.Ground.guard }], guard := some (9, true) }) (v := undef) rfl (by kernel_rfl) (by kernel_rfl) (by kernel_rfl) (fun _ _ _ h => h) (Or.inr ⟨by rfl, rfl⟩) hS1 ?_
          try simp only [Act.put, List.setIfInBounds_toArray, List.set_cons_zero, List.set_cons_succ]
          refine wpAnyH_take (i := 17) (oi := { dst := some 27, op := Go.Op.move (Go.Operand.tmp 3), type := 3, pos := "ref.go:50", after := #[{ on := 9, ground := Go.Ground.guard }], guard := some (9, true) }) (v := undef) rfl (by kernel_rfl) (by kernel_rfl) (by kernel_rfl) (fun _ _ _ h => h) (Or.inr ⟨by rfl, rfl⟩) hS1 ?_
          try simp only [Act.put, List.setIfInBounds_toArray, List.set_cons_zero, List.set_cons_succ]
          refine wpAnyH_take (i := 18) (oi := { dst := some 28, op := Go.Op.indexAddr 30 (Go.Operand.tmp 26) (Go.Operand.tmp 27), type := 0, pos := "ref.go:50", after := #[{ on := 16, ground := Go.Ground.data }, { on := 17, ground := Go.Ground.data }, { on := 9, ground := Go.Ground.guard }], guard := some (9, true) }) (v := undef) rfl (by kernel_rfl) (by kernel_rfl) (by kernel_rfl) (fun _ _ _ h => h) (Or.inr ⟨by rfl, rfl⟩) hS1 ?_
          try simp only [Act.put, List.setIfInBounds_toArray, List.set_cons_zero, List.set_cons_succ]
          refine wpAnyH_take (i := 19) (oi := { dst := some 29, op := Go.Op.fieldAddr 51 (Go.Operand.tmp 28) 0, type := 0, pos := "ref.go:50", after := #[{ on := 18, ground := Go.Ground.data }, { on := 9, ground := Go.Ground.guard }], guard := some (9, true) }) (v := undef) rfl (by kernel_rfl) (by kernel_rfl) (by kernel_rfl) (fun _ _ _ h => h) (Or.inr ⟨by rfl, rfl⟩) hS1 ?_
          try simp only [Act.put, List.setIfInBounds_toArray, List.set_cons_zero, List.set_cons_succ]
          refine wpAnyH_take (i := 20) (oi := { dst := some 30, op := Go.Op.load 9 (Go.Operand.tmp 29), type := 9, pos := "ref.go:50", after := #[{ on := 19, ground := Go.Ground.data }, { on := 9, ground := Go.Ground.guard }], guard := some (9, true) }) (v := undef) rfl (by kernel_rfl) (by kernel_rfl) (by kernel_rfl) (fun _ _ _ h => h) (Or.inr ⟨by rfl, rfl⟩) hS1 ?_
          try simp only [Act.put, List.setIfInBounds_toArray, List.set_cons_zero, List.set_cons_succ]
          refine wpAnyH_take (i := 21) (oi := { dst := some 31, op := Go.Op.binOp Go.BinOp.geq 9 (Go.Operand.tmp 25) (Go.Operand.tmp 30) 9, type := 4, pos := "ref.go:50", after := #[{ on := 15, ground := Go.Ground.data }, { on := 20, ground := Go.Ground.data }, { on := 9, ground := Go.Ground.guard }], guard := some (9, true) }) (v := undef) rfl (by kernel_rfl) (by kernel_rfl) (by kernel_rfl) (fun _ _ _ h => h) (Or.inr ⟨by rfl, rfl⟩) hS1 ?_
          try simp only [Act.put, List.setIfInBounds_toArray, List.set_cons_zero, List.set_cons_succ]
          refine wpAnyH_take (i := 22) (oi := { dst := some 32, op := Go.Op.pick (Go.Operand.tmp 19) (Go.Operand.tmp 31) (Go.Operand.const (Go.Value.bool false)), type := 4, pos := "ref.go:50", after := #[{ on := 9, ground := Go.Ground.data }, { on := 21, ground := Go.Ground.data }, { on := 6, ground := Go.Ground.guard }], guard := some (6, false) }) (v := ?_) rfl (by kernel_rfl) (by kernel_rfl) (by kernel_rfl) (fun _ _ _ h => h) (Or.inl ⟨by rfl, ?_⟩) hS1 ?_; rotate_left; (· (intro wq hSw; obtain ⟨y0, y1, y2, y3, y4⟩ := hSw; go_simp; try with_reducible rfl))
          try simp only [Act.put, List.setIfInBounds_toArray, List.set_cons_zero, List.set_cons_succ]
          refine wpAnyH_take (i := 23) (oi := { dst := some 33, op := Go.Op.pick (Go.Operand.tmp 16) (Go.Operand.const (Go.Value.bool true)) (Go.Operand.tmp 32), type := 4, pos := "ref.go:50", after := #[{ on := 6, ground := Go.Ground.data }, { on := 22, ground := Go.Ground.data }], guard := none }) (v := ?_) rfl (by kernel_rfl) (by kernel_rfl) (by kernel_rfl) (fun _ _ _ h => h) (Or.inl ⟨by rfl, ?_⟩) hS1 ?_; rotate_left; (· (intro wq hSw; obtain ⟨y0, y1, y2, y3, y4⟩ := hSw; go_simp; try with_reducible rfl))
          try simp only [Act.put, List.setIfInBounds_toArray, List.set_cons_zero, List.set_cons_succ]
          refine wpAnyH_done (by kernel_rfl) ?_ _
          go_wp2
          go_roundw
          case rel => exact ⟨1, by omega, by simp, HN.out, HB3.out⟩
          case measure => simp [intOf]; omega
        · obtain ⟨j, hj⟩ : ∃ j, j + 1 = k := ⟨k - 1, by omega⟩
          have hjl : j < len := by omega
          obtain ⟨p, hp⟩ : ∃ p, zs[j]? = some p := ⟨_, List.getElem?_eq_getElem (by rw [HH.out.2.1]; omega)⟩
          have HPA := Lib.hid ((hc1 j p hp).of_block (hB.block b1 hb1))
          have hwj : IntKind.i64.wrap ((k : Int) - 1) = (j : Int) := by rw [IntKind.wrap_i64]; omega
          have hpos : decide ((k : Int) > 0) = true := decide_eq_true (by omega)
          have HLT := Lib.hid (show lastN [] ((obs zs).take k) = p.o.n from hj ▸ last_take (obs_get hp))
          have i1 : (0 : Int) ≤ (k : Int) := by omega
          have i2 : (k : Int) < (len : Int) := by omega
          have i3 : (0 : Int) ≤ (j : Int) := by omega
          have i4 : (j : Int) < (len : Int) := by omega
          have i5 : 0 < k := by omega
          have hpos2 : decide (0 < k) = true := decide_eq_true i5
          have hpos3 : decide ((0 : Int) < (k : Int)) = true := decide_eq_true (by omega)
          clear hj hk0
          cases hl : ltB p.o.n x.o.n with
          | true =>
            have hbl : Op.bytesLess (bs p.o.n).toList (bs x.o.n).toList = true := by rw [bs_toList, bs_toList]; exact hl
            have HN := Lib.hid (good_next HX.out HI.out (by rw [HLT.out, nextB_later, his, hl]; rfl))
            clear hx hp hc1 his hl
            obtain ⟨s0, _, _, _, _⟩ := HPA.out
            have hD : Below wr.heap.size wr wr.drew := (Below.refl _ _).drew
            have dq0 := cell_later hD q0
            have dq1 := cell_later hD q1
            have dq2 := cell_later hD q2
            have dq3 := cell_later hD q3
            have dq4 := cell_later hD q4
            have ds0 := cell_later hD s0
            clear hD
            go_wp2
            go_region_held3 (fun w' => w'.cell? ⟨b1, o1 + k * 5, none⟩ = some (.string (bs x.o.n)) ∧ w'.cell? ⟨b1, o1 + k * 5 + 1, none⟩ = some (.int .i64 x.o.k) ∧ w'.cell? ⟨b1, o1 + k * 5 + 2, none⟩ = some (.string (bs x.o.d)) ∧ w'.cell? ⟨b1, o1 + k * 5 + 3, none⟩ = some (.int .i64 x.o.m) ∧ w'.cell? ⟨b1, o1 + k * 5 + 4, none⟩ = some (.slice x.a x.o.l.length x.c) ∧ w'.cell? ⟨b1, o1 + j * 5, none⟩ = some (.string (bs p.o.n)))
              (first | (with_reducible exact ⟨dq0, dq1, dq2, dq3, dq4, ds0⟩) | (with_reducible exact ⟨eq0, eq1, eq2, eq3, eq4, es0⟩))
              (first | (go_at_call 51; ((with_reducible refine HC.out.mono ?_); rintro e we ⟨rfl, hb3⟩; have eq0 := cell_later hb3 dq0; have eq1 := cell_later hb3 dq1; have eq2 := cell_later hb3 dq2; have eq3 := cell_later hb3 dq3; have eq4 := cell_later hb3 dq4; have es0 := cell_later hb3 ds0)))
            have HB3 := Lib.hid ((hB.trans ((Below.refl _ wr).drew.mono hB.size)).trans (hb3.mono hB.size))
            clear hb3 dq0 dq1 dq2 dq3 dq4 ds0 eq0 eq1 eq2 eq3 eq4 es0
            go_wp2
            go_roundw
            case rel => exact ⟨k + 1, by omega, by simp, HN.out, HB3.out⟩
            case measure => simp [intOf]; omega
          | false =>
            have hbl : Op.bytesLess (bs p.o.n).toList (bs x.o.n).toList = false := by rw [bs_toList, bs_toList]; exact hl
            have HN := Lib.hid (right_stop HX.out (by rw [HLT.out, nextB_later, his, hl]; rfl))
            clear hx hp hc1 his hl
            obtain ⟨s0, _, _, _, _⟩ := HPA.out
            have hD : Below wr.heap.size wr wr.drew := (Below.refl _ _).drew
            have dq0 := cell_later hD q0
            have dq1 := cell_later hD q1
            have dq2 := cell_later hD q2
            have dq3 := cell_later hD q3
            have dq4 := cell_later hD q4
            have ds0 := cell_later hD s0
            clear hD
            go_wp2
            go_region_held3 (fun w' => w'.cell? ⟨b1, o1 + k * 5, none⟩ = some (.string (bs x.o.n)) ∧ w'.cell? ⟨b1, o1 + k * 5 + 1, none⟩ = some (.int .i64 x.o.k) ∧ w'.cell? ⟨b1, o1 + k * 5 + 2, none⟩ = some (.string (bs x.o.d)) ∧ w'.cell? ⟨b1, o1 + k * 5 + 3, none⟩ = some (.int .i64 x.o.m) ∧ w'.cell? ⟨b1, o1 + k * 5 + 4, none⟩ = some (.slice x.a x.o.l.length x.c) ∧ w'.cell? ⟨b1, o1 + j * 5, none⟩ = some (.string (bs p.o.n)))
              (first | (with_reducible exact ⟨dq0, dq1, dq2, dq3, dq4, ds0⟩) | (with_reducible exact ⟨eq0, eq1, eq2, eq3, eq4, es0⟩))
              (first | (go_at_call 51; ((with_reducible refine HC.out.mono ?_); rintro e we ⟨rfl, hb3⟩; have eq0 := cell_later hb3 dq0; have eq1 := cell_later hb3 dq1; have eq2 := cell_later hb3 dq2; have eq3 := cell_later hb3 dq3; have eq4 := cell_later hb3 dq4; have es0 := cell_later hb3 ds0)))
            have HB3 := Lib.hid ((hB.trans ((Below.refl _ wr).drew.mono hB.size)).trans (hb3.mono hB.size))
            clear hb3 dq0 dq1 dq2 dq3 dq4 ds0 eq0 eq1 eq2 eq3 eq4 es0
            go_wp2
            go_ret
            exact ⟨by rw [← HH.out.2.2.1, HN.out]; rfl, HB3.out⟩
    · obtain rfl : k = len := by omega
      have hd1 : decide ((k : Int) < (k : Int)) = false := decide_eq_false (by omega)
      have HN := Lib.hid (show rightB (obs zs) = decide ((k : Int) ≤ 20) by
        have := HI.out
        rw [List.take_of_length_le (by rw [obs_length, HH.out.2.1]; exact Nat.le_refl _)] at this
        unfold rightB
        rw [this, Bool.and_true, obs_length, HH.out.2.1]
        by_cases h : k ≤ 20
        · rw [decide_eq_true h, decide_eq_true (by omega)]
        · rw [decide_eq_false h, decide_eq_false (by omega)])
      go_wp2
      go_ret
      exact ⟨by rw [← HH.out.2.2.1, HN.out]; rfl, hB⟩

end Go.Proofs.YtlafcplcjpcikaaGreatDoor

/- What the document's functions come to: plain facts. -/
namespace Go.Proofs.Spc
open Go.Proofs.Rng

























































































































end Go.Proofs.Spc

/- What the document's Make and Drop come to: plain facts. -/
namespace Go.Proofs.Spc
open Go.Proofs.Rng














theorem bef_at {l : List Ob} {n : It} (h : befN l n < l.length) : ∃ x, l[befN l n]? = some x ∧ ltB x.n n = false := by
  obtain ⟨x, h1, h2⟩ := aheadN_get h
  exact ⟨x, h1, by simpa using h2⟩
theorem bef_le (l : List Ob) (n : It) : befN l n ≤ l.length := aheadN_le _ _























end Go.Proofs.Spc

/- The document's Right, Cost, find: what a law uses. -/
namespace Go.Proofs.Spc
open Go.Proofs.Rng
theorem costS_next {l : List Ob} {k : Nat} {x : Ob} (hx : l[k]? = some x) : costS (l.take (k + 1)) = costS (l.take k) + costO x := by
  rw [List.take_add_one, hx]
  show costS (l.take k ++ [x]) = _
  rw [costS_append]
  simp [costS]
end Go.Proofs.Spc
namespace Go.Proofs.YtlafcplcjpcikaaGreatDoor
open Go.RowKit Go.Proofs.Fld Go.Proofs.Rng Go.Proofs.Spc Go.Shelf Go.Sort

section
variable {w : World} {ao : Option Addr} {k0 cap : Nat} {zs : List Ov} {l : List Ob} {c : Int}
theorem RRight_w {b : Bool} (hb : rightB l = b) (hL : SO w ao k0 cap zs l) : Calls Tryz.prog 33 #[.slice ao k0 cap] w (BoolP b w) := by
  obtain rfl := hL.e
  exact refRight_any ao k0 cap zs hb hL.le2 hL.bd w hL.o

set_option maxRecDepth 100000 in
set_option maxHeartbeats 4000000 in
theorem RCost_w (hc : costR l = c) (hL : SO w ao k0 cap zs l) : Calls Tryz.prog 29 #[.slice ao k0 cap] w (IntP c w) := by
  have hk := hL.le
  have L := Lib.hid hL
  have hke := hL.len
  clear hL
  cases hr : rightB l with
  | false =>
    obtain rfl : 0 = c := by rw [← hc]; unfold costR; rw [hr]; rfl
    have HR := Lib.hid hr
    clear hr hc hke
    go_enter Tryz.func29, Tryz.ntmps29
    go_wp2
    go_loopw [3, 4] (fun v u wr => v = .int .i64 0 ∧ u = .int .i64 0 ∧ Below w.heap.size w wr) (fun _ _ _ => 0)
    case atStart => exact ⟨rfl, rfl, Below.refl _ _⟩
    case round =>
      obtain ⟨rfl, rfl, hB⟩ := hrel
      have B := Lib.hid hB
      clear hB
      by_cases hlt : 0 < k0
      · have hd1 : decide ((0 : Int) < (k0 : Int)) = true := decide_eq_true (by omega)
        go_wp2_with (go_at_call 33; refine (RRight_w HR.out (L.out.more (B.out.mono (Nat.le_refl _)))).mono ?_)
        rintro e w1 ⟨rfl, hb⟩
        replace B := Lib.hid (below_more B.out hb)
        clear hb
        go_wp2
        go_ret
        exact ⟨rfl, B.out⟩
      · have hd1 : decide ((0 : Int) < (k0 : Int)) = false := decide_eq_false (by omega)
        go_wp2
        go_ret
        exact ⟨rfl, B.out⟩
  | true =>
    rw [right_cost hr] at hc
    have HR := Lib.hid (And.intro hr (And.intro hc hke))
    have HF := Lib.hid (fun x hx => fair_isB (goodF_mem (rightB_iff.1 hr).2 x hx).1)
    clear hr hc hke
    go_enter Tryz.func29, Tryz.ntmps29
    go_wp2
    go_loopw [3, 4] (fun v u wr => ∃ k : Nat, k ≤ k0 ∧ u = .int .i64 k ∧ v = .int .i64 (costS (l.take k)) ∧ Below w.heap.size w wr) (fun _ u _ => k0 - (intOf u).toNat)
    case atStart => exact ⟨0, Nat.zero_le _, rfl, rfl, Below.refl _ _⟩
    case round =>
      obtain ⟨k, hkk, rfl, rfl, hB⟩ := hrel
      have B := Lib.hid hB
      clear hB
      by_cases hlt : k < k0
      · have hd1 : decide ((k : Int) < (k0 : Int)) = true := decide_eq_true (by omega)
        obtain ⟨y, hy⟩ : ∃ y, l[k]? = some y := ⟨_, List.getElem?_eq_getElem (by rw [HR.out.2.2]; exact hlt)⟩
        obtain ⟨s, hs⟩ : ∃ s, costS (l.take k) = s := ⟨_, rfl⟩
        have hb1 := costS_fair (l := l.take k) (fun x hx => HF.out x (List.mem_of_mem_take hx))
        have hlen : (l.take k).length = k := by rw [List.length_take, HR.out.2.2]; omega
        rw [hlen, hs] at hb1
        obtain ⟨hy1, hy2, hy3, hy4⟩ := HF.out y (List.mem_of_getElem? hy)
        have hnx := costS_next hy
        rw [hs] at hnx
        obtain ⟨t1, ht1⟩ : ∃ t1 : Int, s + 10 = t1 := ⟨_, rfl⟩
        obtain ⟨t2, ht2⟩ : ∃ t2 : Int, t1 + (y.n.length : Int) = t2 := ⟨_, rfl⟩
        obtain ⟨t3, ht3⟩ : ∃ t3 : Int, t2 + (y.d.length : Int) = t3 := ⟨_, rfl⟩
        obtain ⟨t4, ht4⟩ : ∃ t4 : Int, t3 + y.m = t4 := ⟨_, rfl⟩
        have hw1 : IntKind.i64.wrap (s + 10) = t1 := by rw [IntKind.wrap_i64]; omega
        have hw2 : IntKind.i64.wrap (t1 + (y.n.length : Int)) = t2 := by rw [IntKind.wrap_i64]; omega
        have hw3 : IntKind.i64.wrap (t2 + (y.d.length : Int)) = t3 := by rw [IntKind.wrap_i64]; omega
        have hw4 : IntKind.i64.wrap (t3 + y.m) = t4 := by rw [IntKind.wrap_i64]; omega
        have HN := Lib.hid (show costS (l.take (k + 1)) = t4 by rw [hnx]; unfold costO; omega)
        have HW := Lib.hid (And.intro hw1 (And.intro hw2 (And.intro hw3 hw4)))
        have HY := Lib.hid hy
        have HS := Lib.hid hs
        clear hw1 hw2 hw3 hw4 hnx hy1 hy2 hy3 hy4 hb1 hlen ht1 ht2 ht3 ht4 hy
        rw [hs]
        clear hs
        go_wp2_with (go_at_call 33; refine (RRight_w HR.out.1 (L.out.more (B.out.mono (Nat.le_refl _)))).mono ?_)
        rintro e w1 ⟨rfl, hb⟩
        replace B := Lib.hid (below_more B.out hb)
        clear hb
        obtain ⟨b, off, x, rfl, hx, _, hc⟩ := (L.out.more B.out).cell HY.out
        obtain ⟨q0, q1, q2, q3, q4⟩ := hc
        rw [hx] at q0 q2 q3
        obtain ⟨hw1, hw2, hw3, hw4⟩ := HW.out
        have z1 := bs_size y.n
        have z2 := bs_size y.d
        clear hx q1 q4
        go_wp2
        go_region_held3 (fun w' => w'.cell? ⟨b, off + k * 5, none⟩ = some (.string (bs y.n)) ∧ w'.cell? ⟨b, off + k * 5 + 2, none⟩ = some (.string (bs y.d)) ∧ w'.cell? ⟨b, off + k * 5 + 3, none⟩ = some (.int .i64 y.m))
          (first | (simp only [World.cell?_drew, q0, q2, q3, and_self]; done)) (fail)
        clear q0 q2 q3 hw1 hw2 hw3 hw4
        go_wp2
        go_roundw
        case rel => exact ⟨k + 1, by omega, by simp, by rw [HN.out], B.out.drew⟩
        case measure => simp [intOf]; omega
      · obtain rfl : k = k0 := by omega
        have hd1 : decide ((k : Int) < (k : Int)) = false := decide_eq_false (by omega)
        have HE := Lib.hid (show costS (l.take k) = c by rw [List.take_of_length_le (by rw [HR.out.2.2]; exact Nat.le_refl _)]; exact HR.out.2.1)
        obtain ⟨s, hs⟩ : ∃ s, costS (l.take k) = s := ⟨_, rfl⟩
        have HS := Lib.hid hs
        rw [hs]
        clear hs
        go_wp2
        go_ret
        exact ⟨by rw [← HE.out, HS.out]; rfl, B.out⟩



end

end Go.Proofs.YtlafcplcjpcikaaGreatDoor

/- The document's set, data. -/
namespace Go.Proofs.YtlafcplcjpcikaaGreatDoor
open Go.RowKit Go.Proofs.Fld Go.Proofs.Rng Go.Proofs.Spc Go.Shelf Go.Sort





























































/-- Objects are told. -/
def SeqS (l : List Ob) (kr : Nat) (w : World) (e : Ending) (w' : World) : Prop := ∃ vs va vc, e = .returned (.slice va kr vc) ∧ SO w' va kr vc vs l ∧ Below w.heap.size w w'
section
variable {w : World} {ao : Option Addr} {k0 cap : Nat} {zs : List Ov} {l : List Ob} {c : Int}
theorem Small.set {l : List Ob} (h : Small l) {y : Ob} (hy : Bd y) (i : Nat) : Small (l.set i y) := ⟨by rw [List.length_set]; exact h.n, fun o ho => by
  rcases List.mem_or_eq_of_mem_set ho with h' | rfl
  · exact h.b o h'
  · exact hy⟩





















/-- An object of the slice, in a variable, its data another text. -/
theorem ObAt.data {W : World} {b : Nat} {x : Ov} (h : ObAt W b 0 x) (s : It) : ObAt (W.setCell ⟨b, 2, none⟩ (.string (bs s))) b 0 ⟨⟨x.o.n, x.o.k, s, x.o.m, x.o.l⟩, x.a, x.c⟩ := by
  obtain ⟨h0, h1, h2, h3, h4⟩ := h.var
  exact ⟨setO h0 (ne_off (by omega)), setO h1 (ne_off (by omega)), setS _ h2, setO h3 (ne_off (by omega)), setO h4 (ne_off (by omega))⟩
end

end Go.Proofs.YtlafcplcjpcikaaGreatDoor
