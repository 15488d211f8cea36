/- The document's functions: One, Find, Same. -/
import Derived.Test.YtnbpfbmhheimbaaGreatDoorSpHead
namespace Go.Proofs.Spc
open Go.Proofs.Rng
def NoN (l : List Ob) (n : It) (k : Nat) : Prop := ∀ j x, j < k → l[j]? = some x → decide (x.n = n) = false
theorem NoN.next {l : List Ob} {n : It} {k : Nat} {x : Ob} (h : NoN l n k) (hx : l[k]? = some x) (hs : decide (x.n = n) = false) : NoN l n (k + 1) := fun j y hj hy => by
  by_cases e : j = k
  · subst e
    rw [hx] at hy
    obtain rfl := Option.some.inj hy
    exact hs
  · exact h j y (by omega) hy
theorem NoN.miss {l : List Ob} {n : It} (h : NoN l n l.length) : findI l n = -1 := by
  unfold findI findN
  rw [if_pos]
  refine aheadN_all fun x hx => ?_
  obtain ⟨j, hj, e⟩ := List.mem_iff_getElem.1 hx
  have := h j x hj (by rw [List.getElem?_eq_getElem hj, e])
  simpa using this
theorem NoN.hit {l : List Ob} {n : It} {k : Nat} {x : Ob} (h : NoN l n k) (hx : l[k]? = some x) (hs : decide (x.n = n) = true) : findI l n = k := by
  have hk := (List.getElem?_eq_some_iff.1 hx).1
  have e : l = l.take k ++ x :: l.drop (k + 1) := by
    have := List.take_append_drop k l
    rw [List.drop_eq_getElem_cons hk, (List.getElem?_eq_some_iff.1 hx).2] at this
    exact this.symm
  have hf : findN l n = k := by
    unfold findN
    rw [e, aheadN_at (fun y hy => ?_) (by simpa using hs), List.length_take]
    · omega
    · obtain ⟨j, hj, e⟩ := List.mem_iff_getElem.1 hy
      rw [List.length_take] at hj
      rw [List.getElem_take] at e
      have := h j y (by omega) (by rw [List.getElem?_eq_getElem (by omega), e])
      simpa using this
  unfold findI
  rw [hf, if_neg (by omega)]
end Go.Proofs.Spc
namespace Go.Proofs.YtnbpfbmhheimbaaGreatDoor
open Go.RowKit Go.Proofs.Fld Go.Proofs.Rng Go.Proofs.Spc Go.Shelf Go.Sort

set_option maxRecDepth 100000 in
set_option maxHeartbeats 4000000 in
theorem refOne_any (x y : Ov) (hx : Bd x.o) (hy : Bd y.o) {b : Bool} (hb : sameO x.o y.o = b) (w : World) (h1 : Lv w x) (h2 : Lv w y) :
    Calls Tryz.prog 53 #[.agg #[.string (bs x.o.n), .int .i64 x.o.k, .string (bs x.o.d), .int .i64 x.o.m, .slice x.a x.o.l.length x.c], .agg #[.string (bs y.o.n), .int .i64 y.o.k, .string (bs y.o.d), .int .i64 y.o.m, .slice y.a y.o.l.length y.c]] w (BoolP b w) := by
  have hB1 := Below.new w (.cells #[.string (bs x.o.n), .int .i64 x.o.k, .string (bs x.o.d), .int .i64 x.o.m, .slice x.a x.o.l.length x.c] 55)
  have hN := Below.new (w.alloc (.cells #[.string (bs x.o.n), .int .i64 x.o.k, .string (bs x.o.d), .int .i64 x.o.m, .slice x.a x.o.l.length x.c] 55)) (.cells #[.string (bs y.o.n), .int .i64 y.o.k, .string (bs y.o.d), .int .i64 y.o.m, .slice y.a y.o.l.length y.c] 55)
  have hB2 := below_more hB1 hN
  obtain ⟨p0, p1, p2, p3, p4⟩ := ((ObAt.new w x 55).more hN).var
  have r2 := ObAt.new (w.alloc (.cells #[.string (bs x.o.n), .int .i64 x.o.k, .string (bs x.o.d), .int .i64 x.o.m, .slice x.a x.o.l.length x.c] 55)) y 55
  rw [World.size_alloc] at r2
  obtain ⟨q0, q1, q2, q3, q4⟩ := r2.var
  obtain ⟨W0, hW0⟩ : ∃ W0, (w.alloc (.cells #[.string (bs x.o.n), .int .i64 x.o.k, .string (bs x.o.d), .int .i64 x.o.m, .slice x.a x.o.l.length x.c] 55)).alloc (.cells #[.string (bs y.o.n), .int .i64 y.o.k, .string (bs y.o.d), .int .i64 y.o.m, .slice y.a y.o.l.length y.c] 55) = W0 := ⟨_, rfl⟩
  rw [hW0] at hB2 p0 p1 p2 p3 p4 q0 q1 q2 q3 q4
  have hn : ((bs x.o.n).toList == (bs y.o.n).toList) = decide (x.o.n = y.o.n) := str_same _ _
  have hd : ((bs x.o.d).toList == (bs y.o.d).toList) = decide (x.o.d = y.o.d) := str_same _ _
  have HE := Lib.hid (RSame_p (m1 := x.o.m) (m2 := y.o.m) hx.len hy.len rfl (h1.t.more hB2) (h2.t.more hB2))
  have HB := Lib.hid (And.intro hB2 hb)
  clear hB1 hB2 hN h1 h2 hb r2 hx hy
  have fin : ∀ {c : Bool}, sameO x.o y.o = c → b = c := fun h => by rw [← HB.out.2]; exact h
  by_cases e1 : x.o.n = y.o.n
  · rw [decide_eq_true e1] at hn
    by_cases e2 : x.o.k = y.o.k
    · have hk : (x.o.k == y.o.k) = true := by simp [e2]
      by_cases e3 : x.o.d = y.o.d
      · rw [decide_eq_true e3] at hd
        have HV := Lib.hid (fin (show sameO x.o y.o = sameR x.o.m x.o.l y.o.m y.o.l by unfold sameO; rw [decide_eq_true e1, decide_eq_true e2, decide_eq_true e3]; rfl))
        clear fin e1 e2 e3
        go_enter Tryz.func53, Tryz.ntmps53
        go_wp2_with (go_at_call 86; refine HE.out.mono ?_)
        rintro e w1 ⟨rfl, hb1⟩
        have HB1 := Lib.hid (below_more HB.out.1 hb1)
        clear hb1
        go_wp2
        go_ret
        exact ⟨by rw [HV.out]; rfl, HB1.out⟩
      · rw [decide_eq_false e3] at hd
        have HV := Lib.hid (fin (show sameO x.o y.o = false by unfold sameO; rw [decide_eq_false e3]; simp))
        clear fin e1 e2 e3
        go_enter Tryz.func53, Tryz.ntmps53
        go_wp2
        go_ret
        exact ⟨by rw [HV.out]; rfl, HB.out.1⟩
    · have hk : (x.o.k == y.o.k) = false := by simp [e2]
      have HV := Lib.hid (fin (show sameO x.o y.o = false by unfold sameO; rw [decide_eq_false e2]; simp))
      clear fin e1 e2
      go_enter Tryz.func53, Tryz.ntmps53
      go_wp2
      go_ret
      exact ⟨by rw [HV.out]; rfl, HB.out.1⟩
  · rw [decide_eq_false e1] at hn
    have HV := Lib.hid (fin (show sameO x.o y.o = false by unfold sameO; rw [decide_eq_false e1]; rfl))
    clear fin e1
    go_enter Tryz.func53, Tryz.ntmps53
    go_wp2
    go_ret
    exact ⟨by rw [HV.out]; rfl, HB.out.1⟩

set_option maxRecDepth 100000 in
set_option maxHeartbeats 4000000 in
theorem refFind_any (ao : Option Addr) (len cap : Nat) (zs : List Ov) (n : It) {i : Int} (hi : findI (obs zs) n = i) (hr : len ≤ 1000000) (w : World) (hL : Objs w ao len cap zs) :
    Calls Tryz.prog 22 #[.slice ao len cap, .string (bs n)] w (IntP i w) := by
  have e1 := hL.hlen
  have HH := Lib.hid (And.intro hL (And.intro e1 hi))
  clear hL e1 hi
  go_enter Tryz.func22, Tryz.ntmps22
  go_wp2
  go_loopw [5] (fun v wr => ∃ k : Nat, k ≤ len ∧ v = .int .i64 k ∧ Hid (NoN (obs zs) n k) ∧ Below w.heap.size w wr) (fun v _ => len - (intOf v).toNat)
  case atStart => exact ⟨0, Nat.zero_le _, rfl, (fun j x hj => absurd hj (by omega)), Below.refl _ _⟩
  case round =>
    obtain ⟨k, hk, rfl, HI, hB⟩ := hrel
    by_cases hlt : k < len
    · obtain ⟨x, hx⟩ : ∃ x, zs[k]? = some x := ⟨_, List.getElem?_eq_getElem (by rw [HH.out.2.1]; exact hlt)⟩
      obtain ⟨b1, o1, rfl, hb1, hc1⟩ := HH.out.1.at (by omega)
      have hd1 : decide ((k : Int) < (len : Int)) = true := decide_eq_true (by omega)
      obtain ⟨q0, q1, q2, q3, q4⟩ := (hc1 k x hx).of_block (hB.block b1 hb1)
      have hq : ((bs x.o.n).toList == (bs n).toList) = decide (x.o.n = n) := str_same _ _
      have HX := Lib.hid (obs_get hx)
      clear hx hc1
      cases hs : decide (x.o.n = n) with
      | false =>
        rw [hs] at hq
        have HN := Lib.hid (HI.out.next HX.out hs)
        clear hs
        go_wp2
        go_roundw
        case rel => exact ⟨k + 1, by omega, by simp, HN.out, hB⟩
        case measure => simp [intOf]; omega
      | true =>
        rw [hs] at hq
        have HN := Lib.hid (HI.out.hit HX.out hs)
        clear hs
        go_wp2
        go_ret
        exact ⟨by rw [← HH.out.2.2, HN.out]; rfl, hB⟩
    · obtain rfl : k = len := by omega
      have hd1 : decide ((k : Int) < (k : Int)) = false := decide_eq_false (by omega)
      have HN := Lib.hid (NoN.miss (l := obs zs) (n := n) (by rw [obs_length, HH.out.2.1]; exact HI.out))
      go_wp2
      go_ret
      exact ⟨by rw [← HH.out.2.2, HN.out]; rfl, hB⟩

end Go.Proofs.YtnbpfbmhheimbaaGreatDoor
