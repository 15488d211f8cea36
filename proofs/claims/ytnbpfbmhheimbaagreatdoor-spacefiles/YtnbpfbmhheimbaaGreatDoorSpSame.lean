/- Same: are objects the same, field by field? The program's, and the document's. -/
import Derived.Test.YtnbpfbmhheimbaaGreatDoorSpApi
namespace Go.Proofs.Spc
open Go.Proofs.Rng
def sameO (x y : Ob) : Bool := decide (x.n = y.n) && (decide (x.k = y.k) && (decide (x.d = y.d) && sameR x.m x.l y.m y.l))
theorem sameO_iff {x y : Ob} : sameO x y = true ↔ x = y := by
  unfold sameO
  simp only [Bool.and_eq_true, decide_eq_true_eq, sameR_iff]
  constructor
  · rintro ⟨h1, h2, h3, h4, h5⟩
    exact Ob.ext h1 h2 h3 h4 h5
  · rintro rfl
    exact ⟨rfl, rfl, rfl, rfl, rfl⟩
def sameL : List Ob → List Ob → Bool
  | [], [] => true
  | x :: r, y :: s => sameO x y && sameL r s
  | _, _ => false
theorem sameL_iff {l m : List Ob} : sameL l m = true ↔ l = m := by
  induction l generalizing m with
  | nil => cases m <;> simp [sameL]
  | cons x r ih =>
    cases m with
    | nil => simp [sameL]
    | cons y s => simp [sameL, sameO_iff, ih]
theorem sameL_self (l : List Ob) : sameL l l = true := sameL_iff.2 rfl
theorem sameL_len {l m : List Ob} (h : l.length ≠ m.length) : sameL l m = false := by
  cases e : sameL l m
  · rfl
  · rw [sameL_iff] at e; rw [e] at h; exact absurd rfl h
theorem sameL_at {l m : List Ob} {k : Nat} {x y : Ob} (hx : l[k]? = some x) (hy : m[k]? = some y) (h : sameO x y = false) : sameL l m = false := by
  cases e : sameL l m
  · rfl
  · rw [sameL_iff] at e
    subst e
    rw [hx] at hy
    obtain rfl := Option.some.inj hy
    rw [sameO_iff.2 rfl] at h
    cases h
theorem sameL_all {l m : List Ob} (hl : l.length = m.length) (h : ∀ j x y, j < l.length → l[j]? = some x → m[j]? = some y → sameO x y = true) : sameL l m = true := by
  rw [sameL_iff]
  refine List.ext_getElem hl fun j h1 h2 => ?_
  exact sameO_iff.1 (h j _ _ h1 (List.getElem?_eq_getElem h1) (List.getElem?_eq_getElem h2))
end Go.Proofs.Spc
namespace Go.Proofs.YtnbpfbmhheimbaaGreatDoor
open Go.RowKit Go.Proofs.Fld Go.Proofs.Rng Go.Proofs.Spc Go.Shelf Go.Sort

/-- Same between two rounds. -/
def EqO (l m : List Ov) (k : Nat) : Prop := ∀ j x y, j < k → l[j]? = some x → m[j]? = some y → sameO x.o y.o = true
theorem EqO.next {l m : List Ov} {k : Nat} {x y : Ov} (h : EqO l m k) (hx : l[k]? = some x) (hy : m[k]? = some y) (hs : sameO x.o y.o = true) : EqO l m (k + 1) := fun j x' y' hj h1 h2 => by
  by_cases e : j = k
  · subst e
    rw [hx] at h1
    rw [hy] at h2
    obtain rfl := Option.some.inj h1
    obtain rfl := Option.some.inj h2
    exact hs
  · exact h j x' y' (by omega) h1 h2
theorem EqO.all {l m : List Ov} {k : Nat} (h : EqO l m k) (h1 : l.length = k) (h2 : m.length = k) : sameL (obs l) (obs m) = true := by
  refine sameL_all (by rw [obs_length, obs_length, h1, h2]) fun j x y hj hx hy => ?_
  obtain ⟨x', hx', rfl⟩ := obs_at hx
  obtain ⟨y', hy', rfl⟩ := obs_at hy
  exact h j x' y' (by rw [obs_length] at hj; omega) hx' hy'

set_option maxRecDepth 100000 in
set_option maxHeartbeats 4000000 in
theorem one_same (x y : Ov) (hx : Bd x.o) (hy : Bd y.o) {b : Bool} (hb : sameO x.o y.o = b) (w : World) (h1 : Lv w x) (h2 : Lv w y) :
    Calls Tryz.prog 51 #[.agg #[.string (bs x.o.n), .int .i64 x.o.k, .string (bs x.o.d), .int .i64 x.o.m, .slice x.a x.o.l.length x.c], .agg #[.string (bs y.o.n), .int .i64 y.o.k, .string (bs y.o.d), .int .i64 y.o.m, .slice y.a y.o.l.length y.c]] w (BoolP b w) := by
  have hB1 := Below.new w (.cells #[.string (bs x.o.n), .int .i64 x.o.k, .string (bs x.o.d), .int .i64 x.o.m, .slice x.a x.o.l.length x.c] 55)
  have hN := Below.new (w.alloc (.cells #[.string (bs x.o.n), .int .i64 x.o.k, .string (bs x.o.d), .int .i64 x.o.m, .slice x.a x.o.l.length x.c] 55)) (.cells #[.string (bs y.o.n), .int .i64 y.o.k, .string (bs y.o.d), .int .i64 y.o.m, .slice y.a y.o.l.length y.c] 55)
  have hB2 := below_more hB1 hN
  obtain ⟨p0, p1, p2, p3, p4⟩ := ((ObAt.new w x 55).more hN).var
  have r2 := ObAt.new (w.alloc (.cells #[.string (bs x.o.n), .int .i64 x.o.k, .string (bs x.o.d), .int .i64 x.o.m, .slice x.a x.o.l.length x.c] 55)) y 55
  rw [World.size_alloc] at r2
  obtain ⟨q0, q1, q2, q3, q4⟩ := r2.var
  obtain ⟨W0, hW0⟩ : ∃ W0, (w.alloc (.cells #[.string (bs x.o.n), .int .i64 x.o.k, .string (bs x.o.d), .int .i64 x.o.m, .slice x.a x.o.l.length x.c] 55)).alloc (.cells #[.string (bs y.o.n), .int .i64 y.o.k, .string (bs y.o.d), .int .i64 y.o.m, .slice y.a y.o.l.length y.c] 55) = W0 := ⟨_, rfl⟩
  rw [hW0] at hB2 p0 p1 p2 p3 p4 q0 q1 q2 q3 q4
  have hn : ((bs x.o.n).toList == (bs y.o.n).toList) = decide (x.o.n = y.o.n) := str_same _ _
  have hd : ((bs x.o.d).toList == (bs y.o.d).toList) = decide (x.o.d = y.o.d) := str_same _ _
  have HE := Lib.hid (Same_p (m1 := x.o.m) (m2 := y.o.m) hx.len hy.len rfl (h1.t.more hB2) (h2.t.more hB2))
  have HB := Lib.hid (And.intro hB2 hb)
  clear hB1 hB2 hN h1 h2 hb r2 hx hy
  have fin : ∀ {c : Bool}, sameO x.o y.o = c → b = c := fun h => by rw [← HB.out.2]; exact h
  by_cases e1 : x.o.n = y.o.n
  · rw [decide_eq_true e1] at hn
    by_cases e2 : x.o.k = y.o.k
    · have hk : (x.o.k == y.o.k) = true := by simp [e2]
      by_cases e3 : x.o.d = y.o.d
      · rw [decide_eq_true e3] at hd
        have HV := Lib.hid (fin (show sameO x.o y.o = sameR x.o.m x.o.l y.o.m y.o.l by unfold sameO; rw [decide_eq_true e1, decide_eq_true e2, decide_eq_true e3]; rfl))
        clear fin e1 e2 e3
        go_enter Tryz.func51, Tryz.ntmps51
        go_wp2_with (go_at_call 52; refine HE.out.mono ?_)
        rintro e w1 ⟨rfl, hb1⟩
        have HB1 := Lib.hid (below_more HB.out.1 hb1)
        clear hb1
        go_wp2
        go_ret
        exact ⟨by rw [HV.out]; rfl, HB1.out⟩
      · rw [decide_eq_false e3] at hd
        have HV := Lib.hid (fin (show sameO x.o y.o = false by unfold sameO; rw [decide_eq_false e3]; simp))
        clear fin e1 e2 e3
        go_enter Tryz.func51, Tryz.ntmps51
        go_wp2
        go_ret
        exact ⟨by rw [HV.out]; rfl, HB.out.1⟩
    · have hk : (x.o.k == y.o.k) = false := by simp [e2]
      have HV := Lib.hid (fin (show sameO x.o y.o = false by unfold sameO; rw [decide_eq_false e2]; simp))
      clear fin e1 e2
      go_enter Tryz.func51, Tryz.ntmps51
      go_wp2
      go_ret
      exact ⟨by rw [HV.out]; rfl, HB.out.1⟩
  · rw [decide_eq_false e1] at hn
    have HV := Lib.hid (fin (show sameO x.o y.o = false by unfold sameO; rw [decide_eq_false e1]; rfl))
    clear fin e1
    go_enter Tryz.func51, Tryz.ntmps51
    go_wp2
    go_ret
    exact ⟨by rw [HV.out]; rfl, HB.out.1⟩

set_option maxRecDepth 100000 in
set_option maxHeartbeats 4000000 in
theorem equalO_any (a1 a2 : Option Addr) (len1 len2 c1 c2 : Nat) (l m : List Ov) (hr1 : len1 ≤ 1000000) (hr2 : len2 ≤ 1000000) (hbl : ∀ x ∈ l, Bd x.o) (hbm : ∀ x ∈ m, Bd x.o) (w : World) (h1 : Objs w a1 len1 c1 l) (h2 : Objs w a2 len2 c2 m) :
    Calls Tryz.prog 50 #[.slice a1 len1 c1, .slice a2 len2 c2, .func (.func 51) #[] #[]] w (BoolP (sameL (obs l) (obs m)) w) := by
  have e1 := h1.hlen
  have e2 := h2.hlen
  by_cases hne : len1 = len2
  · subst hne
    have HH := Lib.hid (And.intro h1 (And.intro h2 (And.intro e1 e2)))
    have HD := Lib.hid (And.intro hbl hbm)
    clear h1 h2 e1 e2 hbl hbm
    go_enter Tryz.func50, Tryz.ntmps50
    go_wp2
    go_loopw [17] (fun v wr => ∃ k : Nat, k ≤ len1 ∧ v = .int .i64 k ∧ Hid (EqO l m k) ∧ Below w.heap.size w wr) (fun v _ => len1 - (intOf v).toNat)
    case atStart => exact ⟨0, Nat.zero_le _, rfl, (fun j x y hj => absurd hj (by omega)), Below.refl _ _⟩
    case round =>
      obtain ⟨k, hk, rfl, HI, hB⟩ := hrel
      by_cases hlt : k < len1
      · obtain ⟨x, hx⟩ : ∃ x, l[k]? = some x := ⟨_, List.getElem?_eq_getElem (by rw [HH.out.2.2.1]; exact hlt)⟩
        obtain ⟨y, hy⟩ : ∃ y, m[k]? = some y := ⟨_, List.getElem?_eq_getElem (by rw [HH.out.2.2.2]; exact hlt)⟩
        obtain ⟨b1, o1, rfl, hb1, hc1⟩ := HH.out.1.at (by omega)
        obtain ⟨b2, o2, rfl, hb2, hc2⟩ := HH.out.2.1.at (by omega)
        have hd1 : decide ((k : Int) < (len1 : Int)) = true := decide_eq_true (by omega)
        obtain ⟨q0, q1, q2, q3, q4⟩ := (hc1 k x hx).of_block (hB.block b1 hb1)
        have hN1 := Below.new wr (.cells #[.string (bs x.o.n), .int .i64 x.o.k, .string (bs x.o.d), .int .i64 x.o.m, .slice x.a x.o.l.length x.c] 55)
        obtain ⟨p0, p1, p2, p3, p4⟩ := ((hc2 k y hy).of_block (hB.block b2 hb2)).more hN1
        have hN2 := Below.new (wr.alloc (.cells #[.string (bs x.o.n), .int .i64 x.o.k, .string (bs x.o.d), .int .i64 x.o.m, .slice x.a x.o.l.length x.c] 55)) (.cells #[.string (bs y.o.n), .int .i64 y.o.k, .string (bs y.o.d), .int .i64 y.o.m, .slice y.a y.o.l.length y.c] 55)
        have hO1 := (ObAt.new wr x 55).more hN2
        have hO2 := ObAt.new (wr.alloc (.cells #[.string (bs x.o.n), .int .i64 x.o.k, .string (bs x.o.d), .int .i64 x.o.m, .slice x.a x.o.l.length x.c] 55)) y 55
        have hNN := below_more hN1 hN2
        have hBB := hB.trans (hNN.mono hB.size)
        rw [World.size_alloc] at hO2
        have HC := Lib.hid (one_same x y (HD.out.1 x (List.mem_of_getElem? hx)) (HD.out.2 y (List.mem_of_getElem? hy)) rfl ((wr.alloc (.cells #[.string (bs x.o.n), .int .i64 x.o.k, .string (bs x.o.d), .int .i64 x.o.m, .slice x.a x.o.l.length x.c] 55)).alloc (.cells #[.string (bs y.o.n), .int .i64 y.o.k, .string (bs y.o.d), .int .i64 y.o.m, .slice y.a y.o.l.length y.c] 55)) (((HH.out.1.row hx).more (hB.mono (Nat.le_refl _))).more hNN) (((HH.out.2.1.row hy).more (hB.mono (Nat.le_refl _))).more hNN))
        have HB2 := Lib.hid hBB
        have HX := Lib.hid (And.intro hx hy)
        obtain ⟨u0, u1, u2, u3, u4⟩ := hO1.var
        obtain ⟨v0, v1, v2, v3, v4⟩ := hO2.var
        clear hx hy hc1 hc2 hN1 hN2 hNN hO1 hO2 hBB
        go_wp2_with (go_at_call 51; refine HC.out.mono ?_)
        rintro e w1 ⟨rfl, hb3⟩
        have HB3 := Lib.hid (HB2.out.trans (hb3.mono HB2.out.size))
        clear hb3
        cases hs : sameO x.o y.o with
        | true =>
          have HN := Lib.hid (HI.out.next HX.out.1 HX.out.2 hs)
          clear hs
          go_wp2
          go_roundw
          case rel => exact ⟨k + 1, by omega, by simp, HN.out, HB3.out⟩
          case measure => simp [intOf]; omega
        | false =>
          have HN := Lib.hid (sameL_at (obs_get HX.out.1) (obs_get HX.out.2) hs)
          clear hs
          go_wp2
          go_ret
          exact ⟨by rw [HN.out]; rfl, HB3.out⟩
      · obtain rfl : k = len1 := by omega
        have hd1 : decide ((k : Int) < (k : Int)) = false := decide_eq_false (by omega)
        have HN := Lib.hid (HI.out.all HH.out.2.2.1 HH.out.2.2.2)
        go_wp2
        go_ret
        exact ⟨by rw [HN.out]; rfl, hB⟩
  · have HN := Lib.hid (sameL_len (l := obs l) (m := obs m) (by rw [obs_length, obs_length]; omega))
    have hd : (((len1 : Nat) : Int) != ((len2 : Nat) : Int)) = true := by simp; omega
    clear h1 h2 e1 e2 hbl hbm
    go_enter Tryz.func50, Tryz.ntmps50
    go_wp2
    go_ret
    exact ⟨by rw [HN.out]; rfl, Below.refl _ _⟩

set_option maxHeartbeats 2000000 in
theorem Same_s {a1 a2 : Option Addr} {len1 len2 c1 c2 : Nat} {l m : List Ov} {b : Bool} (hr1 : len1 ≤ 1000000) (hr2 : len2 ≤ 1000000) (hb : sameL (obs l) (obs m) = b) {w : World} (hbl : ∀ x ∈ l, Bd x.o) (hbm : ∀ x ∈ m, Bd x.o) (h1 : Objs w a1 len1 c1 l) (h2 : Objs w a2 len2 c2 m) :
    Calls Tryz.prog 26 #[.slice a1 len1 c1, .slice a2 len2 c2] w (BoolP b w) := by
  have HE := Lib.hid (equalO_any a1 a2 len1 len2 c1 c2 l m hr1 hr2 hbl hbm w h1 h2)
  rw [hb] at HE
  clear h1 h2 hb hbl hbm
  go_enter Tryz.func26, Tryz.ntmps26
  go_wp2_with (go_at_call 50; refine HE.out.mono ?_)
  rintro e w1 ⟨rfl, hb1⟩
  have HB1 := Lib.hid hb1
  clear hb1
  go_wp2
  go_ret
  exact ⟨rfl, HB1.out⟩

end Go.Proofs.YtnbpfbmhheimbaaGreatDoor
