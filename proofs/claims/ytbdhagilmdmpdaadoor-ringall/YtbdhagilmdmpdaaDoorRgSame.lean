/- Same: the same, field by field? The program's, and the document's. -/
import Derived.Test.YtbdhagilmdmpdaaDoorRgTop
namespace Go.Proofs.Rng
theorem sameT_iff {l m : List It} : sameT l m = true ↔ l = m := by simp [sameT]
theorem sameT_len {l m : List It} (h : l.length ≠ m.length) : sameT l m = false := by
  cases e : sameT l m
  · rfl
  · rw [sameT_iff] at e; rw [e] at h; exact absurd rfl h
theorem sameT_at {l m : List It} {k : Nat} {x y : It} (hx : l[k]? = some x) (hy : m[k]? = some y) (h : decide (x = y) = false) : sameT l m = false := by
  cases e : sameT l m
  · rfl
  · rw [sameT_iff] at e
    subst e
    rw [hx] at hy
    obtain rfl := Option.some.inj hy
    simp at h
theorem sameT_all {l m : List It} (hl : l.length = m.length) (h : ∀ j x y, j < l.length → l[j]? = some x → m[j]? = some y → decide (x = y) = true) : sameT l m = true := by
  rw [sameT_iff]
  refine List.ext_getElem hl fun j h1 h2 => ?_
  exact of_decide_eq_true (h j _ _ h1 (List.getElem?_eq_getElem h1) (List.getElem?_eq_getElem h2))
/-- Are two rings the same? -/
def sameR (m : Int) (l : List It) (m' : Int) (l' : List It) : Bool := decide (m = m') && sameT l l'
theorem sameR_iff {m m' : Int} {l l' : List It} : sameR m l m' l' = true ↔ m = m' ∧ l = l' := by simp [sameR, sameT]
end Go.Proofs.Rng
namespace Go.Proofs.YtbdhagilmdmpdaaDoor
open Go.RowKit Go.Proofs.Fld Go.Proofs.Rng Go.Shelf Go.Sort

theorem str_same (x y : It) : ((bs x).toList == (bs y).toList) = decide (x = y) := by
  rw [bs_toList, bs_toList]
  by_cases h : x = y <;> simp [h]
/-- Equal between two rounds. -/
def EqI (l m : List It) (k : Nat) : Prop := ∀ j x y, j < k → l[j]? = some x → m[j]? = some y → decide (x = y) = true
theorem EqI.next {l m : List It} {k : Nat} {x y : It} (h : EqI l m k) (hx : l[k]? = some x) (hy : m[k]? = some y) (hs : decide (x = y) = true) : EqI l m (k + 1) := fun j x' y' hj h1 h2 => by
  by_cases e : j = k
  · subst e
    rw [hx] at h1
    rw [hy] at h2
    obtain rfl := Option.some.inj h1
    obtain rfl := Option.some.inj h2
    exact hs
  · exact h j x' y' (by omega) h1 h2

set_option maxRecDepth 100000 in
set_option maxHeartbeats 4000000 in
theorem equal_any (a1 a2 : Option Addr) (len1 len2 c1 c2 : Nat) (l m : List It) (hr1 : len1 ≤ 1000000) (hr2 : len2 ≤ 1000000) (w : World) (h1 : Txs w a1 len1 c1 l) (h2 : Txs w a2 len2 c2 m) :
    Calls Tryd.prog 33 #[.slice a1 len1 c1, .slice a2 len2 c2] w (BoolP (sameT l m) w) := by
  have e1 := h1.hlen
  have e2 := h2.hlen
  by_cases hne : len1 = len2
  · subst hne
    have HH := Lib.hid (And.intro h1 (And.intro h2 (And.intro e1 e2)))
    clear h1 h2 e1 e2
    go_enter Tryd.func33, Tryd.ntmps33
    go_wp2
    go_loopw [13] (fun v wr => ∃ k : Nat, k ≤ len1 ∧ v = .int .i64 k ∧ Hid (EqI l m k) ∧ Below w.heap.size w wr) (fun v _ => len1 - (intOf v).toNat)
    case atStart => exact ⟨0, Nat.zero_le _, rfl, (fun j x y hj => absurd hj (by omega)), Below.refl _ _⟩
    case round =>
      obtain ⟨k, hk, rfl, HI, hB⟩ := hrel
      by_cases hlt : k < len1
      · obtain ⟨x, hx⟩ : ∃ x, l[k]? = some x := ⟨_, List.getElem?_eq_getElem (by rw [HH.out.2.2.1]; exact hlt)⟩
        obtain ⟨y, hy⟩ : ∃ y, m[k]? = some y := ⟨_, List.getElem?_eq_getElem (by rw [HH.out.2.2.2]; exact hlt)⟩
        obtain ⟨b1, o1, rfl, hb1, hc1⟩ := HH.out.1.at (by omega)
        obtain ⟨b2, o2, rfl, hb2, hc2⟩ := HH.out.2.1.at (by omega)
        have q0 := (World.cell?_of_block (a := ⟨b1, o1 + k, none⟩) (hB.block b1 hb1)).trans (hc1 k x hx)
        have p0 := (World.cell?_of_block (a := ⟨b2, o2 + k, none⟩) (hB.block b2 hb2)).trans (hc2 k y hy)
        have hq : ((bs x).toList == (bs y).toList) = decide (x = y) := str_same x y
        have HX := Lib.hid (And.intro hx hy)
        clear hx hy hc1 hc2
        cases hs : decide (x = y) with
        | true =>
          rw [hs] at hq
          have HN := Lib.hid (HI.out.next HX.out.1 HX.out.2 hs)
          clear hs
          go_wp2
          go_quiet (fail)
          go_wp2
          go_roundw
          case rel => exact ⟨k + 1, by omega, by simp, HN.out, below_drewN hB _⟩
          case measure => simp [intOf]; omega
        | false =>
          rw [hs] at hq
          have HN := Lib.hid (sameT_at HX.out.1 HX.out.2 hs)
          clear hs
          go_wp2
          go_quiet (fail)
          go_wp2
          go_ret
          exact ⟨by rw [HN.out]; rfl, below_drewN hB _⟩
      · obtain rfl : k = len1 := by omega
        have HN := Lib.hid (sameT_all (HH.out.2.2.1.trans HH.out.2.2.2.symm) (by rw [HH.out.2.2.1]; exact HI.out))
        go_wp2
        go_ret
        exact ⟨by rw [HN.out]; rfl, hB⟩
  · have HN := Lib.hid (sameT_len (l := l) (m := m) (by omega))
    have hd : (((len1 : Nat) : Int) != ((len2 : Nat) : Int)) = true := by simp; omega
    clear h1 h2 e1 e2
    go_enter Tryd.func33, Tryd.ntmps33
    go_wp2
    go_ret
    exact ⟨by rw [HN.out]; rfl, Below.refl _ _⟩

set_option maxRecDepth 100000 in
set_option maxHeartbeats 4000000 in
theorem texts_any (a1 a2 : Option Addr) (len1 len2 c1 c2 : Nat) (l m : List It) (hr1 : len1 ≤ 1000000) (hr2 : len2 ≤ 1000000) (w : World) (h1 : Txs w a1 len1 c1 l) (h2 : Txs w a2 len2 c2 m) :
    Calls Tryd.prog 32 #[.slice a1 len1 c1, .slice a2 len2 c2] w (BoolP (sameT l m) w) := by
  have e1 := h1.hlen
  have e2 := h2.hlen
  by_cases hne : len1 = len2
  · subst hne
    have HH := Lib.hid (And.intro h1 (And.intro h2 (And.intro e1 e2)))
    clear h1 h2 e1 e2
    go_enter Tryd.func32, Tryd.ntmps32
    go_wp2
    go_loopw [5] (fun v wr => ∃ k : Nat, k ≤ len1 ∧ v = .int .i64 k ∧ Hid (EqI l m k) ∧ Below w.heap.size w wr) (fun v _ => len1 - (intOf v).toNat)
    case atStart => exact ⟨0, Nat.zero_le _, rfl, (fun j x y hj => absurd hj (by omega)), Below.refl _ _⟩
    case round =>
      obtain ⟨k, hk, rfl, HI, hB⟩ := hrel
      by_cases hlt : k < len1
      · obtain ⟨x, hx⟩ : ∃ x, l[k]? = some x := ⟨_, List.getElem?_eq_getElem (by rw [HH.out.2.2.1]; exact hlt)⟩
        obtain ⟨y, hy⟩ : ∃ y, m[k]? = some y := ⟨_, List.getElem?_eq_getElem (by rw [HH.out.2.2.2]; exact hlt)⟩
        obtain ⟨b1, o1, rfl, hb1, hc1⟩ := HH.out.1.at (by omega)
        obtain ⟨b2, o2, rfl, hb2, hc2⟩ := HH.out.2.1.at (by omega)
        have q0 := (World.cell?_of_block (a := ⟨b1, o1 + k, none⟩) (hB.block b1 hb1)).trans (hc1 k x hx)
        have p0 := (World.cell?_of_block (a := ⟨b2, o2 + k, none⟩) (hB.block b2 hb2)).trans (hc2 k y hy)
        have hq : ((bs x).toList == (bs y).toList) = decide (x = y) := str_same x y
        have HX := Lib.hid (And.intro hx hy)
        clear hx hy hc1 hc2
        cases hs : decide (x = y) with
        | true =>
          rw [hs] at hq
          have HN := Lib.hid (HI.out.next HX.out.1 HX.out.2 hs)
          clear hs
          go_wp2
          go_quiet (fail)
          go_wp2
          go_roundw
          case rel => exact ⟨k + 1, by omega, by simp, HN.out, below_drewN hB _⟩
          case measure => simp [intOf]; omega
        | false =>
          rw [hs] at hq
          have HN := Lib.hid (sameT_at HX.out.1 HX.out.2 hs)
          clear hs
          go_wp2
          go_quiet (fail)
          go_wp2
          go_ret
          exact ⟨by rw [HN.out]; rfl, below_drewN hB _⟩
      · obtain rfl : k = len1 := by omega
        have HN := Lib.hid (sameT_all (HH.out.2.2.1.trans HH.out.2.2.2.symm) (by rw [HH.out.2.2.1]; exact HI.out))
        go_wp2
        go_ret
        exact ⟨by rw [HN.out]; rfl, hB⟩
  · have HN := Lib.hid (sameT_len (l := l) (m := m) (by omega))
    have hd : (((len1 : Nat) : Int) != ((len2 : Nat) : Int)) = true := by simp; omega
    clear h1 h2 e1 e2
    go_enter Tryd.func32, Tryd.ntmps32
    go_wp2
    go_ret
    exact ⟨by rw [HN.out]; rfl, Below.refl _ _⟩

set_option maxHeartbeats 2000000 in
theorem Same_p {m1 m2 : Int} {a1 a2 : Option Addr} {len1 len2 c1 c2 : Nat} {l l' : List It} {b : Bool} (hr1 : len1 ≤ 1000000) (hr2 : len2 ≤ 1000000) (hb : sameR m1 l m2 l' = b) {w : World} (h1 : Txs w a1 len1 c1 l) (h2 : Txs w a2 len2 c2 l') :
    Calls Tryd.prog 23 #[.agg #[.int .i64 m1, .slice a1 len1 c1], .agg #[.int .i64 m2, .slice a2 len2 c2]] w (BoolP b w) := by
  have hB1 := Below.new w (.cells #[.int .i64 m1, .slice a1 len1 c1] 24)
  have hN := Below.new (w.alloc (.cells #[.int .i64 m1, .slice a1 len1 c1] 24)) (.cells #[.int .i64 m2, .slice a2 len2 c2] 24)
  have hB2 := below_more hB1 hN
  obtain ⟨p0, p1, _, _⟩ := (R2.new w (.int .i64 m1) (.slice a1 len1 c1) 24).more hN
  have r2 := R2.new (w.alloc (.cells #[.int .i64 m1, .slice a1 len1 c1] 24)) (.int .i64 m2) (.slice a2 len2 c2) 24
  rw [World.size_alloc] at r2
  obtain ⟨q0, q1, _, _⟩ := r2
  obtain ⟨W0, hW0⟩ : ∃ W0, (w.alloc (.cells #[.int .i64 m1, .slice a1 len1 c1] 24)).alloc (.cells #[.int .i64 m2, .slice a2 len2 c2] 24) = W0 := ⟨_, rfl⟩
  rw [hW0] at hB2 p0 p1 q0 q1
  have HE := Lib.hid (equal_any a1 a2 len1 len2 c1 c2 l l' hr1 hr2 W0 (h1.more hB2) (h2.more hB2))
  have HB := Lib.hid (And.intro hB2 hb)
  clear hB1 hB2 hN h1 h2 hb
  by_cases hm : m1 = m2
  · have hd : (m1 == m2) = true := by simp [hm]
    have HV := Lib.hid (show b = sameT l l' by rw [← HB.out.2]; unfold sameR; rw [decide_eq_true hm, Bool.true_and])
    subst hm
    go_enter Tryd.func23, Tryd.ntmps23
    go_wp2_with (go_at_call 33; refine HE.out.mono ?_)
    rintro e w1 ⟨rfl, hb1⟩
    have HB1 := Lib.hid (below_more HB.out.1 hb1)
    clear hb1
    go_wp2
    go_ret
    exact ⟨by rw [HV.out]; rfl, HB1.out⟩
  · have hd : (m1 == m2) = false := by simp [hm]
    have HV := Lib.hid (show b = false by rw [← HB.out.2]; unfold sameR; rw [decide_eq_false hm, Bool.false_and])
    go_enter Tryd.func23, Tryd.ntmps23
    go_wp2
    go_ret
    exact ⟨by rw [HV.out]; rfl, HB.out.1⟩

set_option maxHeartbeats 2000000 in
theorem RSame_p {m1 m2 : Int} {a1 a2 : Option Addr} {len1 len2 c1 c2 : Nat} {l l' : List It} {b : Bool} (hr1 : len1 ≤ 1000000) (hr2 : len2 ≤ 1000000) (hb : sameR m1 l m2 l' = b) {w : World} (h1 : Txs w a1 len1 c1 l) (h2 : Txs w a2 len2 c2 l') :
    Calls Tryd.prog 18 #[.agg #[.int .i64 m1, .slice a1 len1 c1], .agg #[.int .i64 m2, .slice a2 len2 c2]] w (BoolP b w) := by
  have hB1 := Below.new w (.cells #[.int .i64 m1, .slice a1 len1 c1] 24)
  have hN := Below.new (w.alloc (.cells #[.int .i64 m1, .slice a1 len1 c1] 24)) (.cells #[.int .i64 m2, .slice a2 len2 c2] 24)
  have hB2 := below_more hB1 hN
  obtain ⟨p0, p1, _, _⟩ := (R2.new w (.int .i64 m1) (.slice a1 len1 c1) 24).more hN
  have r2 := R2.new (w.alloc (.cells #[.int .i64 m1, .slice a1 len1 c1] 24)) (.int .i64 m2) (.slice a2 len2 c2) 24
  rw [World.size_alloc] at r2
  obtain ⟨q0, q1, _, _⟩ := r2
  obtain ⟨W0, hW0⟩ : ∃ W0, (w.alloc (.cells #[.int .i64 m1, .slice a1 len1 c1] 24)).alloc (.cells #[.int .i64 m2, .slice a2 len2 c2] 24) = W0 := ⟨_, rfl⟩
  rw [hW0] at hB2 p0 p1 q0 q1
  have HE := Lib.hid (texts_any a1 a2 len1 len2 c1 c2 l l' hr1 hr2 W0 (h1.more hB2) (h2.more hB2))
  have HB := Lib.hid (And.intro hB2 hb)
  clear hB1 hB2 hN h1 h2 hb
  by_cases hm : m1 = m2
  · have hd : (m1 == m2) = true := by simp [hm]
    have HV := Lib.hid (show b = sameT l l' by rw [← HB.out.2]; unfold sameR; rw [decide_eq_true hm, Bool.true_and])
    subst hm
    go_enter Tryd.func18, Tryd.ntmps18
    go_wp2_with (go_at_call 32; refine HE.out.mono ?_)
    rintro e w1 ⟨rfl, hb1⟩
    have HB1 := Lib.hid (below_more HB.out.1 hb1)
    clear hb1
    go_wp2
    go_ret
    exact ⟨by rw [HV.out]; rfl, HB1.out⟩
  · have hd : (m1 == m2) = false := by simp [hm]
    have HV := Lib.hid (show b = false by rw [← HB.out.2]; unfold sameR; rw [decide_eq_false hm, Bool.false_and])
    go_enter Tryd.func18, Tryd.ntmps18
    go_wp2
    go_ret
    exact ⟨by rw [HV.out]; rfl, HB.out.1⟩

end Go.Proofs.YtbdhagilmdmpdaaDoor
