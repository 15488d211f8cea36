/- The document's Same, Used, Right. -/
import Derived.Test.YtpaaeojojbdikaaDoorLgLaws
import Derived.Test.YtpaaeojojbdikaaDoorLgRefLab
namespace Go.Proofs.YtpaaeojojbdikaaDoor
open Go.RowKit Go.Proofs.Cats Go.Proofs.Lgr Go.Shelf Go.Sort

set_option maxRecDepth 100000 in
set_option maxHeartbeats 2000000 in
theorem refSame_any (a1 a2 : Option Addr) (len1 len2 c1 c2 : Nat) (l m : List Ln) (hr1 : len1 ≤ 1000000) (hr2 : len2 ≤ 1000000) (w : World) (h1 : Lns w a1 len1 c1 l) (h2 : Lns w a2 len2 c2 m) :
    Calls Tryd.prog 17 #[.slice a1 len1 c1, .slice a2 len2 c2] w (BoolP (sameL l m) w) := by
  have e1 := h1.hlen
  have e2 := h2.hlen
  by_cases hne : len1 = len2
  · subst hne
    have HH := Lib.hid (And.intro h1 (And.intro h2 (And.intro e1 e2)))
    clear h1 h2 e1 e2
    go_enter Tryd.func17, Tryd.ntmps17
    go_wp2
    go_loopw [5] (fun v wr => ∃ k : Nat, k ≤ len1 ∧ v = .int .i64 k ∧ Hid (EqI l m k) ∧ Below w.heap.size w wr) (fun v _ => len1 - (intOf v).toNat)
    case atStart => exact ⟨0, Nat.zero_le _, rfl, (fun j x y hj => absurd hj (by omega)), Below.refl _ _⟩
    case round =>
      obtain ⟨k, hk, rfl, HI, hB⟩ := hrel
      by_cases hlt : k < len1
      · obtain ⟨x, hx⟩ : ∃ x, l[k]? = some x := ⟨_, List.getElem?_eq_getElem (by rw [HH.out.2.2.1]; exact hlt)⟩
        obtain ⟨y, hy⟩ : ∃ y, m[k]? = some y := ⟨_, List.getElem?_eq_getElem (by rw [HH.out.2.2.2]; exact hlt)⟩
        obtain ⟨b1, o1, rfl, hb1, hc1⟩ := HH.out.1.at (by omega)
        obtain ⟨b2, o2, rfl, hb2, hc2⟩ := HH.out.2.1.at (by omega)
        obtain ⟨q0, q1, q2, q3⟩ := (hc1 k x hx).of_block (hB.block b1 hb1)
        obtain ⟨p0, p1, p2, p3⟩ := (hc2 k y hy).of_block (hB.block b2 hb2)
        have hq := neqLn x y
        have HX := Lib.hid (And.intro hx hy)
        clear hx hy hc1 hc2
        cases hs : x.same y with
        | true =>
          rw [hs] at hq
          have HN := Lib.hid (HI.out.next HX.out.1 HX.out.2 hs)
          clear hs
          go_wp2
          go_quiet (fail)
          go_wp2
          go_roundw
          case rel => exact ⟨k + 1, by omega, by simp, HN.out, below_drewN hB _⟩
          case measure => simp [intOf]; omega
        | false =>
          rw [hs] at hq
          have HN := Lib.hid (sameL_at HX.out.1 HX.out.2 hs)
          clear hs
          go_wp2
          go_quiet (fail)
          go_wp2
          go_ret
          exact ⟨by rw [HN.out]; rfl, below_drewN hB _⟩
      · obtain rfl : k = len1 := by omega
        have HN := Lib.hid (sameL_all (HH.out.2.2.1.trans HH.out.2.2.2.symm) (by rw [HH.out.2.2.1]; exact HI.out))
        go_wp2
        go_ret
        exact ⟨by rw [HN.out]; rfl, hB⟩
  · have HN := Lib.hid (sameL_len (l := l) (m := m) (by omega))
    have hd : (((len1 : Nat) : Int) != ((len2 : Nat) : Int)) = true := by simp; omega
    clear h1 h2 e1 e2
    go_enter Tryd.func17, Tryd.ntmps17
    go_wp2
    go_ret
    exact ⟨by rw [HN.out]; rfl, Below.refl _ _⟩
theorem refSame_p {a1 a2 : Option Addr} {len1 len2 c1 c2 : Nat} {l m : List Ln} {b : Bool} (hr1 : len1 ≤ 1000000) (hr2 : len2 ≤ 1000000) (hb : sameL l m = b) {w : World} (h1 : Lns w a1 len1 c1 l) (h2 : Lns w a2 len2 c2 m) :
    Calls Tryd.prog 17 #[.slice a1 len1 c1, .slice a2 len2 c2] w (BoolP b w) := hb ▸ refSame_any a1 a2 len1 len2 c1 c2 l m hr1 hr2 w h1 h2

theorem used_drop {l : List Ln} {k : Nat} {x : Ln} (a : Lab) (h : l[k]? = some x) : usedL (l.drop k) a = if x.a.same a then x.u else usedL (l.drop (k + 1)) a := by
  obtain ⟨hk, rfl⟩ := List.getElem?_eq_some_iff.1 h
  rw [List.drop_eq_getElem_cons hk]
  rfl

set_option maxRecDepth 100000 in
set_option maxHeartbeats 2000000 in
theorem refUsed_any (a : Lab) (ao : Option Addr) (len cap : Nat) (l : List Ln) (hreach : len ≤ 1000000) (w : World) (hL : Lns w ao len cap l) :
    Calls Tryd.prog 16 #[.slice ao len cap, .agg #[.int .i64 a.l, .int .u64 a.c, .int .i64 a.i]] w (IntP (usedL l a) w) := by
  have hB0 := Below.new w (.cells #[.int .i64 a.l, .int .u64 a.c, .int .i64 a.i] 25)
  have hll := hL.hlen
  have HL := Lib.hid (And.intro (hL.more hB0) (And.intro hB0 (And.intro (La3.new w a) hll)))
  clear hL hB0 hll
  go_enter Tryd.func16, Tryd.ntmps16
  go_wp2
  obtain ⟨W0, hW0⟩ : ∃ W0, w.alloc (.cells #[.int .i64 a.l, .int .u64 a.c, .int .i64 a.i] 25) = W0 := ⟨_, rfl⟩
  rw [hW0] at HL ⊢
  go_loopw [5] (fun v wr => ∃ k : Nat, k ≤ len ∧ v = .int .i64 k ∧ Hid (usedL l a = usedL (l.drop k) a) ∧ Below W0.heap.size W0 wr) (fun v _ => len - (intOf v).toNat)
  case atStart => exact ⟨0, Nat.zero_le _, rfl, (by show usedL l a = _; simp), Below.refl _ _⟩
  case round =>
    obtain ⟨k, hk, rfl, HI, hB⟩ := hrel
    by_cases hlt : k < len
    · obtain ⟨x, hx⟩ : ∃ x, l[k]? = some x := ⟨_, List.getElem?_eq_getElem (by rw [HL.out.2.2.2]; exact hlt)⟩
      obtain ⟨b, off, rfl, hb, hcs⟩ := HL.out.1.at (by omega)
      obtain ⟨q0, q1, q2, q3⟩ := (hcs k x hx).of_block (hB.block b hb)
      obtain ⟨a0, a1, a2⟩ := HL.out.2.2.1.more hB
      have hu := used_drop a hx
      have e1 := eqL x.a a
      have e2 := eqInL x.a a
      clear hx hcs
      cases hs : x.a.same a with
      | true =>
        rw [hs] at e1 e2 hu
        have HN := Lib.hid (show usedL l a = x.u from HI.out.trans hu)
        clear hs hu
        go_wp2
        go_quiet (fail)
        go_wp2
        go_ret
        exact ⟨by rw [HN.out]; rfl, below_drewN (below_more HL.out.2.1 hB) _⟩
      | false =>
        rw [hs] at e1 e2 hu
        have HN := Lib.hid (show usedL l a = usedL (l.drop (k + 1)) a from HI.out.trans hu)
        clear hs hu
        go_wp2
        go_quiet (fail)
        go_wp2
        go_roundw
        case rel => exact ⟨k + 1, by omega, by simp, HN.out, below_drewN hB _⟩
        case measure => simp [intOf]; omega
    · obtain rfl : k = len := by omega
      have HN := Lib.hid (show usedL l a = 0 by rw [HI.out, List.drop_eq_nil_of_le (by rw [HL.out.2.2.2]; exact Nat.le_refl _)]; rfl)
      go_wp2
      go_ret
      exact ⟨by rw [HN.out]; rfl, below_more HL.out.2.1 hB⟩
theorem refUsed_p {a1 : Option Addr} {len1 c1 : Nat} {l : List Ln} {a : Lab} {v : Int} (hr1 : len1 ≤ 1000000) (hb : usedL l a = v) {w : World} (h1 : Lns w a1 len1 c1 l) : Calls Tryd.prog 16 #[.slice a1 len1 c1, .agg #[.int .i64 a.l, .int .u64 a.c, .int .i64 a.i]] w (IntP v w) := hb ▸ refUsed_any a a1 len1 c1 l hr1 w h1

end Go.Proofs.YtpaaeojojbdikaaDoor
