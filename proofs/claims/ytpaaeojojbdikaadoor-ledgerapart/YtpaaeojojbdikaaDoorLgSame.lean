/- Same: line by line the same? -/
import Derived.Test.YtpaaeojojbdikaaDoorLgSeen
namespace Go.Proofs.Lgr
theorem sameL_len {l m : List Ln} (h : l.length ≠ m.length) : sameL l m = false := by
  cases e : sameL l m
  · rfl
  · rw [sameL_iff] at e; rw [e] at h; exact absurd rfl h
theorem sameL_at {l m : List Ln} {k : Nat} {x y : Ln} (hx : l[k]? = some x) (hy : m[k]? = some y) (h : x.same y = false) : sameL l m = false := by
  cases e : sameL l m
  · rfl
  · rw [sameL_iff] at e
    subst e
    rw [hx] at hy
    obtain rfl := Option.some.inj hy
    rw [(Ln.same_iff x x).2 rfl] at h
    cases h
theorem sameL_all {l m : List Ln} (hl : l.length = m.length) (h : ∀ j x y, j < l.length → l[j]? = some x → m[j]? = some y → x.same y = true) : sameL l m = true := by
  rw [sameL_iff]
  refine List.ext_getElem hl fun j h1 h2 => ?_
  exact (Ln.same_iff _ _).1 (h j _ _ h1 (List.getElem?_eq_getElem h1) (List.getElem?_eq_getElem h2))
end Go.Proofs.Lgr
namespace Go.Proofs.YtpaaeojojbdikaaDoor
open Go.RowKit Go.Proofs.Cats Go.Proofs.Lgr Go.Shelf Go.Sort

theorem neqLn (x y : Ln) (w : World) : (binOp .neq 43 (.agg #[.int .i64 x.a.l, .int .u64 x.a.c, .int .i64 x.a.i, .int .i64 x.u]) (.agg #[.int .i64 y.a.l, .int .u64 y.a.c, .int .i64 y.a.i, .int .i64 y.u])).run Tryd.prog w = .ok (.bool (!(x.same y))) w := by
  have h := eqInLn x y w
  go_simp

/-- Equal between two rounds. -/
def EqI (l m : List Ln) (k : Nat) : Prop := ∀ j x y, j < k → l[j]? = some x → m[j]? = some y → x.same y = true
theorem EqI.next {l m : List Ln} {k : Nat} {x y : Ln} (h : EqI l m k) (hx : l[k]? = some x) (hy : m[k]? = some y) (hs : x.same y = true) : EqI l m (k + 1) := fun j x' y' hj h1 h2 => by
  by_cases e : j = k
  · subst e
    rw [hx] at h1
    rw [hy] at h2
    obtain rfl := Option.some.inj h1
    obtain rfl := Option.some.inj h2
    exact hs
  · exact h j x' y' (by omega) h1 h2

set_option maxRecDepth 100000 in
set_option maxHeartbeats 4000000 in
theorem equal_any (a1 a2 : Option Addr) (len1 len2 c1 c2 : Nat) (l m : List Ln) (hr1 : len1 ≤ 1000000) (hr2 : len2 ≤ 1000000) (w : World) (h1 : Lns w a1 len1 c1 l) (h2 : Lns w a2 len2 c2 m) :
    Calls Tryd.prog 38 #[.slice a1 len1 c1, .slice a2 len2 c2] w (BoolP (sameL l m) w) := by
  have e1 := h1.hlen
  have e2 := h2.hlen
  by_cases hne : len1 = len2
  · subst hne
    have HH := Lib.hid (And.intro h1 (And.intro h2 (And.intro e1 e2)))
    clear h1 h2 e1 e2
    go_enter Tryd.func38, Tryd.ntmps38
    go_wp2
    go_loopw [13] (fun v wr => ∃ k : Nat, k ≤ len1 ∧ v = .int .i64 k ∧ Hid (EqI l m k) ∧ Below w.heap.size w wr) (fun v _ => len1 - (intOf v).toNat)
    case atStart => exact ⟨0, Nat.zero_le _, rfl, (fun j x y hj => absurd hj (by omega)), Below.refl _ _⟩
    case round =>
      obtain ⟨k, hk, rfl, HI, hB⟩ := hrel
      by_cases hlt : k < len1
      · obtain ⟨x, hx⟩ : ∃ x, l[k]? = some x := ⟨_, List.getElem?_eq_getElem (by rw [HH.out.2.2.1]; exact hlt)⟩
        obtain ⟨y, hy⟩ : ∃ y, m[k]? = some y := ⟨_, List.getElem?_eq_getElem (by rw [HH.out.2.2.2]; exact hlt)⟩
        obtain ⟨b1, o1, rfl, hb1, hc1⟩ := HH.out.1.at (by omega)
        obtain ⟨b2, o2, rfl, hb2, hc2⟩ := HH.out.2.1.at (by omega)
        obtain ⟨q0, q1, q2, q3⟩ := (hc1 k x hx).of_block (hB.block b1 hb1)
        obtain ⟨p0, p1, p2, p3⟩ := (hc2 k y hy).of_block (hB.block b2 hb2)
        have hq := neqLn x y
        have HX := Lib.hid (And.intro hx hy)
        clear hx hy hc1 hc2
        cases hs : x.same y with
        | true =>
          rw [hs] at hq
          have HN := Lib.hid (HI.out.next HX.out.1 HX.out.2 hs)
          clear hs
          go_wp2
          go_quiet (fail)
          go_wp2
          go_roundw
          case rel => exact ⟨k + 1, by omega, by simp, HN.out, below_drewN hB _⟩
          case measure => simp [intOf]; omega
        | false =>
          rw [hs] at hq
          have HN := Lib.hid (sameL_at HX.out.1 HX.out.2 hs)
          clear hs
          go_wp2
          go_quiet (fail)
          go_wp2
          go_ret
          exact ⟨by rw [HN.out]; rfl, below_drewN hB _⟩
      · obtain rfl : k = len1 := by omega
        have HN := Lib.hid (sameL_all (HH.out.2.2.1.trans HH.out.2.2.2.symm) (by rw [HH.out.2.2.1]; exact HI.out))
        go_wp2
        go_ret
        exact ⟨by rw [HN.out]; rfl, hB⟩
  · have HN := Lib.hid (sameL_len (l := l) (m := m) (by omega))
    have hd : (((len1 : Nat) : Int) != ((len2 : Nat) : Int)) = true := by simp; omega
    clear h1 h2 e1 e2
    go_enter Tryd.func38, Tryd.ntmps38
    go_wp2
    go_ret
    exact ⟨by rw [HN.out]; rfl, Below.refl _ _⟩

set_option maxHeartbeats 1000000 in
theorem Same_any (a1 a2 : Option Addr) (len1 len2 c1 c2 : Nat) (l m : List Ln) (hr1 : len1 ≤ 1000000) (hr2 : len2 ≤ 1000000) (w : World) (h1 : Lns w a1 len1 c1 l) (h2 : Lns w a2 len2 c2 m) :
    Calls Tryd.prog 22 #[.slice a1 len1 c1, .slice a2 len2 c2] w (BoolP (sameL l m) w) := by
  have HH := Lib.hid (And.intro h1 h2)
  clear h1 h2
  go_enter Tryd.func22, Tryd.ntmps22
  go_wp2_with (go_at_call 38; refine (equal_any a1 a2 len1 len2 c1 c2 l m hr1 hr2 w HH.out.1 HH.out.2).mono ?_)
  rintro e w1 ⟨rfl, hb⟩
  have HB := Lib.hid hb
  clear hb
  go_wp2
  go_ret
  exact ⟨rfl, HB.out⟩

end Go.Proofs.YtpaaeojojbdikaaDoor
