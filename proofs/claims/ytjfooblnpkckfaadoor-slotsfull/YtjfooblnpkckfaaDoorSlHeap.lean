/- Package heap over the list. -/
import Derived.Test.YtjfooblnpkckfaaDoorSlMath
namespace Go.Proofs.YtjfooblnpkckfaaDoor
open Go.RowKit Go.Proofs.Slt

/-- The free slots' numbers l, as they lie: the list's slice in the second cell at S, its row at g. -/
def Hv (n0 : Nat) (W : World) (S g c : Nat) (v0 v2 : Value) (l : List Int) : Prop := Obj3 W S v0 (.slice (some ⟨g, 0, none⟩) l.length c) v2 ∧ Row n0 W g c l
theorem Hv.ne {n0 : Nat} {W : World} {S g c : Nat} {v0 v2 : Value} {l : List Int} (h : Hv n0 W S g c v0 v2 l) : g ≠ S := fun e => by
  obtain ⟨_, _, _, cur, hc⟩ := h.2.at
  rw [e, show W.heap[S]? = _ from h.1] at hc
  cases hc
theorem Hv.of_below {n0 : Nat} {W W' : World} {S g c : Nat} {v0 v2 : Value} {l : List Int} (h : Hv n0 W S g c v0 v2 l) (hb : Below W.heap.size W W') : Hv n0 W' S g c v0 v2 l := ⟨h.1.of_block (hb.block _ h.1.lt), h.2.of_block (hb.block _ h.2.lt)⟩
theorem Hv.swapped {n0 : Nat} {W W' : World} {S g c : Nat} {v0 v2 : Value} {l l' : List Int} (h : Hv n0 W S g c v0 v2 l) (hr : Row n0 W' g c l') (hl : l'.length = l.length) (hf : Fr g g g W W') : Hv n0 W' S g c v0 v2 l' :=
  ⟨by rw [hl]; exact h.1.of_block (hf.block _ h.1.lt h.ne.symm h.ne.symm h.ne.symm), hr⟩
theorem Fr.one {a b : Nat} {w w' : World} (h : Fr b b b w w') : Fr a b b w w' := ⟨h.os, h.tape, h.output, h.size, fun k hk _ h2 _ => h.block k hk h2 h2 h2⟩
theorem par_eq (j : Nat) (h : 0 < j) : Int.tdiv ((j : Int) - 1) 2 = (((j - 1) / 2 : Nat) : Int) := by
  obtain ⟨k, rfl⟩ : ∃ k, j = k + 1 := ⟨j - 1, by omega⟩
  rw [show ((k + 1 : Nat) : Int) - 1 = (k : Int) by omega, Nat.add_sub_cancel]
  rfl

/-- What up and down leave. -/
def HpPost (n0 S g c : Nat) (v0 v2 : Value) (l : List Int) (n : Nat) (w w' : World) : Prop := ∃ l', l'.Perm l ∧ Hp l' n ∧ (∀ k, n ≤ k → at_ l' k = at_ l k) ∧ Hv n0 w' S g c v0 v2 l' ∧ Fr S g g w w'

theorem less_n (n : Nat) (n0 g c i j : Nat) (l : List Int) (hn : l.length = n) (w : World) (h : Row n0 w g c l) (hi : i < n) (hj : j < n) :
    Calls Tryd.prog 60 #[.slice (some ⟨g, 0, none⟩) n c, .int .i64 i, .int .i64 j] w fun e w' => e = .returned (.bool (decide (at_ l i < at_ l j))) ∧ Below w.heap.size w w' := by
  subst hn
  exact less_any n0 g c i j l _ _ w h (at_eq hi) (at_eq hj)
theorem swap_n (n : Nat) (n0 g c i j : Nat) (l : List Int) (hn : l.length = n) (w : World) (h : Row n0 w g c l) (hi : i < n) (hj : j < n) :
    Calls Tryd.prog 61 #[.slice (some ⟨g, 0, none⟩) n c, .int .i64 i, .int .i64 j] w fun e w' => (∃ v, e = .returned v) ∧ Row n0 w' g c (swp l i j) ∧ Fr g g g w w' := by
  subst hn
  exact swap_any n0 g c i j l _ _ w h (at_eq hi) (at_eq hj)
theorem Hv.c1 {n0 : Nat} {W : World} {S g c n : Nat} {v0 v2 : Value} {l : List Int} (h : Hv n0 W S g c v0 v2 l) (hn : l.length = n) : W.cell? ⟨S, 1, none⟩ = some (.slice (some ⟨g, 0, none⟩) n c) := by
  subst hn
  exact h.1.c1

/-- up's word between two rounds. -/
def UpI (n0 S g c : Nat) (v0 v2 : Value) (l : List Int) (w : World) (j : Nat) (l' : List Int) (wr : World) : Prop := j < l.length ∧ l'.length = l.length ∧ l'.Perm l ∧ UpOk l' l.length j ∧ Hv n0 wr S g c v0 v2 l' ∧ Fr S g g w wr

set_option maxRecDepth 100000 in
set_option maxHeartbeats 2000000 in
theorem up_any (n0 S g c j0 : Nat) (v0 v2 : Value) (l : List Int) (w : World) (h : Hv n0 w S g c v0 v2 l) (hu : UpOk l l.length j0) (hj : j0 < l.length) (hl : l.length ≤ 1000) :
    Calls Tryd.prog 37 #[.iface 76 (.pointer (some ⟨S, 1, none⟩)), .int .i64 j0] w fun e w' => (∃ u, e = .returned u) ∧ HpPost n0 S g c v0 v2 l l.length w w' := by
  have HH := Lib.hid (And.intro h hu)
  obtain ⟨n, hn⟩ : ∃ n, l.length = n := ⟨_, rfl⟩
  have HN := Lib.hid hn
  have HJ := Lib.hid hj
  rw [hn] at hl
  clear h hu hn hj
  go_enter Tryd.func37, Tryd.ntmps37
  go_wp2
  go_loopw [1] (fun v wr => ∃ (j : Nat) (l' : List Int), v = .int .i64 j ∧ Hid (UpI n0 S g c v0 v2 l w j l' wr)) (fun v _ => (intOf v).toNat)
  case atStart => exact ⟨j0, l, rfl, HJ.out, rfl, List.Perm.refl _, HH.out.2, HH.out.1, Fr.refl _ _ _ _⟩
  case round =>
    obtain ⟨j, l', rfl, HX⟩ := hrel
    have hln : Hid (l'.length = n) := HX.out.2.1.trans HN.out
    have hjn : j < n := by have := HX.out.1; rw [HN.out] at this; exact this
    have c1 := HX.out.2.2.2.2.1.c1 hln.out
    by_cases h0 : j = 0
    · subst h0
      go_wp2
      go_end0
      exact ⟨⟨_, rfl⟩, l', HX.out.2.2.1, HX.out.2.2.2.1.done (fun h => absurd h (by omega)), fun k hk => by rw [HN.out] at hk; simp [at_, hk, hln.out, HN.out], HX.out.2.2.2.2⟩
    · have hpe := par_eq j (by omega)
      obtain ⟨i, hi⟩ : ∃ i, (j - 1) / 2 = i := ⟨_, rfl⟩
      rw [hi] at hpe
      have hij : i < j := by omega
      have hne : ((i : Int) == (j : Int)) = false := by simp; omega
      have HI := Lib.hid hi
      have m1 := mLess S 1 _ wr c1
      clear hi
      obtain ⟨xv, hxv⟩ : ∃ xv, decide (at_ l' j < at_ l' i) = xv := ⟨_, rfl⟩
      have HD := Lib.hid hxv
      clear hxv
      go_wp2_with (go_at_call 60; refine (less_n n n0 g c j i l' hln.out wr HX.out.2.2.2.2.1.2 hjn (by omega)).mono ?_)
      rintro e w1 ⟨he, hb⟩
      rw [HD.out] at he
      subst he
      have hv1 := Lib.hid (HX.out.2.2.2.2.1.of_below hb)
      have hf1 := Lib.hid (HX.out.2.2.2.2.2.trans (Fr.of_below hb))
      cases xv with
      | false =>
        go_wp2
        go_end0
        refine ⟨⟨_, rfl⟩, l', HX.out.2.2.1, HX.out.2.2.2.1.done (fun h => ?_), fun k hk => by rw [HN.out] at hk; simp [at_, hk, hln.out, HN.out], hv1.out, hf1.out⟩
        rw [HI.out]
        have := HD.out
        simp at this
        omega
      | true =>
        have c2 := hv1.out.c1 hln.out
        have m2 := mSwap S 1 _ w1 c2
        clear m1 c1 hb
        go_wp2_with (go_at_call 61; refine (swap_n n n0 g c i j l' hln.out w1 hv1.out.2 (by omega) hjn).mono ?_)
        rintro e w2 ⟨⟨v, rfl⟩, hr, hf⟩
        have hv2 := Lib.hid (hv1.out.swapped hr (swp_length _ _ _) hf)
        have hf2 := Lib.hid (hf1.out.trans hf.one)
        go_wp2
        go_roundw
        case rel =>
          refine ⟨i, swp l' i j, rfl, by rw [HN.out]; omega, (swp_length _ _ _).trans HX.out.2.1, (swp_perm (by rw [hln.out]; omega) (by rw [hln.out]; exact hjn)).trans HX.out.2.2.1, ?_, hv2.out, hf2.out⟩
          have := HX.out.2.2.2.1.step (by omega) HX.out.1 (Nat.le_of_eq HX.out.2.1.symm) (by rw [HI.out]; simpa using HD.out)
          rw [HI.out] at this
          exact this
        case measure => simp [intOf]; omega

end Go.Proofs.YtjfooblnpkckfaaDoor
