/- room: how many of the items can be put in, and why no more. -/
import Derived.Test.YtbdhagilmdmpdaaDoorRgIter
namespace Go.Proofs.Rng
/-- Can it be put in? -/
def fitP (m : Int) (p : It × Nat) : Bool := decide (p.1.length ≤ 200) && decide ((p.2 : Int) ≤ m)
/-- What is used behind them. -/
def lastU (u : Nat) (pre : List (It × Nat)) : Nat := match pre.getLast? with
  | none => u
  | some x => x.2
theorem lastU_snoc (u : Nat) (pre : List (It × Nat)) (x : It × Nat) : lastU u (pre ++ [x]) = x.2 := by simp [lastU]
theorem lastU_nil (u : Nat) : lastU u [] = u := rfl
theorem lastU_prs {u k : Nat} {zs : List It} (hk : k ≤ zs.length) : lastU u ((prs u zs).take k) = u + takes (zs.take k) := by
  cases k with
  | zero => simp [lastU, takes]
  | succ k =>
    obtain ⟨x, hx⟩ : ∃ x, zs[k]? = some x := ⟨_, List.getElem?_eq_getElem (by omega)⟩
    rw [prs_next hx, lastU_snoc, takes_next hx]
    omega
theorem fit_prs {m : Int} {u k : Nat} {zs : List It} {x : It} (_hx : zs[k]? = some x) : fitP m (x, u + takes (zs.take k) + x.length + 1) = fitsB m (u + takes (zs.take k)) x := rfl
theorem fitK_of {m : Int} {u k : Nat} {zs : List It} (h : ∀ p ∈ (prs u zs).take k, fitP m p = true) : FitK m u zs k := fun j x hj hx => by
  rw [← fit_prs hx]
  refine h _ (List.mem_iff_getElem?.2 ⟨j, ?_⟩)
  rw [List.getElem?_take, if_pos hj]
  exact prs_get hx
theorem pr_all {m : Int} {u : Nat} {zs : List It} (h : ∀ p ∈ prs u zs, fitP m p = true) : roomN m u zs = zs.length ∧ roomE m u zs = 0 ∧ lastU u (prs u zs) = u + takes zs := by
  have h1 := room_all (fitK_of (k := zs.length) (m := m) (u := u) (fun p hp => h p (List.mem_of_mem_take hp)))
  refine ⟨h1.1, h1.2, ?_⟩
  have := lastU_prs (u := u) (zs := zs) (Nat.le_refl _)
  rw [List.take_of_length_le (by rw [prs_length]; exact Nat.le_refl _), List.take_of_length_le (Nat.le_refl _)] at this
  exact this
theorem pr_stop {m : Int} {u : Nat} {zs : List It} {pre : List (It × Nat)} {x : It × Nat} (hp : pre ++ [x] <+: prs u zs) (h : ∀ p ∈ pre, fitP m p = true) (hx : fitP m x = false) : roomN m u zs = pre.length ∧ (roomE m u zs = if 200 < x.1.length then 1 else 2) ∧ lastU u pre = u + takes (zs.take (roomN m u zs)) := by
  obtain ⟨t, ht⟩ := hp
  have hlen : pre.length < zs.length := by rw [← prs_length u zs, ← ht]; simp
  have e1 : (prs u zs).take pre.length = pre := by rw [← ht, List.append_assoc, List.take_left]
  obtain ⟨y, hy⟩ : ∃ y, zs[pre.length]? = some y := ⟨_, List.getElem?_eq_getElem hlen⟩
  have e2 := prs_get (u := u) hy
  rw [← ht] at e2
  simp at e2
  subst e2
  have hs := room_stop (fitK_of (k := pre.length) (m := m) (u := u) (zs := zs) (by rw [e1]; exact h)) hy (by rw [← fit_prs hy]; exact hx)
  refine ⟨hs.1, hs.2, ?_⟩
  rw [hs.1, ← lastU_prs (Nat.le_of_lt hlen), e1]
end Go.Proofs.Rng
namespace Go.Proofs.YtbdhagilmdmpdaaDoor
open Go.RowKit Go.Proofs.Fld Go.Proofs.Rng Go.Shelf Go.Sort

attribute [local go_sem] Oper.semAt_some

/-- A scope that no goto leaves, at the wide fence. -/
theorem wpIn_scope_wide {n : Nat} {P : Program} {c : Code} {Q : Exit → Act → World → Prop} {a : Act} {w : World} (h : c.wpIn Fence.wide n P (Exit.noGoto Q) a w) : (Code.scope c).wpIn Fence.wide n P Q a w :=
  wpIn_wide.2 (wp_scope_straight (wpIn_wide.1 h))
theorem boxed_keep {A B : World} {row : Option Nat} {b : Nat} {t : TypeId} {v : Value} (h : Boxed A b t v) (hg : A.grownBy B row) (hr : ∀ r, row = some r → ∃ o : Obj, A.heap[r]? = some o ∧ o.isCells = false) : Boxed B b t v :=
  h.kept hg fun e => by
    obtain ⟨o, ho, hc⟩ := hr b e.symm
    rw [show A.heap[b]? = _ from h] at ho
    cases ho
    cases hc
theorem boxed_put {W : World} {b D : Nat} {t : TypeId} {v : Value} {o : Obj} (o' : Obj) (h : Boxed W b t v) (hD : W.heap[D]? = some o) (ho : o.isCells = false) : Boxed (W.putObj D o') b t v :=
  boxed_keep h (grownBy_putObj' W D o') (fun r e => by cases e; exact ⟨o, hD, ho⟩)
theorem boxed_more {A B : World} {b : Nat} {t : TypeId} {v : Value} (h : Boxed A b t v) (k : Below A.heap.size A B) : Boxed B b t v := (k.block b h.lt).trans h
theorem boxed_other {W : World} {b b' : Nat} {t : TypeId} {v x : Value} (h : Boxed W b t v) (hne : b ≠ b') : Boxed (W.setCell ⟨b', 0, none⟩ x) b t v := (Below.heap_setCell _ _ _ _ (fun e => hne e)).trans h

/-- What room tells. -/
def RoomP (s : Sn) (m : Int) (u : Nat) (zs : List It) (w : World) (e : Ending) (w' : World) : Prop :=
  ∃ v t, ErrIs s v (roomE m u zs) ∧ t = u + takes (zs.take (roomN m u zs)) ∧ e = .returned (.tuple #[.int .i64 (roomN m u zs : Int), .int .i64 (t : Int), v]) ∧ Below w.heap.size w w'

/-- room between two rounds: the blocks of n, of what is used, of the error. -/
def RmI (s : Sn) (w : World) (m : Int) (u bn bm be : Nat) (pre : List (It × Nat)) (W : World) : Prop :=
  (Boxed W bn 3 (.int .i64 (pre.length : Int)) ∧ Boxed W bm 3 (.int .i64 (lastU u pre : Int)) ∧ Boxed W be 47 .nilIface ∧ W.cell? ⟨w.heap.size, 0, none⟩ = some (.int .i64 m) ∧ Sent s W ∧ (∀ p ∈ pre, fitP m p = true) ∧ w.heap.size + 6 ≤ W.heap.size) ∧ Below w.heap.size w W
/-- .. when a round has left. -/
def RmX (s : Sn) (w : World) (m : Int) (u bn bm be : Nat) (c : Code) (pre : List (It × Nat)) (W : World) : Prop :=
  (c = .exit 0 ∧ ∃ p x v, pre = p ++ [x] ∧ (∀ y ∈ p, fitP m y = true) ∧ fitP m x = false ∧ ErrIs s v (if 200 < x.1.length then 1 else 2) ∧ Boxed W bn 3 (.int .i64 (p.length : Int)) ∧ Boxed W bm 3 (.int .i64 (lastU u p : Int)) ∧ Boxed W be 47 v) ∧ Below w.heap.size w W

theorem Sent.set_own {s : Sn} {w A : World} {X : Nat} {v : Value} (h : Sent s A) (hb : Sent s w ∧ Below w.heap.size w A) (hX : w.heap.size ≤ X) : Sent s (A.setCell ⟨X, 0, none⟩ v) := by
  have _ := h
  exact hb.1.more (hb.2.setCell (p := ⟨X, 0, none⟩) hX _)
theorem RmI.own {s : Sn} {w : World} {m : Int} {u bn bm be n0 : Nat} (hs : Sent s w) (hn : w.heap.size ≤ n0) : OwnFrom n0 (RmI s w m u bn bm be) := by
  rintro pre A B row ⟨⟨b0, b1, b2, q0, _, hp, hz⟩, hB⟩ hg hr
  have hb := ownFrom_below (β := List (It × Nat)) (n₀ := w.heap.size) (w₀ := w) (Nat.le_refl _) hn pre A B row hB hg hr
  exact ⟨⟨boxed_keep b0 hg (fun r e => (hr r e).2), boxed_keep b1 hg (fun r e => (hr r e).2), boxed_keep b2 hg (fun r e => (hr r e).2), cell_kept q0 hg (fun r e => (hr r e).2), hs.more hb, hp, Nat.le_trans hz hg.size⟩, hb⟩
theorem RmX.own {s : Sn} {w : World} {m : Int} {u bn bm be n0 : Nat} {c : Code} (hn : w.heap.size ≤ n0) : OwnFrom n0 (RmX s w m u bn bm be c) := by
  rintro pre A B row ⟨⟨hc, p, x, v, e1, e2, e3, e4, b0, b1, b2⟩, hB⟩ hg hr
  have hb := ownFrom_below (β := List (It × Nat)) (n₀ := w.heap.size) (w₀ := w) (Nat.le_refl _) hn pre A B row hB hg hr
  exact ⟨⟨hc, p, x, v, e1, e2, e3, e4, boxed_keep b0 hg (fun r e => (hr r e).2), boxed_keep b1 hg (fun r e => (hr r e).2), boxed_keep b2 hg (fun r e => (hr r e).2)⟩, hb⟩
theorem heap_drewN (W : World) (k : Nat) : (W.drewN k).heap = W.heap := by simp
/-- The iterator, and what its boxes hold. -/
def ComingP (u : Nat) (ao : Option Addr) (len cap : Nat) (w : World) (e : Ending) (w' : World) : Prop :=
  e = .returned (.func (.func 41) #[] #[.pointer (some ⟨w.heap.size, 0, none⟩), .pointer (some ⟨w.heap.size + 1, 0, none⟩)]) ∧ w'.cell? ⟨w.heap.size, 2, none⟩ = some (.int .i64 (u : Int)) ∧ w'.cell? ⟨w.heap.size + 1, 0, none⟩ = some (.slice ao len cap) ∧ w'.heap.size = w.heap.size + 2 ∧ Below w.heap.size w w'
theorem comingP (v0 v1 : Value) (u : Nat) (h0 : v0.oneCell' = true) (h1 : v1.oneCell' = true) (ao : Option Addr) (len cap : Nat) (w : World) :
    Calls Tryd.prog 38 #[.agg #[v0, v1, .int .i64 (u : Int)], .slice ao len cap] w (ComingP u ao len cap w) := by
  refine (coming_any v0 v1 (.int .i64 (u : Int)) h0 h1 rfl ao len cap w).mono ?_
  rintro e w' ⟨rfl, rfl⟩
  refine ⟨rfl, ?_, ?_, ?_, ?_⟩
  · go_simp
  · go_simp
  · simp
  · exact (Below.new w _).alloc (by simp) _
theorem Txs.apart3 {w W : World} {ao : Option Addr} {len cap : Nat} {zs : List It} (h : Txs w ao len cap zs) (k : Below w.heap.size w W) {lo hi : Nat} (hX : w.heap.size ≤ lo) : 0 < len → ∀ a, ao = some a → a.block < W.heap.size ∧ (a.block < lo ∨ hi ≤ a.block) := by
  intro hp a e
  obtain ⟨b, off, e', hb, _⟩ := h.at hp
  rw [e] at e'
  obtain rfl := Option.some.inj e'
  have := k.size
  exact ⟨Nat.lt_of_lt_of_le hb this, .inl (Nat.lt_of_lt_of_le hb hX)⟩

set_option maxRecDepth 100000 in
set_option maxHeartbeats 4000000 in
theorem room_in (n : Nat) (hn : 3 ≤ n) (s : Sn) (m : Int) (u : Nat) (vL : Value) (hvL : vL.oneCell' = true) (ao : Option Addr) (len cap : Nat) (zs : List It) (hreach : len ≤ 1000000) (hsum : u + takes zs ≤ 1000000) (w : World) (hL : Txs w ao len cap zs) (hs : Sent s w) :
    CallsIn Fence.wide n Tryd.prog 34 #[.agg #[.int .i64 m, vL, .int .i64 (u : Int)], .slice ao len cap] w (RoomP s m u zs w) := by
  have hn1 : 1 ≤ n := by omega
  refine callsIn_of_wp_marks Tryd.func34 rfl trivial ?_ rfl
  simp only [Tryd.ntmps34, List.size_toArray, List.length_cons, List.length_nil, Nat.reduceAdd, Nat.reduceSub, Array.replicate_succ, Array.replicate_zero, List.push_toArray, List.append_toArray, List.nil_append, List.cons_append]
  have HL := Lib.hid hL
  have HS := Lib.hid hs
  clear hL hs
  gi_wp2
  refine wpIn_scope_wide ?_
  gi_wp2
  refine wpIn_wide.2 ?_
  go_region
  · have hB1 : Below w.heap.size w ((((w.alloc (.cells #[.int .i64 m, vL, .int .i64 (u : Int)] 45)).alloc (.cells #[.int .i64 0] 3)).alloc (.cells #[.int .i64 (u : Int)] 3)).drew) := (((Below.new w _).alloc (by simp) _).alloc (by simp; omega) _).drew
    have x1 : Boxed ((((w.alloc (.cells #[.int .i64 m, vL, .int .i64 (u : Int)] 45)).alloc (.cells #[.int .i64 0] 3)).alloc (.cells #[.int .i64 (u : Int)] 3)).drew) (w.heap.size + 1) 3 (.int .i64 0) := by
      have := (Boxed.new (w.alloc (.cells #[.int .i64 m, vL, .int .i64 (u : Int)] 45)) 3 (.int .i64 0)).alloc (.cells #[.int .i64 (u : Int)] 3)
      rw [World.size_alloc] at this
      exact this
    have x2 : Boxed ((((w.alloc (.cells #[.int .i64 m, vL, .int .i64 (u : Int)] 45)).alloc (.cells #[.int .i64 0] 3)).alloc (.cells #[.int .i64 (u : Int)] 3)).drew) (w.heap.size + 1 + 1) 3 (.int .i64 (u : Int)) := by
      have := Boxed.new ((w.alloc (.cells #[.int .i64 m, vL, .int .i64 (u : Int)] 45)).alloc (.cells #[.int .i64 0] 3)) 3 (.int .i64 (u : Int))
      rw [World.size_alloc, World.size_alloc] at this
      exact this
    have c0 : ((((w.alloc (.cells #[.int .i64 m, vL, .int .i64 (u : Int)] 45)).alloc (.cells #[.int .i64 0] 3)).alloc (.cells #[.int .i64 (u : Int)] 3)).drew).cell? ⟨w.heap.size, 0, none⟩ = some (.int .i64 m) := by rw [World.cell?_drew]; go_simp
    have c1 : ((((w.alloc (.cells #[.int .i64 m, vL, .int .i64 (u : Int)] 45)).alloc (.cells #[.int .i64 0] 3)).alloc (.cells #[.int .i64 (u : Int)] 3)).drew).cell? ⟨w.heap.size, 1, none⟩ = some vL := by rw [World.cell?_drew]; go_simp
    have c2 : ((((w.alloc (.cells #[.int .i64 m, vL, .int .i64 (u : Int)] 45)).alloc (.cells #[.int .i64 0] 3)).alloc (.cells #[.int .i64 (u : Int)] 3)).drew).cell? ⟨w.heap.size, 2, none⟩ = some (.int .i64 (u : Int)) := by rw [World.cell?_drew]; go_simp
    have hz1 : ((((w.alloc (.cells #[.int .i64 m, vL, .int .i64 (u : Int)] 45)).alloc (.cells #[.int .i64 0] 3)).alloc (.cells #[.int .i64 (u : Int)] 3)).drew).heap.size = w.heap.size + 3 := by simp [World.drew]
    obtain ⟨W1, hW1⟩ : ∃ W1, ((((w.alloc (.cells #[.int .i64 m, vL, .int .i64 (u : Int)] 45)).alloc (.cells #[.int .i64 0] 3)).alloc (.cells #[.int .i64 (u : Int)] 3)).drew) = W1 := ⟨_, rfl⟩
    rw [hW1] at hB1 x1 x2 c0 c1 c2 hz1
    have hB2 := Below.new W1 (.cells #[.nilIface] 47)
    have d0 := cell_later hB2 c0
    have d1 := cell_later hB2 c1
    have d2 := cell_later hB2 c2
    have x3 : Boxed (W1.alloc (.cells #[.nilIface] 47)) (w.heap.size + 3) 47 .nilIface := by
      have := Boxed.new W1 47 .nilIface
      rw [hz1] at this
      exact this
    have hz2 : (W1.alloc (.cells #[.nilIface] 47)).heap.size = w.heap.size + 4 := by rw [World.size_alloc, hz1]
    obtain ⟨W2, hW2⟩ : ∃ W2, W1.alloc (.cells #[.nilIface] 47) = W2 := ⟨_, rfl⟩
    have x1' := boxed_more x1 hB2
    have x2' := boxed_more x2 hB2
    have hB3 := below_more hB1 hB2
    rw [hW2] at d0 d1 d2 x3 hz2 x1' x2' hB3
    have HX := Lib.hid (And.intro x1' (And.intro x2' (And.intro x3 (And.intro hz2 hB3))))
    clear hB1 x1 x2 hB2 x1' x2' x3 hB3 c0 c1 c2
    gi_wp2
    refine wpIn_label ?_
    gi_wp2_with (refine ⟨trivial, ?_⟩; gi_at_call 38; refine (callsIn_wide.2 (comingP (.int .i64 m) vL u rfl hvL ao len cap W2)).mono ?_)
    rintro e W0 ⟨rfl, e1, e2, hz0, hb0⟩
    rw [HX.out.2.2.2.1] at e1 e2 hz0
    rw [HX.out.2.2.2.1]
    have HA := Lib.hid (And.intro e1 (And.intro e2 (And.intro hz0 (And.intro (below_more HX.out.2.2.2.2 hb0) (And.intro (boxed_more HX.out.1 hb0) (And.intro (boxed_more HX.out.2.1 hb0) (And.intro (boxed_more HX.out.2.2.1 hb0) (cell_later hb0 d0))))))))
    clear e1 e2 hb0 d0 d1 d2 HX
    gi_wp2
    refine wpIn_rangeFunc_ownG rfl hn1 (gf := 41) (lb := #[.pointer (some ⟨w.heap.size + 4, 0, none⟩), .pointer (some ⟨w.heap.size + 4 + 1, 0, none⟩)]) rfl trivial (enters_of Tryd.func41 (by kernel_rfl) rfl)
      (coming_stops (n - 1) (by omega) (w.heap.size + 1) (w.heap.size + 4) W0.heap.size _ _ u len cap ao zs hreach hsum W0 (Nat.le_refl _) HA.out.1 HA.out.2.1 (HL.out.more HA.out.2.2.2.1) (HL.out.apart3 HA.out.2.2.2.1 (by omega))) KR.trans (krK_b (Nat.le_refl _)) (Below.refl _ _) (fun _ => rfl)
      (RmI s w m u (w.heap.size + 1) (w.heap.size + 1 + 1) (w.heap.size + 3)) (RmX s w m u (w.heap.size + 1) (w.heap.size + 1 + 1) (w.heap.size + 3)) ?hI ?hIx ?h0
      (fun x => { tmps := #[.agg #[.int .i64 m, vL, .int .i64 (u : Int)], .slice ao len cap, .pointer (some ⟨w.heap.size, 0, none⟩), undef, .int .i64 0, .int .i64 0, .nilIface, .pointer (some ⟨w.heap.size + 1, 0, none⟩), .pointer (some ⟨w.heap.size + 1 + 1, 0, none⟩), .pointer (some ⟨w.heap.size + 3, 0, none⟩), .string (bs x.1), .int .i64 (x.2 : Int), .pointer (some ⟨w.heap.size, 2, none⟩), .int .i64 (u : Int), .agg #[.int .i64 m, vL, .int .i64 (u : Int)], .slice ao len cap, .func (.func 41) #[] #[.pointer (some ⟨w.heap.size + 4, 0, none⟩), .pointer (some ⟨w.heap.size + 4 + 1, 0, none⟩)], .string (bs x.1), .int .i64 (x.2 : Int), undef, undef, undef, undef, undef, undef, undef, undef, undef, undef, undef, undef, undef, undef, undef, undef, undef, undef], defers := [] })
      ?assign ?body ?done ?stop
    case hI => exact RmI.own HS.out HA.out.2.2.2.1.size
    case hIx => intro c; exact RmX.own HA.out.2.2.2.1.size
    case h0 => exact ⟨⟨HA.out.2.2.2.2.1, HA.out.2.2.2.2.2.1, HA.out.2.2.2.2.2.2.1, HA.out.2.2.2.2.2.2.2, HS.out.more HA.out.2.2.2.1, (fun y hy => by cases hy), by have := HA.out.2.2.1; omega⟩, HA.out.2.2.2.1⟩
    case assign =>
      intro l x W K hK
      have HK := Lib.hid hK
      clear hK
      simp only [prv]
      gi_wp2
      exact HK.out
    case body =>
      rintro l pre x W ⟨⟨b0, b1, b2, q0, hsW, hp, hz⟩, hB⟩ hlt
      rw [prs_length, HL.out.hlen] at hlt
      have f0 := b0.frozen
      have f1 := b1.frozen
      have f2 := b2.frozen
      have g0 := b0.cell
      have g1 := b1.cell
      have g2 := b2.cell
      have k0 := hsW.cw
      have k1 := hsW.cf
      have hsx := bs_size x.1
      have HP := Lib.hid (And.intro b0 (And.intro b1 (And.intro b2 (And.intro hsW (And.intro hp (And.intro hB q0))))))
      clear b0 b1 b2 hsW hp hB
      by_cases h1 : 200 < x.1.length
      · have hd : decide ((x.1.length : Int) > 200) = true := decide_eq_true (by omega)
        have hfx : fitP m x = false := by unfold fitP; rw [decide_eq_false (by omega)]; rfl
        have HF := Lib.hid hfx
        clear hfx
        gi_wp2
        refine ⟨(KeepsOthers.setCell _ _ _).from _, ⟨rfl, pre, x, _, rfl, HP.out.2.2.2.2.1, HF.out, ?_, boxed_other HP.out.1 (by omega), boxed_other HP.out.2.1 (by omega), HP.out.2.2.1.set _⟩, HP.out.2.2.2.2.2.1.setCell (p := ⟨w.heap.size + 3, 0, none⟩) (by simp) _⟩
        rw [if_pos h1]
        exact .wrong
      · have hd : decide ((x.1.length : Int) > 200) = false := decide_eq_false (by omega)
        by_cases h2 : m < (x.2 : Int)
        · have hd2 : decide ((x.2 : Int) > m) = true := decide_eq_true (by omega)
          have hfx : fitP m x = false := by unfold fitP; rw [decide_eq_false (p := (x.2 : Int) ≤ m) (by omega), Bool.and_false]
          have HF := Lib.hid hfx
          clear hfx
          gi_wp2
          refine ⟨(KeepsOthers.setCell _ _ _).from _, ⟨rfl, pre, x, _, rfl, HP.out.2.2.2.2.1, HF.out, ?_, boxed_other HP.out.1 (by omega), boxed_other HP.out.2.1 (by omega), HP.out.2.2.1.set _⟩, HP.out.2.2.2.2.2.1.setCell (p := ⟨w.heap.size + 3, 0, none⟩) (by simp) _⟩
          rw [if_neg h1]
          exact .full
        · have hd2 : decide ((x.2 : Int) > m) = false := decide_eq_false (by omega)
          have hfx : fitP m x = true := by unfold fitP; rw [decide_eq_true (p := (x.2 : Int) ≤ m) (by omega), decide_eq_true (by omega)]; rfl
          have hwr : IntKind.i64.wrap ((pre.length : Int) + 1) = (pre.length : Int) + 1 := by rw [IntKind.wrap_i64]; omega
          have g3 : (W.setCell ⟨w.heap.size + 1, 0, none⟩ (.int .i64 ((pre.length : Int) + 1))).cell? ⟨w.heap.size + 1 + 1, 0, none⟩ = some (.int .i64 (lastU u pre : Int)) := setO g1 (ne_blk (by omega))
          have f3 : (W.setCell ⟨w.heap.size + 1, 0, none⟩ (.int .i64 ((pre.length : Int) + 1))).frozen? ⟨w.heap.size + 1 + 1, 0, none⟩ = false := setF f1
          have HF := Lib.hid hfx
          clear hfx
          gi_wp2
          refine ⟨((KeepsOthers.setCell _ _ _).trans (KeepsOthers.setCell _ _ _)).from _, (KR.set _ _ _ _ (by omega) (by omega)).trans (KR.set _ _ _ _ (by omega) (by omega)), ⟨?_, ?_, boxed_other (boxed_other HP.out.2.2.1 (by omega)) (by omega), setO (setO HP.out.2.2.2.2.2.2 (ne_blk (by omega))) (ne_blk (by omega)), (HP.out.2.2.2.1.set_own (X := w.heap.size + 1) (w := w) ?_ (by omega)).set_own (X := w.heap.size + 1 + 1) (w := w) ?_ (by omega), ?_, ?_⟩, (HP.out.2.2.2.2.2.1.setCell (p := ⟨w.heap.size + 1, 0, none⟩) (by simp; try omega) _).setCell (p := ⟨w.heap.size + 1 + 1, 0, none⟩) (by simp; try omega) _⟩
          · have := boxed_other (b' := w.heap.size + 1 + 1) (x := .int .i64 (x.2 : Int)) (HP.out.1.set (.int .i64 ((pre.length : Int) + 1))) (by omega)
            simpa using this
          · rw [lastU_snoc]
            exact (boxed_other HP.out.2.1 (by omega)).set _
          · exact ⟨HS.out, HP.out.2.2.2.2.2.1⟩
          · exact ⟨HS.out, HP.out.2.2.2.2.2.1.setCell (p := ⟨w.heap.size + 1, 0, none⟩) (by simp; try omega) _⟩
          · intro y hy
            rcases List.mem_append.1 hy with h | h
            · exact HP.out.2.2.2.2.1 y h
            · obtain rfl : y = x := by simpa using h
              exact HF.out
          · simp [World.setCell]
            omega
    case done =>
      rintro D ys W hD rfl ⟨⟨b0, b1, b2, q0, hsW, hp, hz⟩, hB⟩ hK
      have hpa := pr_all hp
      obtain ⟨t, ht⟩ : ∃ t, u + takes zs = t := ⟨_, rfl⟩
      rw [hpa.2.2, ht] at b1
      rw [prs_length] at b0
      have g0 := b0.cell
      have g1 := b1.cell
      have g2 := b2.cell
      have HU := Lib.hid (And.intro hpa.1 (And.intro hpa.2.1 (And.intro hB (And.intro hK ht))))
      clear hpa ht hp hB hK b0 b1 b2 hsW
      have hD2 : w.heap.size ≤ D := by have := HA.out.2.2.1; omega
      gi_wp2
      refine wpIn_wide.2 ?_
      go_quiet (fail)
      gi_wp2
      rw [Exit.noGoto_ret]
      refine ⟨by simp, .inl ⟨_, _, rfl, run_takeDeferred (by rw [heap_drewN]; exact HU.out.2.2.2.1), ?_⟩⟩
      refine ⟨.tuple #[.int .i64 (zs.length : Int), .int .i64 (t : Int), .nilIface], by simp [results, Tryd.results34, go_sem], .nilIface, t, by rw [HU.out.2.1]; exact .ok, ?_, ?_, ?_⟩
      · rw [HU.out.1, List.take_of_length_le (Nat.le_refl _)]
        exact HU.out.2.2.2.2.symm
      · rw [HU.out.1]
      · exact (below_drewN HU.out.2.2.1 _).trans (belowK_b (w := w) (Nat.le_refl _) _ D _ _ hD2 (by rw [heap_drewN]; exact HU.out.2.2.2.1) rfl rfl)
    case stop =>
      rintro D c pre W hD hpre ⟨⟨rfl, p, x, v, rfl, hp, hxa, hv, b0, b1, b2⟩, hB⟩ hK
      have hps := pr_stop hpre hp hxa
      obtain ⟨t, ht⟩ : ∃ t, u + takes (zs.take (roomN m u zs)) = t := ⟨_, rfl⟩
      rw [hps.2.2, ht] at b1
      have g0 := b0.cell
      have g1 := b1.cell
      have g2 := b2.cell
      have HU := Lib.hid (And.intro hps.1 (And.intro hps.2.1 (And.intro hB (And.intro hK (And.intro hv ht)))))
      clear hps ht hp hB hK b0 b1 b2 hpre hxa hv
      have hD2 : w.heap.size ≤ D := by have := HA.out.2.2.1; omega
      gi_wp2
      refine wpIn_wide.2 ?_
      go_quiet (fail)
      gi_wp2
      rw [Exit.noGoto_ret]
      refine ⟨by simp, .inl ⟨_, _, rfl, run_takeDeferred (by rw [heap_drewN]; exact HU.out.2.2.2.1), ?_⟩⟩
      refine ⟨.tuple #[.int .i64 (p.length : Int), .int .i64 (t : Int), v], by simp [results, Tryd.results34, go_sem], v, t, by rw [HU.out.2.1]; exact HU.out.2.2.2.2.1, HU.out.2.2.2.2.2.symm, ?_, ?_⟩
      · rw [HU.out.1]
      · exact (below_drewN HU.out.2.2.1 _).trans (belowK_b (w := w) (Nat.le_refl _) _ D _ _ hD2 (by rw [heap_drewN]; exact HU.out.2.2.2.1) rfl rfl)
  · have hB1 : Below w.heap.size w ((((w.alloc (.cells #[.int .i64 m, vL, .int .i64 (u : Int)] 45)).alloc (.cells #[.int .i64 (u : Int)] 3)).alloc (.cells #[.int .i64 0] 3)).drew) := (((Below.new w _).alloc (by simp) _).alloc (by simp; omega) _).drew
    have x1 : Boxed ((((w.alloc (.cells #[.int .i64 m, vL, .int .i64 (u : Int)] 45)).alloc (.cells #[.int .i64 (u : Int)] 3)).alloc (.cells #[.int .i64 0] 3)).drew) (w.heap.size + 1) 3 (.int .i64 (u : Int)) := by
      have := (Boxed.new (w.alloc (.cells #[.int .i64 m, vL, .int .i64 (u : Int)] 45)) 3 (.int .i64 (u : Int))).alloc (.cells #[.int .i64 0] 3)
      rw [World.size_alloc] at this
      exact this
    have x2 : Boxed ((((w.alloc (.cells #[.int .i64 m, vL, .int .i64 (u : Int)] 45)).alloc (.cells #[.int .i64 (u : Int)] 3)).alloc (.cells #[.int .i64 0] 3)).drew) (w.heap.size + 1 + 1) 3 (.int .i64 0) := by
      have := Boxed.new ((w.alloc (.cells #[.int .i64 m, vL, .int .i64 (u : Int)] 45)).alloc (.cells #[.int .i64 (u : Int)] 3)) 3 (.int .i64 0)
      rw [World.size_alloc, World.size_alloc] at this
      exact this
    have c0 : ((((w.alloc (.cells #[.int .i64 m, vL, .int .i64 (u : Int)] 45)).alloc (.cells #[.int .i64 (u : Int)] 3)).alloc (.cells #[.int .i64 0] 3)).drew).cell? ⟨w.heap.size, 0, none⟩ = some (.int .i64 m) := by rw [World.cell?_drew]; go_simp
    have c1 : ((((w.alloc (.cells #[.int .i64 m, vL, .int .i64 (u : Int)] 45)).alloc (.cells #[.int .i64 (u : Int)] 3)).alloc (.cells #[.int .i64 0] 3)).drew).cell? ⟨w.heap.size, 1, none⟩ = some vL := by rw [World.cell?_drew]; go_simp
    have c2 : ((((w.alloc (.cells #[.int .i64 m, vL, .int .i64 (u : Int)] 45)).alloc (.cells #[.int .i64 (u : Int)] 3)).alloc (.cells #[.int .i64 0] 3)).drew).cell? ⟨w.heap.size, 2, none⟩ = some (.int .i64 (u : Int)) := by rw [World.cell?_drew]; go_simp
    have hz1 : ((((w.alloc (.cells #[.int .i64 m, vL, .int .i64 (u : Int)] 45)).alloc (.cells #[.int .i64 (u : Int)] 3)).alloc (.cells #[.int .i64 0] 3)).drew).heap.size = w.heap.size + 3 := by simp [World.drew]
    obtain ⟨W1, hW1⟩ : ∃ W1, ((((w.alloc (.cells #[.int .i64 m, vL, .int .i64 (u : Int)] 45)).alloc (.cells #[.int .i64 (u : Int)] 3)).alloc (.cells #[.int .i64 0] 3)).drew) = W1 := ⟨_, rfl⟩
    rw [hW1] at hB1 x1 x2 c0 c1 c2 hz1
    have hB2 := Below.new W1 (.cells #[.nilIface] 47)
    have d0 := cell_later hB2 c0
    have d1 := cell_later hB2 c1
    have d2 := cell_later hB2 c2
    have x3 : Boxed (W1.alloc (.cells #[.nilIface] 47)) (w.heap.size + 3) 47 .nilIface := by
      have := Boxed.new W1 47 .nilIface
      rw [hz1] at this
      exact this
    have hz2 : (W1.alloc (.cells #[.nilIface] 47)).heap.size = w.heap.size + 4 := by rw [World.size_alloc, hz1]
    obtain ⟨W2, hW2⟩ : ∃ W2, W1.alloc (.cells #[.nilIface] 47) = W2 := ⟨_, rfl⟩
    have x1' := boxed_more x1 hB2
    have x2' := boxed_more x2 hB2
    have hB3 := below_more hB1 hB2
    rw [hW2] at d0 d1 d2 x3 hz2 x1' x2' hB3
    have HX := Lib.hid (And.intro x1' (And.intro x2' (And.intro x3 (And.intro hz2 hB3))))
    clear hB1 x1 x2 hB2 x1' x2' x3 hB3 c0 c1 c2
    gi_wp2
    refine wpIn_label ?_
    gi_wp2_with (refine ⟨trivial, ?_⟩; gi_at_call 38; refine (callsIn_wide.2 (comingP (.int .i64 m) vL u rfl hvL ao len cap W2)).mono ?_)
    rintro e W0 ⟨rfl, e1, e2, hz0, hb0⟩
    rw [HX.out.2.2.2.1] at e1 e2 hz0
    rw [HX.out.2.2.2.1]
    have HA := Lib.hid (And.intro e1 (And.intro e2 (And.intro hz0 (And.intro (below_more HX.out.2.2.2.2 hb0) (And.intro (boxed_more HX.out.1 hb0) (And.intro (boxed_more HX.out.2.1 hb0) (And.intro (boxed_more HX.out.2.2.1 hb0) (cell_later hb0 d0))))))))
    clear e1 e2 hb0 d0 d1 d2 HX
    gi_wp2
    refine wpIn_rangeFunc_ownG rfl hn1 (gf := 41) (lb := #[.pointer (some ⟨w.heap.size + 4, 0, none⟩), .pointer (some ⟨w.heap.size + 4 + 1, 0, none⟩)]) rfl trivial (enters_of Tryd.func41 (by kernel_rfl) rfl)
      (coming_stops (n - 1) (by omega) (w.heap.size + 1) (w.heap.size + 4) W0.heap.size _ _ u len cap ao zs hreach hsum W0 (Nat.le_refl _) HA.out.1 HA.out.2.1 (HL.out.more HA.out.2.2.2.1) (HL.out.apart3 HA.out.2.2.2.1 (by omega))) KR.trans (krK_b (Nat.le_refl _)) (Below.refl _ _) (fun _ => rfl)
      (RmI s w m u (w.heap.size + 1 + 1) (w.heap.size + 1) (w.heap.size + 3)) (RmX s w m u (w.heap.size + 1 + 1) (w.heap.size + 1) (w.heap.size + 3)) ?hI ?hIx ?h0
      (fun x => { tmps := #[.agg #[.int .i64 m, vL, .int .i64 (u : Int)], .slice ao len cap, .pointer (some ⟨w.heap.size, 0, none⟩), undef, .int .i64 0, .int .i64 0, .nilIface, .pointer (some ⟨w.heap.size + 1 + 1, 0, none⟩), .pointer (some ⟨w.heap.size + 1, 0, none⟩), .pointer (some ⟨w.heap.size + 3, 0, none⟩), .string (bs x.1), .int .i64 (x.2 : Int), .pointer (some ⟨w.heap.size, 2, none⟩), .int .i64 (u : Int), .agg #[.int .i64 m, vL, .int .i64 (u : Int)], .slice ao len cap, .func (.func 41) #[] #[.pointer (some ⟨w.heap.size + 4, 0, none⟩), .pointer (some ⟨w.heap.size + 4 + 1, 0, none⟩)], .string (bs x.1), .int .i64 (x.2 : Int), undef, undef, undef, undef, undef, undef, undef, undef, undef, undef, undef, undef, undef, undef, undef, undef, undef, undef], defers := [] })
      ?assign ?body ?done ?stop
    case hI => exact RmI.own HS.out HA.out.2.2.2.1.size
    case hIx => intro c; exact RmX.own HA.out.2.2.2.1.size
    case h0 => exact ⟨⟨HA.out.2.2.2.2.2.1, HA.out.2.2.2.2.1, HA.out.2.2.2.2.2.2.1, HA.out.2.2.2.2.2.2.2, HS.out.more HA.out.2.2.2.1, (fun y hy => by cases hy), by have := HA.out.2.2.1; omega⟩, HA.out.2.2.2.1⟩
    case assign =>
      intro l x W K hK
      have HK := Lib.hid hK
      clear hK
      simp only [prv]
      gi_wp2
      exact HK.out
    case body =>
      rintro l pre x W ⟨⟨b0, b1, b2, q0, hsW, hp, hz⟩, hB⟩ hlt
      rw [prs_length, HL.out.hlen] at hlt
      have f0 := b0.frozen
      have f1 := b1.frozen
      have f2 := b2.frozen
      have g0 := b0.cell
      have g1 := b1.cell
      have g2 := b2.cell
      have k0 := hsW.cw
      have k1 := hsW.cf
      have hsx := bs_size x.1
      have HP := Lib.hid (And.intro b0 (And.intro b1 (And.intro b2 (And.intro hsW (And.intro hp (And.intro hB q0))))))
      clear b0 b1 b2 hsW hp hB
      by_cases h1 : 200 < x.1.length
      · have hd : decide ((x.1.length : Int) > 200) = true := decide_eq_true (by omega)
        have hfx : fitP m x = false := by unfold fitP; rw [decide_eq_false (by omega)]; rfl
        have HF := Lib.hid hfx
        clear hfx
        gi_wp2
        refine ⟨(KeepsOthers.setCell _ _ _).from _, ⟨rfl, pre, x, _, rfl, HP.out.2.2.2.2.1, HF.out, ?_, boxed_other HP.out.1 (by omega), boxed_other HP.out.2.1 (by omega), HP.out.2.2.1.set _⟩, HP.out.2.2.2.2.2.1.setCell (p := ⟨w.heap.size + 3, 0, none⟩) (by simp) _⟩
        rw [if_pos h1]
        exact .wrong
      · have hd : decide ((x.1.length : Int) > 200) = false := decide_eq_false (by omega)
        by_cases h2 : m < (x.2 : Int)
        · have hd2 : decide ((x.2 : Int) > m) = true := decide_eq_true (by omega)
          have hfx : fitP m x = false := by unfold fitP; rw [decide_eq_false (p := (x.2 : Int) ≤ m) (by omega), Bool.and_false]
          have HF := Lib.hid hfx
          clear hfx
          gi_wp2
          refine ⟨(KeepsOthers.setCell _ _ _).from _, ⟨rfl, pre, x, _, rfl, HP.out.2.2.2.2.1, HF.out, ?_, boxed_other HP.out.1 (by omega), boxed_other HP.out.2.1 (by omega), HP.out.2.2.1.set _⟩, HP.out.2.2.2.2.2.1.setCell (p := ⟨w.heap.size + 3, 0, none⟩) (by simp) _⟩
          rw [if_neg h1]
          exact .full
        · have hd2 : decide ((x.2 : Int) > m) = false := decide_eq_false (by omega)
          have hfx : fitP m x = true := by unfold fitP; rw [decide_eq_true (p := (x.2 : Int) ≤ m) (by omega), decide_eq_true (by omega)]; rfl
          have hwr : IntKind.i64.wrap ((pre.length : Int) + 1) = (pre.length : Int) + 1 := by rw [IntKind.wrap_i64]; omega
          have g3 : (W.setCell ⟨w.heap.size + 1 + 1, 0, none⟩ (.int .i64 ((pre.length : Int) + 1))).cell? ⟨w.heap.size + 1, 0, none⟩ = some (.int .i64 (lastU u pre : Int)) := setO g1 (ne_blk (by omega))
          have f3 : (W.setCell ⟨w.heap.size + 1 + 1, 0, none⟩ (.int .i64 ((pre.length : Int) + 1))).frozen? ⟨w.heap.size + 1, 0, none⟩ = false := setF f1
          have HF := Lib.hid hfx
          clear hfx
          gi_wp2
          refine ⟨((KeepsOthers.setCell _ _ _).trans (KeepsOthers.setCell _ _ _)).from _, (KR.set _ _ _ _ (by omega) (by omega)).trans (KR.set _ _ _ _ (by omega) (by omega)), ⟨?_, ?_, boxed_other (boxed_other HP.out.2.2.1 (by omega)) (by omega), setO (setO HP.out.2.2.2.2.2.2 (ne_blk (by omega))) (ne_blk (by omega)), (HP.out.2.2.2.1.set_own (X := w.heap.size + 1 + 1) (w := w) ?_ (by omega)).set_own (X := w.heap.size + 1) (w := w) ?_ (by omega), ?_, ?_⟩, (HP.out.2.2.2.2.2.1.setCell (p := ⟨w.heap.size + 1 + 1, 0, none⟩) (by simp; try omega) _).setCell (p := ⟨w.heap.size + 1, 0, none⟩) (by simp; try omega) _⟩
          · have := boxed_other (b' := w.heap.size + 1) (x := .int .i64 (x.2 : Int)) (HP.out.1.set (.int .i64 ((pre.length : Int) + 1))) (by omega)
            simpa using this
          · rw [lastU_snoc]
            exact (boxed_other HP.out.2.1 (by omega)).set _
          · exact ⟨HS.out, HP.out.2.2.2.2.2.1⟩
          · exact ⟨HS.out, HP.out.2.2.2.2.2.1.setCell (p := ⟨w.heap.size + 1 + 1, 0, none⟩) (by simp; try omega) _⟩
          · intro y hy
            rcases List.mem_append.1 hy with h | h
            · exact HP.out.2.2.2.2.1 y h
            · obtain rfl : y = x := by simpa using h
              exact HF.out
          · simp [World.setCell]
            omega
    case done =>
      rintro D ys W hD rfl ⟨⟨b0, b1, b2, q0, hsW, hp, hz⟩, hB⟩ hK
      have hpa := pr_all hp
      obtain ⟨t, ht⟩ : ∃ t, u + takes zs = t := ⟨_, rfl⟩
      rw [hpa.2.2, ht] at b1
      rw [prs_length] at b0
      have g0 := b0.cell
      have g1 := b1.cell
      have g2 := b2.cell
      have HU := Lib.hid (And.intro hpa.1 (And.intro hpa.2.1 (And.intro hB (And.intro hK ht))))
      clear hpa ht hp hB hK b0 b1 b2 hsW
      have hD2 : w.heap.size ≤ D := by have := HA.out.2.2.1; omega
      gi_wp2
      refine wpIn_wide.2 ?_
      go_quiet (fail)
      gi_wp2
      rw [Exit.noGoto_ret]
      refine ⟨by simp, .inl ⟨_, _, rfl, run_takeDeferred (by rw [heap_drewN]; exact HU.out.2.2.2.1), ?_⟩⟩
      refine ⟨.tuple #[.int .i64 (zs.length : Int), .int .i64 (t : Int), .nilIface], by simp [results, Tryd.results34, go_sem], .nilIface, t, by rw [HU.out.2.1]; exact .ok, ?_, ?_, ?_⟩
      · rw [HU.out.1, List.take_of_length_le (Nat.le_refl _)]
        exact HU.out.2.2.2.2.symm
      · rw [HU.out.1]
      · exact (below_drewN HU.out.2.2.1 _).trans (belowK_b (w := w) (Nat.le_refl _) _ D _ _ hD2 (by rw [heap_drewN]; exact HU.out.2.2.2.1) rfl rfl)
    case stop =>
      rintro D c pre W hD hpre ⟨⟨rfl, p, x, v, rfl, hp, hxa, hv, b0, b1, b2⟩, hB⟩ hK
      have hps := pr_stop hpre hp hxa
      obtain ⟨t, ht⟩ : ∃ t, u + takes (zs.take (roomN m u zs)) = t := ⟨_, rfl⟩
      rw [hps.2.2, ht] at b1
      have g0 := b0.cell
      have g1 := b1.cell
      have g2 := b2.cell
      have HU := Lib.hid (And.intro hps.1 (And.intro hps.2.1 (And.intro hB (And.intro hK (And.intro hv ht)))))
      clear hps ht hp hB hK b0 b1 b2 hpre hxa hv
      have hD2 : w.heap.size ≤ D := by have := HA.out.2.2.1; omega
      gi_wp2
      refine wpIn_wide.2 ?_
      go_quiet (fail)
      gi_wp2
      rw [Exit.noGoto_ret]
      refine ⟨by simp, .inl ⟨_, _, rfl, run_takeDeferred (by rw [heap_drewN]; exact HU.out.2.2.2.1), ?_⟩⟩
      refine ⟨.tuple #[.int .i64 (p.length : Int), .int .i64 (t : Int), v], by simp [results, Tryd.results34, go_sem], v, t, by rw [HU.out.2.1]; exact HU.out.2.2.2.2.1, HU.out.2.2.2.2.2.symm, ?_, ?_⟩
      · rw [HU.out.1]
      · exact (below_drewN HU.out.2.2.1 _).trans (belowK_b (w := w) (Nat.le_refl _) _ D _ _ hD2 (by rw [heap_drewN]; exact HU.out.2.2.2.1) rfl rfl)

end Go.Proofs.YtbdhagilmdmpdaaDoor
