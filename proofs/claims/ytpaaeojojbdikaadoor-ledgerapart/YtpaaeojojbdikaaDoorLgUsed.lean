/- of, under, all: the iterators made; used: what the first line of a label has. -/
import Derived.Test.YtpaaeojojbdikaaDoorLgIter
namespace Go.Proofs.YtpaaeojojbdikaaDoor
open Go.RowKit Go.Proofs.Cats Go.Proofs.Lgr Go.Shelf Go.Sort

attribute [local go_sem] Oper.semAt_some

theorem keeps_below {W W1 : World} (h : Below W.heap.size W W1) : KeepsOthers W W1 := KeepsOthers.of_grownBy (below_grown h) (fun j o e _ => by cases e)
set_option maxHeartbeats 1000000 in
theorem where_any (f : Nat) (pc : Array Value) (ao : Option Addr) (len cap : Nat) (w : World) :
    Calls Tryd.prog 48 #[.slice ao len cap, .func (.func f) #[] pc] w fun e w' => e = .returned (.func (.func 59) #[] #[.pointer (some ⟨w.heap.size, 0, none⟩), .pointer (some ⟨w.heap.size + 1, 0, none⟩)]) ∧ (w.alloc (.cells #[.slice ao len cap] 51)).alloc (.cells #[.func (.func f) #[] pc] 71) = w' := by
  go_enter Tryd.func48, Tryd.ntmps48
  go_wp2
  go_ret
  exact ⟨rfl, rfl⟩

/-- What of, under tell: the iterator, and what its boxes hold. -/
def MadeP (f : Nat) (a : Lab) (ao : Option Addr) (len cap : Nat) (w : World) (e : Ending) (w' : World) : Prop :=
  e = .returned (.func (.func 59) #[] #[.pointer (some ⟨w.heap.size + 1, 0, none⟩), .pointer (some ⟨w.heap.size + 1 + 1, 0, none⟩)]) ∧ La3 w' w.heap.size a ∧ w'.cell? ⟨w.heap.size + 1, 0, none⟩ = some (.slice ao len cap) ∧ w'.cell? ⟨w.heap.size + 1 + 1, 0, none⟩ = some (.func (.func f) #[] #[.pointer (some ⟨w.heap.size, 0, none⟩)]) ∧ w'.heap.size = w.heap.size + 3 ∧ Below w.heap.size w w'
theorem made_at (f : Nat) (a : Lab) (ao : Option Addr) (len cap : Nat) (w : World) : MadeP f a ao len cap w (.returned (.func (.func 59) #[] #[.pointer (some ⟨w.heap.size + 1, 0, none⟩), .pointer (some ⟨w.heap.size + 1 + 1, 0, none⟩)])) (((w.alloc (.cells #[.int .i64 a.l, .int .u64 a.c, .int .i64 a.i] 25)).alloc (.cells #[.slice ao len cap] 51)).alloc (.cells #[.func (.func f) #[] #[.pointer (some ⟨w.heap.size, 0, none⟩)]] 71)) := by
  refine ⟨rfl, ⟨?_, ?_, ?_⟩, ?_, ?_, ?_, ?_⟩
  · go_simp
  · go_simp
  · go_simp
  · go_simp
  · go_simp
  · simp
  · exact ((Below.new w _).alloc (by simp) _).alloc (by simp; omega) _
set_option maxHeartbeats 1000000 in
theorem lnOf_any (a : Lab) (ao : Option Addr) (len cap : Nat) (w : World) :
    Calls Tryd.prog 46 #[.slice ao len cap, .agg #[.int .i64 a.l, .int .u64 a.c, .int .i64 a.i]] w (MadeP 58 a ao len cap w) := by
  have H := Lib.hid (made_at 58 a ao len cap w)
  go_enter Tryd.func46, Tryd.ntmps46
  go_wp2_with (go_at_call 48; refine (where_any 58 _ ao len cap _).mono ?_; rintro e w' ⟨rfl, rfl⟩)
  go_ret
  exact H.out
set_option maxHeartbeats 1000000 in
theorem lnUnder_any (a : Lab) (ao : Option Addr) (len cap : Nat) (w : World) :
    Calls Tryd.prog 35 #[.slice ao len cap, .agg #[.int .i64 a.l, .int .u64 a.c, .int .i64 a.i]] w (MadeP 49 a ao len cap w) := by
  have H := Lib.hid (made_at 49 a ao len cap w)
  go_enter Tryd.func35, Tryd.ntmps35
  go_wp2_with (go_at_call 48; refine (where_any 49 _ ao len cap _).mono ?_; rintro e w' ⟨rfl, rfl⟩)
  go_ret
  exact H.out
/-- What all tells. -/
def MadeA (ao : Option Addr) (len cap : Nat) (w : World) (e : Ending) (w' : World) : Prop :=
  e = .returned (.func (.func 59) #[] #[.pointer (some ⟨w.heap.size, 0, none⟩), .pointer (some ⟨w.heap.size + 1, 0, none⟩)]) ∧ w'.cell? ⟨w.heap.size, 0, none⟩ = some (.slice ao len cap) ∧ w'.cell? ⟨w.heap.size + 1, 0, none⟩ = some (.func (.func 51) #[] #[]) ∧ w'.heap.size = w.heap.size + 2 ∧ Below w.heap.size w w'
theorem madeA_at (ao : Option Addr) (len cap : Nat) (w : World) : MadeA ao len cap w (.returned (.func (.func 59) #[] #[.pointer (some ⟨w.heap.size, 0, none⟩), .pointer (some ⟨w.heap.size + 1, 0, none⟩)])) ((w.alloc (.cells #[.slice ao len cap] 51)).alloc (.cells #[.func (.func 51) #[] #[]] 71)) := by
  refine ⟨rfl, ?_, ?_, ?_, ?_⟩
  · go_simp
  · go_simp
  · simp
  · exact (Below.new w _).alloc (by simp) _
set_option maxHeartbeats 1000000 in
theorem lnAll_any (ao : Option Addr) (len cap : Nat) (w : World) :
    Calls Tryd.prog 37 #[.slice ao len cap] w (MadeA ao len cap w) := by
  have H := Lib.hid (madeA_at ao len cap w)
  go_enter Tryd.func37, Tryd.ntmps37
  go_wp2_with (go_at_call 48; refine (where_any 51 _ ao len cap _).mono ?_; rintro e w' ⟨rfl, rfl⟩)
  go_ret
  exact H.out

theorem used_first {l : List Ln} {a : Lab} {x : Ln} {t : List Ln} (h : l.filter (fun x => x.a.same a) = x :: t) : usedL l a = x.u := by
  induction l with
  | nil => simp at h
  | cons y r ih =>
    unfold usedL
    rw [List.filter_cons] at h
    cases e : y.a.same a
    · rw [e] at h
      exact ih h
    · rw [e] at h
      simp only [if_true, List.cons.injEq] at h
      rw [h.1]
      rfl
theorem used_none {l : List Ln} {a : Lab} (h : l.filter (fun x => x.a.same a) = []) : usedL l a = 0 := by
  refine used_zero fun x hx e => ?_
  have := List.filter_eq_nil_iff.1 h x hx
  subst e
  rw [same_refl] at this
  exact this rfl

theorem boxed_keep {A B : World} {row : Option Nat} {b : Nat} {t : TypeId} {v : Value} (h : Boxed A b t v) (hg : A.grownBy B row) (hr : ∀ r, row = some r → ∃ o : Obj, A.heap[r]? = some o ∧ o.isCells = false) : Boxed B b t v :=
  h.kept hg fun e => by
    obtain ⟨o, ho, hc⟩ := hr b e.symm
    rw [show A.heap[b]? = _ from h] at ho
    cases ho
    cases hc
theorem boxed_put {W : World} {b D : Nat} {t : TypeId} {v : Value} {o : Obj} (o' : Obj) (h : Boxed W b t v) (hD : W.heap[D]? = some o) (ho : o.isCells = false) : Boxed (W.putObj D o') b t v :=
  boxed_keep h (grownBy_putObj' W D o') (fun r e => by cases e; exact ⟨o, hD, ho⟩)
theorem boxed_more {A B : World} {b : Nat} {t : TypeId} {v : Value} (h : Boxed A b t v) (k : Below A.heap.size A B) : Boxed B b t v := (k.block b h.lt).trans h
/-- used between two rounds: there has been none. -/
def UsI (w : World) (pre : List Ln) (W : World) : Prop := (pre = [] ∧ (∃ v, Boxed W (w.heap.size + 1) 3 v) ∧ w.heap.size + 5 ≤ W.heap.size) ∧ Below w.heap.size w W
/-- .. when a round has left. -/
def UsX (w : World) (c : Code) (pre : List Ln) (W : World) : Prop := (c = .ret ∧ ∃ x, pre = [x] ∧ Boxed W (w.heap.size + 1) 3 (.int .i64 x.u)) ∧ Below w.heap.size w W
/-- It tells a number. -/
def IntP (v : Int) (w : World) (e : Ending) (w' : World) : Prop := e = .returned (.int .i64 v) ∧ Below w.heap.size w w'

set_option maxRecDepth 100000 in
set_option maxHeartbeats 4000000 in
theorem used_in (n : Nat) (hn : 3 ≤ n) (a : Lab) (ao : Option Addr) (len cap : Nat) (zs : List Ln) (hreach : len ≤ 1000000) (w : World) (hL : Lns w ao len cap zs) :
    CallsIn Fence.wide n Tryd.prog 33 #[.slice ao len cap, .agg #[.int .i64 a.l, .int .u64 a.c, .int .i64 a.i]] w (IntP (usedL zs a) w) := by
  have hn1 : 1 ≤ n := by omega
  refine callsIn_of_wp_marks Tryd.func33 rfl trivial ?_ rfl
  simp only [Tryd.ntmps33, List.size_toArray, List.length_cons, List.length_nil, Nat.reduceAdd, Nat.reduceSub, Array.replicate_succ, Array.replicate_zero, List.push_toArray, List.append_toArray, List.nil_append, List.cons_append]
  have HL := Lib.hid hL
  clear hL
  gi_wp2_with (refine ⟨trivial, ?_⟩; gi_at_call 46; refine (callsIn_wide.2 (lnOf_any a ao len cap _)).mono ?_)
  rintro e W0 ⟨rfl, hA, hc1, hc2, hz0, hb0⟩
  simp only [World.size_alloc] at hA hc1 hc2 hz0
  have hBi : Below w.heap.size w ((w.alloc (.cells #[.int .i64 a.l, .int .u64 a.c, .int .i64 a.i] 25)).alloc (.cells #[.int .i64 0] 3)) := (Below.new w _).alloc (by simp) _
  have hr0 : Boxed W0 (w.heap.size + 1) 3 (.int .i64 0) := by
    have := boxed_more (Boxed.new (w.alloc (.cells #[.int .i64 a.l, .int .u64 a.c, .int .i64 a.i] 25)) 3 (.int .i64 0)) hb0
    simpa using this
  have hB0 := below_more hBi hb0
  have HA := Lib.hid (And.intro hA (And.intro hc1 (And.intro hc2 (And.intro hz0 hB0))))
  clear hBi hb0 hA hc1 hc2 hB0
  gi_wp2
  refine wpIn_rangeFunc_ownH rfl hn1 (gf := 59) (lb := #[.pointer (some ⟨w.heap.size + 1 + 1 + 1, 0, none⟩), .pointer (some ⟨w.heap.size + 1 + 1 + 1 + 1, 0, none⟩)]) rfl trivial (enters_of Tryd.func59 (by kernel_rfl) rfl)
    (of_stops (n - 1) (by omega) (w.heap.size + 1 + 1) (w.heap.size + 1) W0.heap.size _ _ len cap ao a zs hreach W0 (Nat.le_refl _) HA.out.2.1 HA.out.2.2.1 (by omega) (by omega) HA.out.1 (by omega) (by omega) (HL.out.more HA.out.2.2.2.2) (HL.out.apart HA.out.2.2.2.2 (by omega))) KX.trans (kxK_b (Nat.le_refl _)) (Below.refl _ _) (fun _ => rfl)
    (UsI w) (UsX w) ?hI ?hIx ?h0
    (fun x a' W => ∃ Bx, W.cell? ⟨Bx, 3, none⟩ = some (.int .i64 x.u) ∧ a' = { tmps := #[.slice ao len cap, .agg #[.int .i64 a.l, .int .u64 a.c, .int .i64 a.i], undef, .pointer (some ⟨w.heap.size, 0, none⟩), .pointer (some ⟨w.heap.size + 1, 0, none⟩), .pointer (some ⟨Bx, 0, none⟩), .slice ao len cap, .agg #[.int .i64 a.l, .int .u64 a.c, .int .i64 a.i], .func (.func 59) #[] #[.pointer (some ⟨w.heap.size + 1 + 1 + 1, 0, none⟩), .pointer (some ⟨w.heap.size + 1 + 1 + 1 + 1, 0, none⟩)], .agg #[.int .i64 x.a.l, .int .u64 x.a.c, .int .i64 x.a.i, .int .i64 x.u], undef, undef], defers := [] })
    ?hAx ?assign ?body ?done ?stop
  case hI =>
    exact OwnFrom.and (Own.from (fun s A B row hs hg hr => ⟨hs.1, ⟨_, boxed_keep hs.2.1.choose_spec hg hr⟩, Nat.le_trans hs.2.2 hg.size⟩) _) (ownFrom_below (Nat.le_refl _) HA.out.2.2.2.2.size)
  case hIx =>
    intro c s A B row hs hg hr
    obtain ⟨⟨hc, x, hx, h1⟩, h2⟩ := hs
    exact ⟨⟨hc, x, hx, boxed_keep h1 hg (fun r e => (hr r e).2)⟩, ownFrom_below (β := List Ln) (n₀ := w.heap.size) (w₀ := w) (Nat.le_refl _) HA.out.2.2.2.2.size s A B row h2 hg hr⟩
  case hAx =>
    rintro x a' _ A B row ⟨Bx, x0, rfl⟩ hg hr
    exact ⟨Bx, cell_kept x0 hg (fun r e => (hr r e).2), rfl⟩
  case h0 => exact ⟨⟨rfl, ⟨_, hr0⟩, by omega⟩, HA.out.2.2.2.2⟩
  case assign =>
    rintro l pre x W K ⟨⟨hp, ⟨v, hv⟩, hs⟩, hB⟩ hK
    have HK := Lib.hid hK
    have HP := Lib.hid (And.intro hp (And.intro hv hB))
    clear hK hv hr0 hp
    simp only [lnv]
    gi_wp2
    exact HK.out _ _ ((KeepsOthers.alloc _ _).from _) (KX.of_below ((Below.refl _ W).alloc (by omega) _)) ⟨⟨HP.out.1, ⟨_, HP.out.2.1.alloc _⟩, by simp; omega⟩, HP.out.2.2.alloc HP.out.2.2.size _⟩ ⟨W.heap.size, by simp, rfl⟩
  case body =>
    rintro l pre x a' W hl ⟨r, hr⟩ ⟨⟨rfl, ⟨v, hv⟩, hs⟩, hB⟩ ⟨Bx, x3, rfl⟩ hlt
    have HR := Lib.hid hr
    have c0 := hv.cell
    have f0 := hv.frozen
    have HV := Lib.hid hv
    clear hr hr0 hv
    gi_wp2
    exact ⟨(KeepsOthers.setCell _ _ _).from _, ⟨rfl, x, rfl, HV.out.set _⟩, hB.setCell (p := ⟨w.heap.size + 1, 0, none⟩) (by simp) _⟩
  case done =>
    rintro D ys W hD rfl ⟨⟨hp, ⟨v, hv⟩, hs⟩, hB⟩ hK
    have HU := Lib.hid (used_none hp)
    have c0 := hv.cell
    have f0 := hv.frozen
    have HV := Lib.hid (hv.set (.int .i64 0))
    have HB := Lib.hid (hB.setCell (p := ⟨w.heap.size + 1, 0, none⟩) (by simp) (.int .i64 0))
    have HK := Lib.hid ((KeepsOthers.setCell W ⟨w.heap.size + 1, 0, none⟩ (.int .i64 0)).same D _ hK rfl)
    clear hp hK hr0 hv hB
    have hD2 : w.heap.size ≤ D := by omega
    gi_wp2
    refine ⟨by simp, .inl ⟨_, _, rfl, run_takeDeferred HK.out, ?_⟩⟩
    refine ⟨.int .i64 (usedL zs a), ?_, rfl, HB.out.trans (belowK_b (w := w) (Nat.le_refl _) _ D _ _ hD2 HK.out rfl rfl)⟩
    have c1 := (boxed_put (.deferred none) HV.out HK.out rfl).cell
    rw [HU.out]
    generalize (W.setCell ⟨w.heap.size + 1, 0, none⟩ (.int .i64 0)).putObj D (.deferred none) = WF at c1 ⊢
    simp [results, Tryd.results33, go_sem, c1]
  case stop =>
    rintro D c pre W hD hpre ⟨⟨rfl, x, rfl, h1⟩, hB⟩ hK
    have hU : usedL zs a = x.u := by
      obtain ⟨t, ht⟩ := hpre
      exact used_first ht.symm
    have HU := Lib.hid hU
    have HB := Lib.hid hB
    have HK := Lib.hid hK
    have HV := Lib.hid h1
    have hD2 : w.heap.size ≤ D := by omega
    clear hU hK hr0 hpre hB h1
    gi_wp2
    refine ⟨by simp, .inl ⟨_, _, rfl, run_takeDeferred HK.out, ?_⟩⟩
    refine ⟨.int .i64 (usedL zs a), ?_, rfl, HB.out.trans (belowK_b (w := w) (Nat.le_refl _) _ D _ _ hD2 HK.out rfl rfl)⟩
    have c1 := (boxed_put (.deferred none) HV.out HK.out rfl).cell
    rw [HU.out]
    generalize W.putObj D (.deferred none) = WF at c1 ⊢
    simp [results, Tryd.results33, go_sem, c1]

end Go.Proofs.YtpaaeojojbdikaaDoor
