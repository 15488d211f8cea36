/- judge: one handle held against the live ones. -/
import Derived.Test.YtjfooblnpkckfaaDoorSlIter
namespace Go.Proofs.YtjfooblnpkckfaaDoor
open Go.RowKit Go.Proofs.Slt Go.Shelf

attribute [local go_sem] Oper.semAt_some

/-- A scope that no goto leaves, at the wide fence. -/
theorem wpIn_scope_wide {n : Nat} {P : Program} {c : Code} {Q : Exit → Act → World → Prop} {a : Act} {w : World} (h : c.wpIn Fence.wide n P (Exit.noGoto Q) a w) : (Code.scope c).wpIn Fence.wide n P Q a w :=
  wpIn_wide.2 (wp_scope_straight (wpIn_wide.1 h))

/-- Any handle: two numbers. -/
abbrev IH := Int × Int
def ihv (x : IH) : Value := .agg #[.int .i64 x.1, .int .i64 x.2]
def sameI (a b : IH) : Bool := a.1 == b.1 && a.2 == b.2
def toI (x : Hnd) : IH := ((x.1 : Int), (x.2 : Int))
/-- Is it live? -/
def liveR (st : St) (h : IH) : Bool := (allR st).any fun x => sameI (toI x) h

theorem hFields : (Tryd.prog.fieldsOf 32).toList.map (fun f => (f.name == "_", f.type, f.offset)) = [(false, 3, 0), (false, 3, 1)] := by kernel_rfl
set_option maxHeartbeats 400000 in
theorem eqInH (a b c d : Int) (w : World) : (Op.equalIn 10000 32 (.agg #[.int .i64 a, .int .i64 b]) (.agg #[.int .i64 c, .int .i64 d])).run Tryd.prog w = .ok (a == c && b == d) w := by
  by_cases h1 : a = c
  · have ev : (a == c && b == d) = (b == d) := by simp [h1]
    rw [ev, h1]
    clear ev
    by_cases h3 : b = d
    · rw [h3]
      go_simp
    · have k2 : (b == d) = false := by simp [h3]
      rw [k2]
      go_simp
  · have ev : (a == c && b == d) = false := by simp [h1]
    have k2 : (a == c) = false := by simp [h1]
    rw [ev]
    go_simp
theorem eqH (a b c d : Int) (w : World) : (binOp .eql 32 (.agg #[.int .i64 a, .int .i64 b]) (.agg #[.int .i64 c, .int .i64 d])).run Tryd.prog w = .ok (.bool (a == c && b == d)) w := by
  rw [run_eql_struct, eqInH]; rfl

theorem keeps_below {W W1 : World} (h : Below W.heap.size W W1) : KeepsOthers W W1 := KeepsOthers.of_grownBy (below_grown h) (fun j o e _ => by cases e)
theorem new2 (w : World) (v0 v1 : Value) (t : TypeId) (o : Obj) : ((w.alloc (.cells #[v0, v1] t)).alloc o).cell? ⟨w.heap.size, 0, none⟩ = some v0 ∧ ((w.alloc (.cells #[v0, v1] t)).alloc o).cell? ⟨w.heap.size, 1, none⟩ = some v1 := by
  constructor <;> go_simp
/-- judge's word between two rounds. -/
def JudI (w : World) (h : IH) (pre : List Hnd) (W : World) : Prop := (pre.any (fun x => sameI (toI x) h) = false ∧ W.cell? ⟨w.heap.size, 0, none⟩ = some (.int .i64 h.1) ∧ W.cell? ⟨w.heap.size, 1, none⟩ = some (.int .i64 h.2)) ∧ Below w.heap.size w W
/-- .. when a round has left. -/
def JudX (w : World) (h : IH) (c : Code) (pre : List Hnd) (W : World) : Prop := (c = .exit 1 ∧ pre.any (fun x => sameI (toI x) h) = true) ∧ Below w.heap.size w W

set_option maxRecDepth 100000 in
set_option maxHeartbeats 2000000 in
theorem judge_in (n : Nat) (hn : 3 ≤ n) (t : Sn) (n0 S g1 c1 b : Nat) (v1 v2 : Value) (st : St) (h : IH) (hreach : st.length ≤ 1000) (w : World) (hc : Ctx t n0 w) (h0 : w.cell? ⟨b, 0, none⟩ = some (.int .i64 h.1)) (h1 : w.cell? ⟨b, 1, none⟩ = some (.int .i64 h.2))
    (ho : Obj3 w S (.slice (some ⟨g1, 0, none⟩) st.length c1) v1 v2) (hr : Rs n0 w g1 c1 st) :
    CallsIn Fence.wide n Tryd.prog 25 #[.pointer (some ⟨S, 0, none⟩), .slice (some ⟨b, 0, none⟩) 1 1] w fun e w' => e = .returned (if liveR st h then .nilIface else .iface 113 (.pointer (some t.s))) ∧ Below w.heap.size w w' := by
  have hn1 : 1 ≤ n := by omega
  refine callsIn_of_wp_marks Tryd.func25 rfl trivial ?_ rfl
  simp only [Tryd.ntmps25, List.size_toArray, List.length_cons, List.length_nil, Nat.reduceAdd, Nat.reduceSub, Array.replicate_succ, Array.replicate_zero, List.push_toArray, List.append_toArray, List.nil_append, List.cons_append]
  have HH := Lib.hid (And.intro hc (And.intro ho hr))
  clear hc ho hr
  gi_wp2
  refine wpIn_scope_wide ?_
  gi_wp2
  refine wpIn_label ?_
  gi_wp2_with fail
  refine wpIn_loop_rounds 2 ?_
  rw [roundsIn_succ]
  gi_wp2_with (refine ⟨trivial, ?_⟩; gi_at_call 28; refine (live_in (n - 1) S _).mono ?_; rintro e w' ⟨rfl, rfl⟩)
  obtain ⟨W0, hW0⟩ : ∃ W0, ((w.alloc (.cells #[.int .i64 h.1, .int .i64 h.2] 32)).alloc (.cells #[.pointer (some ⟨S, 0, none⟩)] 24)) = W0 := ⟨_, rfl⟩
  have hB0 : Below w.heap.size w W0 := by
    rw [← hW0]; exact (Below.new w _).alloc (by simp) _
  have q0 : W0.cell? ⟨w.heap.size, 0, none⟩ = some (.int .i64 h.1) ∧ W0.cell? ⟨w.heap.size, 1, none⟩ = some (.int .i64 h.2) := by
    rw [← hW0]; exact new2 _ _ _ _ _
  have hS0 : W0.cell? ⟨w.heap.size + 1, 0, none⟩ = some (.pointer (some ⟨S, 0, none⟩)) := by rw [← hW0]; exact World.cell?_alloc_at _ _ _ _ (by simp)
  have hz0 : W0.heap.size = w.heap.size + 2 := by rw [← hW0]; simp
  rw [hW0]
  have HZ := Lib.hid hz0
  clear hW0 hz0 h0 h1
  refine wpIn_rangeFunc_ownH rfl hn1 (gf := 35) (lb := #[.pointer (some ⟨w.heap.size + 1, 0, none⟩)]) rfl trivial (enters_of Tryd.func35 (by kernel_rfl) rfl)
    (live_stops (n - 1) (by omega) w.heap.size n0 (w.heap.size + 1) S g1 c1 v1 v2 st hreach W0 hB0.size HH.out.2.2.lt HH.out.2.1.lt hS0 (HH.out.2.1.of_block (hB0.block _ HH.out.2.1.lt)) (HH.out.2.2.of_block (hB0.block _ HH.out.2.2.lt))) belowK_t (belowK_b hB0.size) (Below.refl _ _) (fun _ => rfl)
    (JudI w h) (JudX w h) ?hI ?hIx ?h0
    (fun x a' W => ∃ Bx, W.cell? ⟨Bx, 0, none⟩ = some (.int .i64 x.1) ∧ W.cell? ⟨Bx, 1, none⟩ = some (.int .i64 x.2) ∧ a' = { tmps := #[.pointer (some ⟨S, 0, none⟩), .slice (some ⟨b, 0, none⟩) 1 1, undef, undef, .nilIface, undef, .pointer (some ⟨w.heap.size, 0, none⟩), .pointer (some ⟨Bx, 0, none⟩), .slice (some ⟨b, 0, none⟩) 1 1, .int .i64 1, .int .i64 0, .bool true, .pointer (some ⟨b, 0, none⟩), .agg #[.int .i64 h.1, .int .i64 h.2], .pointer (some ⟨S, 0, none⟩), .func (.func 35) #[] #[.pointer (some ⟨w.heap.size + 1, 0, none⟩)], .agg #[.int .i64 x.1, .int .i64 x.2], undef, undef, undef, undef, undef], defers := [] })
    ?hAx ?assign ?body ?done ?stop
  case hI =>
    exact OwnFrom.and (Own.from (fun s A B row hs hg hr => ⟨hs.1, cell_kept hs.2.1 hg hr, cell_kept hs.2.2 hg hr⟩) _) (ownFrom_below (Nat.le_refl _) hB0.size)
  case hIx =>
    intro c s A B row hs hg hr
    exact ⟨hs.1, ownFrom_below (β := List Hnd) (n₀ := w.heap.size) (w₀ := w) (Nat.le_refl _) hB0.size s A B row hs.2 hg hr⟩
  case hAx =>
    rintro x a' _ A B row ⟨Bx, x0, x1, rfl⟩ hg hr
    exact ⟨Bx, cell_kept x0 hg (fun r e => (hr r e).2), cell_kept x1 hg (fun r e => (hr r e).2), rfl⟩
  case h0 => exact ⟨⟨rfl, q0⟩, hB0⟩
  case assign =>
    rintro l pre x W K ⟨⟨ha, y0, y1⟩, hB⟩ hK
    have HK := Lib.hid hK
    have HA := Lib.hid (And.intro ha (And.intro y0 y1))
    clear hK ha y0 y1 q0 hS0
    simp only [hv]
    gi_wp2
    exact HK.out _ _ ((KeepsOthers.alloc _ _).from _) ((Below.refl _ W).alloc hB.size _) ⟨⟨HA.out.1, cell_later (Below.new _ _) HA.out.2.1, cell_later (Below.new _ _) HA.out.2.2⟩, hB.alloc hB.size _⟩ ⟨W.heap.size, by simp, by simp, rfl⟩
  case body =>
    rintro l pre x a' W hl ⟨r, hr⟩ ⟨⟨ha, y0, y1⟩, hB⟩ ⟨Bx, x0, x1, rfl⟩ hlt
    have HA := Lib.hid ha
    have HR := Lib.hid hr
    have HY := Lib.hid (And.intro y0 y1)
    clear ha hr q0 hS0
    obtain ⟨x1v, x2v⟩ := x
    obtain ⟨hs, hg⟩ := h
    by_cases e1 : (x1v : Int) = hs
    · by_cases e2 : (x2v : Int) = hg
      · subst e1
        subst e2
        gi_wp2
        refine ⟨(KeepsOthers.refl _).from _, ⟨rfl, ?_⟩, hB⟩
        rw [List.any_append]
        simp [sameI, toI]
      · have k2 : ((x2v : Int) == hg) = false := by simp [e2]
        have E2 := Lib.hid e2
        clear e2
        subst e1
        gi_wp2
        refine ⟨(KeepsOthers.refl _).from _, Below.refl _ _, ⟨?_, HY.out⟩, hB⟩
        rw [List.any_append, HA.out]
        simp [sameI, toI, E2.out]
    · have k1 : ((x1v : Int) == hs) = false := by simp [e1]
      have E1 := Lib.hid e1
      clear e1
      gi_wp2
      refine ⟨(KeepsOthers.refl _).from _, Below.refl _ _, ⟨?_, HY.out⟩, hB⟩
      rw [List.any_append, HA.out]
      simp [sameI, toI, E1.out]
  case done =>
    rintro D ys W hD rfl ⟨⟨ha, _⟩, hB⟩ hK
    have cs := (HH.out.1.more hB).cs
    have HA := Lib.hid ha
    have hD2 : w.heap.size ≤ D := Nat.le_trans hB0.size hD
    clear ha q0 hS0
    gi_wp2
    rw [Exit.noGoto_ret]
    refine ⟨by simp, .inl ⟨_, _, rfl, run_takeDeferred hK, ?_⟩⟩
    refine ⟨_, results_tmp rfl _ _ _, ?_, hB.trans (belowK_b (w := w) (Nat.le_refl _) W D _ _ hD2 hK rfl rfl)⟩
    rw [liveR, HA.out]
    rfl
  case stop =>
    rintro D c pre W hD hpre ⟨⟨rfl, ha⟩, hB⟩ hK
    have hD2 : w.heap.size ≤ D := Nat.le_trans hB0.size hD
    have hl : liveR st h = true := by
      obtain ⟨r, hr⟩ := hpre
      rw [liveR, ← hr, List.any_append, ha, Bool.true_or]
    have HA := Lib.hid hl
    clear ha q0 hS0 hl
    gi_wp2
    rw [roundsIn_succ]
    gi_wp2
    rw [Exit.noGoto_ret]
    refine ⟨by simp, .inl ⟨_, _, rfl, run_takeDeferred hK, ?_⟩⟩
    refine ⟨_, results_tmp rfl _ _ _, ?_, hB.trans (belowK_b (w := w) (Nat.le_refl _) W D _ _ hD2 hK rfl rfl)⟩
    rw [HA.out]
    rfl

end Go.Proofs.YtjfooblnpkckfaaDoor
