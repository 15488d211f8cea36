/- before: how many lines are ahead of a label's. -/
import Derived.Test.YtpaaeojojbdikaaDoorLgUsed
namespace Go.Proofs.Lgr
open Go.Proofs.Cats
/-- How many lines are ahead. -/
def bef (zs : List Ln) (a : Lab) : Nat := (zs.takeWhile fun y => y.a.ahead a).length
theorem bef_all {zs : List Ln} {a : Lab} (h : ∀ y ∈ zs, y.a.ahead a = true) : bef zs a = zs.length := by
  unfold bef
  have := List.takeWhile_append_of_pos (p := fun y : Ln => y.a.ahead a) (l₁ := zs) (l₂ := []) h
  rw [List.append_nil] at this
  rw [this]
  simp
theorem bef_at {zs p : List Ln} {x : Ln} {a : Lab} (h : ∀ y ∈ p, y.a.ahead a = true) (hx : x.a.ahead a = false) (hp : p ++ [x] <+: zs) : bef zs a = p.length := by
  obtain ⟨t, rfl⟩ := hp
  unfold bef
  rw [List.append_assoc, List.takeWhile_append_of_pos h]
  simp [hx]
theorem bef_le (zs : List Ln) (a : Lab) : bef zs a ≤ zs.length := (List.takeWhile_prefix _).length_le
/-- What is cut, put together again. -/
theorem with_cut (zs : List Ln) (a : Lab) (n : Int) : withL zs a n = zs.take (bef zs a) ++ newL a n ++ (match zs[bef zs a]? with
    | none => []
    | some x => if x.a.same a then zs.drop (bef zs a + 1) else zs.drop (bef zs a)) := by
  induction zs with
  | nil => simp [withL, bef]
  | cons x r ih =>
    unfold withL
    cases e : x.a.ahead a
    · have hb : bef (x :: r) a = 0 := by simp [bef, List.takeWhile, e]
      rw [hb]
      simp
    · have hb : bef (x :: r) a = bef r a + 1 := by simp [bef, List.takeWhile, e]
      rw [hb, if_pos rfl, ih]
      simp
end Go.Proofs.Lgr
namespace Go.Proofs.YtpaaeojojbdikaaDoor
open Go.RowKit Go.Proofs.Cats Go.Proofs.Lgr Go.Shelf Go.Sort

attribute [local go_sem] Oper.semAt_some

/-- A scope that no goto leaves, at the wide fence. -/
theorem wpIn_scope_wide {n : Nat} {P : Program} {c : Code} {Q : Exit → Act → World → Prop} {a : Act} {w : World} (h : c.wpIn Fence.wide n P (Exit.noGoto Q) a w) : (Code.scope c).wpIn Fence.wide n P Q a w :=
  wpIn_wide.2 (wp_scope_straight (wpIn_wide.1 h))
theorem la3_keep {A B : World} {row : Option Nat} {b : Nat} {a : Lab} (h : La3 A b a) (hg : A.grownBy B row) (hr : ∀ r, row = some r → ∃ o : Obj, A.heap[r]? = some o ∧ o.isCells = false) : La3 B b a := ⟨cell_kept h.1 hg hr, cell_kept h.2.1 hg hr, cell_kept h.2.2 hg hr⟩
theorem la3_set {A : World} {b X o : Nat} {a : Lab} {v : Value} (h : La3 A b a) (hx : X ≠ b) : La3 (A.setCell ⟨X, o, none⟩ v) b a := ⟨setO h.1 (ne_blk hx), setO h.2.1 (ne_blk hx), setO h.2.2 (ne_blk hx)⟩
/-- label.Compare, its word closed. -/
theorem cmpP_any (a b : Lab) (w : World) : Calls Tryd.prog 45 #[.agg #[.int .i64 a.l, .int .u64 a.c, .int .i64 a.i], .agg #[.int .i64 b.l, .int .u64 b.c, .int .i64 b.i]] w (IntP (a.cmp b) w) := compare_any a b w
/-- before between two rounds. -/
def BfI (w : World) (a : Lab) (pre : List Ln) (W : World) : Prop := (Boxed W (w.heap.size + 1) 3 (.int .i64 (pre.length : Int)) ∧ La3 W w.heap.size a ∧ (∀ y ∈ pre, y.a.ahead a = true) ∧ w.heap.size + 4 ≤ W.heap.size) ∧ Below w.heap.size w W
/-- .. when a round has left. -/
def BfX (w : World) (a : Lab) (c : Code) (pre : List Ln) (W : World) : Prop := (c = .exit 0 ∧ ∃ p x, pre = p ++ [x] ∧ (∀ y ∈ p, y.a.ahead a = true) ∧ x.a.ahead a = false ∧ Boxed W (w.heap.size + 1) 3 (.int .i64 (p.length : Int))) ∧ Below w.heap.size w W

set_option maxRecDepth 100000 in
set_option maxHeartbeats 4000000 in
theorem before_in (n : Nat) (hn : 3 ≤ n) (a : Lab) (ao : Option Addr) (len cap : Nat) (zs : List Ln) (hreach : len ≤ 1000000) (w : World) (hL : Lns w ao len cap zs) :
    CallsIn Fence.wide n Tryd.prog 68 #[.slice ao len cap, .agg #[.int .i64 a.l, .int .u64 a.c, .int .i64 a.i]] w (IntP (bef zs a : Int) w) := by
  have hn1 : 1 ≤ n := by omega
  refine callsIn_of_wp_marks Tryd.func68 rfl trivial ?_ rfl
  simp only [Tryd.ntmps68, List.size_toArray, List.length_cons, List.length_nil, Nat.reduceAdd, Nat.reduceSub, Array.replicate_succ, Array.replicate_zero, List.push_toArray, List.append_toArray, List.nil_append, List.cons_append]
  have HL := Lib.hid hL
  clear hL
  have hBi : Below w.heap.size w (((w.alloc (.cells #[.int .i64 a.l, .int .u64 a.c, .int .i64 a.i] 25)).alloc (.cells #[.int .i64 0] 3)).setCell ⟨w.heap.size + 1, 0, none⟩ (.int .i64 0)) := ((Below.new w _).alloc (by simp) _).setCell (p := ⟨w.heap.size + 1, 0, none⟩) (by simp) _
  have hr0 : Boxed (((w.alloc (.cells #[.int .i64 a.l, .int .u64 a.c, .int .i64 a.i] 25)).alloc (.cells #[.int .i64 0] 3)).setCell ⟨w.heap.size + 1, 0, none⟩ (.int .i64 0)) (w.heap.size + 1) 3 (.int .i64 0) := by
    have := Boxed.new (w.alloc (.cells #[.int .i64 a.l, .int .u64 a.c, .int .i64 a.i] 25)) 3 (.int .i64 0)
    rw [World.size_alloc] at this
    exact this.set _
  have hl0 : La3 (((w.alloc (.cells #[.int .i64 a.l, .int .u64 a.c, .int .i64 a.i] 25)).alloc (.cells #[.int .i64 0] 3)).setCell ⟨w.heap.size + 1, 0, none⟩ (.int .i64 0)) w.heap.size a := la3_set ((La3.new w a).more (Below.new _ _)) (by omega)
  have hzi : (((w.alloc (.cells #[.int .i64 a.l, .int .u64 a.c, .int .i64 a.i] 25)).alloc (.cells #[.int .i64 0] 3)).setCell ⟨w.heap.size + 1, 0, none⟩ (.int .i64 0)).heap.size = w.heap.size + 2 := by simp [World.setCell]
  obtain ⟨Wi, hWi⟩ : ∃ Wi, ((w.alloc (.cells #[.int .i64 a.l, .int .u64 a.c, .int .i64 a.i] 25)).alloc (.cells #[.int .i64 0] 3)).setCell ⟨w.heap.size + 1, 0, none⟩ (.int .i64 0) = Wi := ⟨_, rfl⟩
  rw [hWi] at hBi hr0 hl0 hzi
  have HI := Lib.hid (And.intro hBi (And.intro hr0 hl0))
  clear hBi hr0 hl0
  gi_wp2
  refine wpIn_scope_wide ?_
  gi_wp2
  refine wpIn_label ?_
  gi_wp2_with (refine ⟨trivial, ?_⟩; gi_at_call 37; refine (callsIn_wide.2 (lnAll_any ao len cap _)).mono ?_)
  rintro e W0 ⟨rfl, hc1, hc2, hz0, hb0⟩
  rw [hzi] at hc1 hc2 hz0
  have HA := Lib.hid (And.intro hc1 (And.intro hc2 (And.intro hz0 (And.intro (below_more HI.out.1 hb0) (And.intro (boxed_more HI.out.2.1 hb0) (HI.out.2.2.more hb0))))))
  clear hb0 hc1 hc2 HI
  rw [hzi]
  gi_wp2
  refine wpIn_rangeFunc_ownH rfl hn1 (gf := 59) (lb := #[.pointer (some ⟨w.heap.size + 2, 0, none⟩), .pointer (some ⟨w.heap.size + 2 + 1, 0, none⟩)]) rfl trivial (enters_of Tryd.func59 (by kernel_rfl) rfl)
    (all_stops (n - 1) (by omega) (w.heap.size + 1) W0.heap.size _ _ len cap ao zs hreach W0 (Nat.le_refl _) HA.out.1 HA.out.2.1 (by have := HA.out.2.2.1; omega) (by omega) (HL.out.more HA.out.2.2.2.1) (HL.out.apart HA.out.2.2.2.1 (by omega))) KX.trans (kxK_b (Nat.le_refl _)) (Below.refl _ _) (fun _ => rfl)
    (BfI w a) (BfX w a) ?hI ?hIx ?h0
    (fun x a' W => ∃ Bx, W.cell? ⟨Bx, 0, none⟩ = some (.int .i64 x.a.l) ∧ W.cell? ⟨Bx, 1, none⟩ = some (.int .u64 x.a.c) ∧ W.cell? ⟨Bx, 2, none⟩ = some (.int .i64 x.a.i) ∧ a' = { tmps := #[.slice ao len cap, .agg #[.int .i64 a.l, .int .u64 a.c, .int .i64 a.i], undef, .pointer (some ⟨w.heap.size, 0, none⟩), .int .i64 0, .pointer (some ⟨w.heap.size + 1, 0, none⟩), .pointer (some ⟨Bx, 0, none⟩), .slice ao len cap, .func (.func 59) #[] #[.pointer (some ⟨w.heap.size + 2, 0, none⟩), .pointer (some ⟨w.heap.size + 2 + 1, 0, none⟩)], .agg #[.int .i64 x.a.l, .int .u64 x.a.c, .int .i64 x.a.i, .int .i64 x.u], undef, undef, undef, undef, undef, undef, undef, undef, undef], defers := [] })
    ?hAx ?assign ?body ?done ?stop
  case hI =>
    exact OwnFrom.and (Own.from (fun s A B row hs hg hr => ⟨boxed_keep hs.1 hg hr, la3_keep hs.2.1 hg hr, hs.2.2.1, Nat.le_trans hs.2.2.2 hg.size⟩) _) (ownFrom_below (Nat.le_refl _) HA.out.2.2.2.1.size)
  case hIx =>
    intro c s A B row hs hg hr
    obtain ⟨⟨hc, p, x, hx, hp, hxa, h1⟩, h2⟩ := hs
    exact ⟨⟨hc, p, x, hx, hp, hxa, boxed_keep h1 hg (fun r e => (hr r e).2)⟩, ownFrom_below (β := List Ln) (n₀ := w.heap.size) (w₀ := w) (Nat.le_refl _) HA.out.2.2.2.1.size s A B row h2 hg hr⟩
  case hAx =>
    rintro x a' _ A B row ⟨Bx, x0, x1, x2, rfl⟩ hg hr
    exact ⟨Bx, cell_kept x0 hg (fun r e => (hr r e).2), cell_kept x1 hg (fun r e => (hr r e).2), cell_kept x2 hg (fun r e => (hr r e).2), rfl⟩
  case h0 => exact ⟨⟨HA.out.2.2.2.2.1, HA.out.2.2.2.2.2, (fun y hy => by cases hy), by have := HA.out.2.2.1; omega⟩, HA.out.2.2.2.1⟩
  case assign =>
    rintro l pre x W K ⟨⟨hv, hla, hp, hs⟩, hB⟩ hK
    have HK := Lib.hid hK
    have HP := Lib.hid (And.intro hp (And.intro hv (And.intro hla hB)))
    have hz := HA.out.2.2.1
    clear hK hv hp hla
    simp only [lnv]
    gi_wp2
    exact HK.out _ _ ((KeepsOthers.alloc _ _).from _) (KX.of_below ((Below.refl _ W).alloc (by omega) _)) ⟨⟨HP.out.2.1.alloc _, HP.out.2.2.1.more (Below.new _ _), HP.out.1, by simp; omega⟩, HP.out.2.2.2.alloc HP.out.2.2.2.size _⟩ ⟨W.heap.size, by simp, by simp, by simp, rfl⟩
  case body =>
    rintro l pre x a' W hl ⟨r, hr⟩ ⟨⟨hv, ⟨a0, a1, a2⟩, hp, hs⟩, hB⟩ ⟨Bx, x0, x1, x2, rfl⟩ hlt
    have hz := HA.out.2.2.1
    have hpl : pre.length < len := by
      have := List.length_filter_le (fun _ : Ln => true) zs
      have := HL.out.hlen
      omega
    have HR := Lib.hid hr
    have HV := Lib.hid (And.intro hv (And.intro hp (And.intro hB (And.intro a0 (And.intro a1 a2)))))
    have hge := cmp_ge x.a a
    have hd : 1 ≤ n - 1 - 1 := by omega
    clear hr hv hp hB
    gi_wp2_with (refine ⟨trivial, ?_⟩; gi_at_call 45; refine (CallsIn.inRound l (callsIn_wide.2 (cmpP_any x.a a W))).mono ?_)
    rintro e w1 ⟨rfl, hb1⟩
    have hV1 := boxed_more HV.out.1 hb1
    have c0 := hV1.cell
    have f0 := hV1.frozen
    have HB1 := Lib.hid (And.intro hb1 hV1)
    clear hb1 hV1
    cases hah : x.a.ahead a with
    | false =>
      rw [hah] at hge
      have HX := Lib.hid hah
      clear hah
      gi_wp2
      exact ⟨(keeps_below HB1.out.1).from _, ⟨rfl, pre, x, rfl, HV.out.2.1, HX.out, HB1.out.2⟩, below_more HV.out.2.2.1 HB1.out.1⟩
    | true =>
      rw [hah] at hge
      have HX := Lib.hid hah
      clear hah
      have hwr : IntKind.i64.wrap ((pre.length : Int) + 1) = (pre.length : Int) + 1 := by rw [IntKind.wrap_i64]; omega
      gi_wp2
      refine ⟨((keeps_below HB1.out.1).trans (KeepsOthers.setCell _ _ _)).from _, (KX.of_below (HB1.out.1.mono (by omega))).trans (KX.set _ _ _), ⟨?_, la3_set (La3.more ⟨HV.out.2.2.2.1, HV.out.2.2.2.2.1, HV.out.2.2.2.2.2⟩ HB1.out.1) (by omega), ?_, ?_⟩, (below_more HV.out.2.2.1 HB1.out.1).setCell (p := ⟨w.heap.size + 1, 0, none⟩) (by simp) _⟩
      · have := HB1.out.2.set (.int .i64 ((pre.length : Int) + 1))
        simpa using this
      · intro y hy
        rcases List.mem_append.1 hy with h | h
        · exact HV.out.2.1 y h
        · obtain rfl : y = x := by simpa using h
          exact HX.out
      · have := HB1.out.1.size
        simp [World.setCell]
        omega
  case done =>
    rintro D ys W hD rfl ⟨⟨hv, hla, hp, hs⟩, hB⟩ hK
    have hz := HA.out.2.2.1
    rw [show zs.filter (fun _ => true) = zs by simp] at hv hp
    have c0 := hv.cell
    have HU := Lib.hid (bef_all hp)
    have HK := Lib.hid (And.intro hB hK)
    clear hp hK hv hB
    have hD2 : w.heap.size ≤ D := by omega
    gi_wp2
    rw [Exit.noGoto_ret]
    refine ⟨by simp, .inl ⟨_, _, rfl, run_takeDeferred HK.out.2, ?_⟩⟩
    refine ⟨_, results_tmp rfl _ _ _, ?_, HK.out.1.trans (belowK_b (w := w) (Nat.le_refl _) _ D _ _ hD2 HK.out.2 rfl rfl)⟩
    rw [HU.out]
    rfl
  case stop =>
    rintro D c pre W hD hpre ⟨⟨rfl, p, x, rfl, hp, hxa, hv⟩, hB⟩ hK
    have hz := HA.out.2.2.1
    rw [show zs.filter (fun _ => true) = zs by simp] at hpre
    have HU := Lib.hid (bef_at hp hxa hpre)
    have HK := Lib.hid (And.intro hB hK)
    have c0 := hv.cell
    have hD2 : w.heap.size ≤ D := by omega
    clear hK hpre hB hp hxa
    gi_wp2
    rw [Exit.noGoto_ret]
    refine ⟨by simp, .inl ⟨_, _, rfl, run_takeDeferred HK.out.2, ?_⟩⟩
    refine ⟨_, results_tmp rfl _ _ _, ?_, HK.out.1.trans (belowK_b (w := w) (Nat.le_refl _) _ D _ _ hD2 HK.out.2 rfl rfl)⟩
    rw [HU.out]
    rfl

end Go.Proofs.YtpaaeojojbdikaaDoor
