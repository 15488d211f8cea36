/- Right, Used, Seen, Total. -/
import Derived.Test.YtpaaeojojbdikaaDoorLgBefore
namespace Go.Proofs.Lgr
open Go.Proofs.Cats Go.RowKit
/-- A sum as the machine makes it. -/
def wsum (l : List Ln) : Int := l.foldl (fun s x => wrap64 (s + x.u)) 0
theorem wsum_snoc (l : List Ln) (x : Ln) : wsum (l ++ [x]) = wrap64 (wsum l + x.u) := by simp [wsum]
theorem wsum_go (l : List Ln) (s : Int) (h0 : 0 ≤ s) (h : ∀ x ∈ l, lineOk x = true) (hs : s + 100000 * (l.length : Int) ≤ 4611686018427387904) : l.foldl (fun s x => wrap64 (s + x.u)) s = s + sumL l := by
  induction l generalizing s with
  | nil => simp [sumL]
  | cons x r ih =>
    have hx := (lineOk_iff x).1 (h x (by simp))
    simp only [List.length_cons] at hs
    rw [List.foldl_cons, show wrap64 (s + x.u) = s + x.u by unfold wrap64; omega, ih _ (by omega) (fun y hy => h y (by simp [hy])) (by omega)]
    simp only [sumL]
    omega
theorem wsum_right {l : List Ln} (h : rightL l = true) : wsum l = sumL l := by
  obtain ⟨h1, h2, _⟩ := (rightL_iff l).1 h
  have := wsum_go l 0 (by omega) h2 (by omega)
  unfold wsum
  rw [this]
  omega
end Go.Proofs.Lgr
namespace Go.Proofs.YtpaaeojojbdikaaDoor
open Go.RowKit Go.Proofs.Cats Go.Proofs.Lgr Go.Shelf Go.Sort

attribute [local go_sem] Oper.semAt_some

set_option maxHeartbeats 1000000 in
theorem Right_any (ao : Option Addr) (len cap : Nat) (l : List Ln) (w : World) (hL : Lns w ao len cap l) :
    Calls Tryd.prog 13 #[.slice ao len cap] w (BoolP (rightL l) w) := by
  have HL := Lib.hid hL
  clear hL
  go_enter Tryd.func13, Tryd.ntmps13
  go_wp2_with (go_at_call 30; refine (lgJudge_any ao len cap l w HL.out).mono ?_)
  rintro e w1 ⟨⟨hr, rfl⟩ | ⟨hr, s, rfl⟩, hb⟩
  · have HR := Lib.hid (And.intro hr hb)
    clear hr hb
    go_wp2
    go_ret
    exact ⟨by rw [HR.out.1]; rfl, HR.out.2⟩
  · have HR := Lib.hid (And.intro hr hb)
    clear hr hb
    rw [flt]
    go_wp2
    go_ret
    exact ⟨by rw [HR.out.1]; rfl, HR.out.2⟩

set_option maxHeartbeats 1000000 in
theorem Used_any (a : Lab) (ao : Option Addr) (len cap : Nat) (l : List Ln) (hreach : len ≤ 1000000) (w : World) (hL : Lns w ao len cap l) :
    Calls Tryd.prog 15 #[.slice ao len cap, .agg #[.int .i64 a.l, .int .u64 a.c, .int .i64 a.i]] w (IntP (usedL l a) w) := by
  have hB := Below.new w (.cells #[.int .i64 a.l, .int .u64 a.c, .int .i64 a.i] 25)
  have HL := Lib.hid (And.intro (hL.more hB) hB)
  clear hL hB
  go_enter Tryd.func15, Tryd.ntmps15
  go_wp2_with (go_at_call 33; refine (callsIn_wide.1 (used_in 3 (Nat.le_refl _) a ao len cap l hreach _ HL.out.1)).mono ?_)
  rintro e w1 ⟨rfl, hb⟩
  have HB := Lib.hid (below_more HL.out.2 hb)
  clear hb
  go_wp2
  go_ret
  exact ⟨rfl, HB.out⟩

/-- What AppendSeq leaves. -/
def SeqP (ys : List Ln) (w : World) (e : Ending) (w' : World) : Prop := ∃ a c, e = .returned (.slice a ys.length c) ∧ OwnL w.heap.size w' (.slice a ys.length c) ys ∧ Below w.heap.size w w'
/-- Between two rounds. -/
def SqI (w : World) (B : Nat) (pre : List Ln) (W : World) : Prop := (∃ v, Boxed W B 22 v ∧ W.ownsRow w.heap.size 43 4 v pre.length (lcl pre) ∧ True) ∧ Below w.heap.size w W

set_option maxRecDepth 100000 in
set_option maxHeartbeats 4000000 in
theorem appendSeq_in (n : Nat) (hn : 3 ≤ n) (a : Lab) (hf : a.fits) (Ba B1 B2 : Nat) (ao : Option Addr) (len cap : Nat) (zs : List Ln) (hreach : len ≤ 1000000) (w : World) (hA : La3 w Ba a) (h1 : w.cell? ⟨B1, 0, none⟩ = some (.slice ao len cap)) (h2 : w.cell? ⟨B2, 0, none⟩ = some (.func (.func 49) #[] #[.pointer (some ⟨Ba, 0, none⟩)])) (hL : Lns w ao len cap zs) :
    CallsIn Fence.wide n Tryd.prog 47 #[.slice none 0 0, .func (.func 59) #[] #[.pointer (some ⟨B1, 0, none⟩), .pointer (some ⟨B2, 0, none⟩)]] w (SeqP (seenL zs a) w) := by
  have hn1 : 1 ≤ n := by omega
  obtain ⟨i0, hi, hz0, hz1, hz2⟩ := info_parts infoLn
  refine callsIn_of_wp_marks Tryd.func47 rfl trivial ?_ rfl
  simp only [Tryd.ntmps47, List.size_toArray, List.length_cons, List.length_nil, Nat.reduceAdd, Nat.reduceSub, Array.replicate_succ, Array.replicate_zero, List.push_toArray, List.append_toArray, List.nil_append, List.cons_append]
  have HH := Lib.hid (And.intro hA (And.intro h1 (And.intro h2 hL)))
  clear hA h1 h2 hL
  gi_wp2
  have b0 := Boxed.new w 22 (.slice none 0 0)
  have hB0 := Below.new w (.cells #[.slice none 0 0] 22)
  obtain ⟨W0, hW0⟩ : ∃ W0, w.alloc (.cells #[.slice none 0 0] 22) = W0 := ⟨_, rfl⟩
  have hz0' : W0.heap.size = w.heap.size + 1 := by rw [← hW0]; simp
  rw [hW0] at b0 hB0 ⊢
  clear hW0
  have hlt1 := World.block_lt_of_cell? w _ HH.out.2.1
  have hlt2 := World.block_lt_of_cell? w _ HH.out.2.2.1
  have hlta := HH.out.1.lt
  simp only at hlt1 hlt2
  refine wpIn_rangeFunc_ownH rfl hn1 (gf := 59) (lb := #[.pointer (some ⟨B1, 0, none⟩), .pointer (some ⟨B2, 0, none⟩)]) rfl trivial (enters_of Tryd.func59 (by kernel_rfl) rfl)
    (under_stops (n - 1) (by omega) Ba w.heap.size w.heap.size B1 B2 len cap ao a hf zs hreach W0 hB0.size (cell_later hB0 HH.out.2.1) (cell_later hB0 HH.out.2.2.1) hlt2 (by omega) (HH.out.1.more hB0) hlta (by omega) (HH.out.2.2.2.more hB0) (HH.out.2.2.2.apart (Below.refl _ w) (Nat.le_refl _))) KX.trans (kxK_b hB0.size) (Below.refl _ _) (fun _ => rfl)
    (SqI w w.heap.size) (fun _ _ _ => False) ?hI ?hIx ?h0
    (fun x a' W => ∃ (Bx : Nat), w.heap.size < Bx ∧ LnAt W Bx 0 x ∧ a' = { tmps := #[.slice none 0 0, .func (.func 59) #[] #[.pointer (some ⟨B1, 0, none⟩), .pointer (some ⟨B2, 0, none⟩)], .pointer (some ⟨w.heap.size, 0, none⟩), undef, .slice none 0 0, .pointer (some ⟨Bx, 0, none⟩), .func (.func 59) #[] #[.pointer (some ⟨B1, 0, none⟩), .pointer (some ⟨B2, 0, none⟩)], .agg #[.int .i64 x.a.l, .int .u64 x.a.c, .int .i64 x.a.i, .int .i64 x.u], undef, undef, undef, undef, undef], defers := [] })
    ?hAx ?assign ?body ?done ?stop
  case hI =>
    exact OwnFrom.and (Own.from (holdsRow_own w.heap.size w.heap.size 22 43 4 (fun pre : List Ln => pre.length) lcl (fun _ _ => True)) _) (ownFrom_below (Nat.le_refl _) hB0.size)
  case hIx => exact fun _ _ _ _ _ hs _ _ => hs
  case hAx =>
    rintro x a' _ A B row ⟨Bx, hx, ⟨x0, x1, x2, x3⟩, rfl⟩ hg hr
    exact ⟨Bx, hx, ⟨cell_kept x0 hg (fun r e => (hr r e).2), cell_kept x1 hg (fun r e => (hr r e).2), cell_kept x2 hg (fun r e => (hr r e).2), cell_kept x3 hg (fun r e => (hr r e).2)⟩, rfl⟩
  case h0 => exact ⟨⟨_, b0, World.ownsRow_nil _ _ _ _, trivial⟩, hB0⟩
  case assign =>
    rintro l pre x W K ⟨⟨v, x1, x2, _⟩, hB⟩ hK
    have hlt := x1.lt
    have HK := Lib.hid hK
    have HX := Lib.hid (And.intro x1 x2)
    clear hK x1 x2 b0
    simp only [lnv]
    gi_wp2
    exact HK.out _ _ ((KeepsOthers.alloc _ _).from _) (KX.of_below ((Below.refl _ W).alloc hB.size _)) ⟨⟨v, HX.out.1.alloc _, HX.out.2.alloc _, trivial⟩, hB.alloc hB.size _⟩ ⟨W.heap.size, hlt, ⟨by simp, by simp, by simp, by simp⟩, rfl⟩
  case body =>
    rintro l pre x a' W hl ⟨r, hr⟩ ⟨⟨v, x1, x2, _⟩, hB⟩ ⟨Bx, hBx, ⟨y0, y1, y2, y3⟩, rfl⟩ hlt
    have c2 := x1.cell
    have hsz := hB.size
    have hpl : pre.length ≤ 1000000 := by have := List.length_filter_le (fun x : Ln => x.a.under a) zs; have := HH.out.2.2.2.hlen; omega
    obtain ⟨va, vc, rfl⟩ := (show OwnL w.heap.size W v pre from x2).slice
    have HN := Lib.hid (ln_new W x)
    clear b0 hr hlt
    gi_wp2_with (gi_at_builtin; go_loud (refine wpListIn_append_own _ rfl _ _ 22 rfl w.heap.size 43 i0 (.agg #[.int .i64 0, .int .u64 0, .int .i64 0, .int .i64 0]) 4 32 Tryd.underlying22 hi hz0 hz1 hz2 rfl (by decide) (.slice va pre.length vc) pre.length (lcl pre) rfl (x2.alloc (.cells #[.int .i64 x.a.l, .int .u64 x.a.c, .int .i64 x.a.i, .int .i64 x.u] 43)) ⟨W.heap.size, 0, none⟩ 1 1 (cells4 x) rfl rfl HN.out (by simp [cells4, Value.oneCell']) (by unfold maxLen; omega) (by omega) (by simp; omega) ?_; intro v' w5 hown' hgrow _; obtain ⟨g', cap', rfl⟩ := ownsRow_succ hown'; obtain ⟨hv1, hv2, hr2, hk2, hb2⟩ := x1.appended (by decide) x2 (by omega) (by omega) hown' hgrow; have hc1 := hv1.cell; have hf1 := hv1.frozen))
    refine ⟨hk2.from _, KX.of_below hb2, ⟨⟨_, hv2, ?_, trivial⟩, hB.trans hb2⟩⟩
    rw [lcl_append, List.length_append]
    exact hr2
  case done =>
    rintro D ys W hD rfl ⟨⟨v, x1, x2, _⟩, hB⟩ hK
    have c2 := x1.cell
    have hD2 : w.heap.size ≤ D := Nat.le_trans hB0.size hD
    change W.ownsRow w.heap.size 43 4 v (seenL zs a).length (lcl (seenL zs a)) at x2
    obtain ⟨va, vc, rfl⟩ := (show OwnL w.heap.size W v (seenL zs a) from x2).slice
    have HX := Lib.hid (And.intro x2 (And.intro hB hK))
    clear x1 x2 hB hK b0
    gi_wp2
    refine ⟨by simp, .inl ⟨_, _, rfl, run_takeDeferred HX.out.2.2, ?_⟩⟩
    refine ⟨.slice va (seenL zs a).length vc, results_tmp (t := 4) rfl _ _ _, va, vc, rfl, ownsRow_putObj HX.out.1 _ HX.out.2.2 rfl, HX.out.2.1.trans (belowK_b (w := w) (Nat.le_refl _) W D _ _ hD2 HX.out.2.2 rfl rfl)⟩
  case stop =>
    rintro D c pre W _ _ h _
    exact h.elim

set_option maxHeartbeats 1000000 in
theorem collect_any (a : Lab) (hf : a.fits) (Ba B1 B2 : Nat) (ao : Option Addr) (len cap : Nat) (zs : List Ln) (hreach : len ≤ 1000000) (w : World) (hA : La3 w Ba a) (h1 : w.cell? ⟨B1, 0, none⟩ = some (.slice ao len cap)) (h2 : w.cell? ⟨B2, 0, none⟩ = some (.func (.func 49) #[] #[.pointer (some ⟨Ba, 0, none⟩)])) (hL : Lns w ao len cap zs) :
    Calls Tryd.prog 34 #[.func (.func 59) #[] #[.pointer (some ⟨B1, 0, none⟩), .pointer (some ⟨B2, 0, none⟩)]] w (SeqP (seenL zs a) w) := by
  have HH := Lib.hid (And.intro hA (And.intro h1 (And.intro h2 hL)))
  clear hA h1 h2 hL
  go_enter Tryd.func34, Tryd.ntmps34
  go_wp2_with (go_at_call 47; refine (callsIn_wide.1 (appendSeq_in 3 (Nat.le_refl _) a hf Ba B1 B2 ao len cap zs hreach w HH.out.1 HH.out.2.1 HH.out.2.2.1 HH.out.2.2.2)).mono ?_)
  rintro e w1 ⟨va, vc, rfl, hp⟩
  have HP := Lib.hid hp
  clear hp
  go_wp2
  go_ret
  exact ⟨_, _, rfl, HP.out⟩

set_option maxHeartbeats 1000000 in
theorem Seen_any (a : Lab) (hf : a.fits) (ao : Option Addr) (len cap : Nat) (zs : List Ln) (hreach : len ≤ 1000000) (w : World) (hL : Lns w ao len cap zs) :
    Calls Tryd.prog 18 #[.slice ao len cap, .agg #[.int .i64 a.l, .int .u64 a.c, .int .i64 a.i]] w (SeqP (seenL zs a) w) := by
  have hB := Below.new w (.cells #[.int .i64 a.l, .int .u64 a.c, .int .i64 a.i] 25)
  have HL := Lib.hid (And.intro (hL.more hB) hB)
  clear hL hB
  go_enter Tryd.func18, Tryd.ntmps18
  go_wp2_with (go_at_call 35; refine (lnUnder_any a ao len cap _).mono ?_)
  rintro e W0 ⟨rfl, hA, hc1, hc2, hz0, hb0⟩
  simp only [World.size_alloc] at hA hc1 hc2 hz0
  have HA := Lib.hid (And.intro hA (And.intro hc1 (And.intro hc2 (And.intro (HL.out.1.more hb0) (below_more HL.out.2 hb0)))))
  clear hA hc1 hc2 hb0
  go_wp2_with (go_at_call 34; refine (collect_any a hf _ _ _ ao len cap zs hreach W0 HA.out.1 HA.out.2.1 HA.out.2.2.1 HA.out.2.2.2.1).mono ?_)
  rintro e w1 ⟨va, vc, rfl, hp, hb⟩
  have HP := Lib.hid (And.intro (hp.mono (show w.heap.size ≤ W0.heap.size by omega)) (below_more HA.out.2.2.2.2 hb))
  clear hp hb
  go_wp2
  go_ret
  exact ⟨_, _, rfl, HP.out⟩

/-- Total between two rounds. -/
def TtI (w : World) (pre : List Ln) (W : World) : Prop := (Boxed W w.heap.size 3 (.int .i64 (wsum pre)) ∧ w.heap.size + 3 ≤ W.heap.size) ∧ Below w.heap.size w W

set_option maxRecDepth 100000 in
set_option maxHeartbeats 4000000 in
theorem total_in (n : Nat) (hn : 3 ≤ n) (ao : Option Addr) (len cap : Nat) (zs : List Ln) (hreach : len ≤ 1000000) (w : World) (hL : Lns w ao len cap zs) :
    CallsIn Fence.wide n Tryd.prog 20 #[.slice ao len cap] w (IntP (totalL zs) w) := by
  have hn1 : 1 ≤ n := by omega
  refine callsIn_of_wp_marks Tryd.func20 rfl trivial ?_ rfl
  simp only [Tryd.ntmps20, List.size_toArray, List.length_cons, List.length_nil, Nat.reduceAdd, Nat.reduceSub, Array.replicate_succ, Array.replicate_zero, List.push_toArray, List.append_toArray, List.nil_append, List.cons_append]
  have HL := Lib.hid hL
  clear hL
  gi_wp2_with (refine ⟨trivial, ?_⟩; gi_at_call 13; refine (callsIn_wide.2 (Right_any ao len cap zs _ HL.out)).mono ?_)
  rintro e w1 ⟨he, hb1⟩
  have HB1 := Lib.hid hb1
  have HL1 := Lib.hid (HL.out.more hb1)
  clear hb1
  cases hr : rightL zs with
  | false =>
    rw [hr] at he
    subst he
    have HR := Lib.hid (show totalL zs = 0 by unfold totalL; rw [hr]; rfl)
    clear hr
    gi_wp2
    refine ⟨_, results_tmp rfl _ _ _, ?_, HB1.out⟩
    rw [HR.out]
    rfl
  | true =>
    rw [hr] at he
    subst he
    have HR := Lib.hid (show totalL zs = wsum zs by rw [wsum_right hr, total_right hr])
    clear hr
    have hBi : Below w1.heap.size w1 ((w1.alloc (.cells #[.int .i64 0] 3)).setCell ⟨w1.heap.size, 0, none⟩ (.int .i64 0)) := (Below.new w1 _).setCell (p := ⟨w1.heap.size, 0, none⟩) (by simp) _
    have hr0 := (Boxed.new w1 3 (.int .i64 0)).set (.int .i64 0)
    have hzi : ((w1.alloc (.cells #[.int .i64 0] 3)).setCell ⟨w1.heap.size, 0, none⟩ (.int .i64 0)).heap.size = w1.heap.size + 1 := by simp [World.setCell]
    obtain ⟨Wi, hWi⟩ : ∃ Wi, (w1.alloc (.cells #[.int .i64 0] 3)).setCell ⟨w1.heap.size, 0, none⟩ (.int .i64 0) = Wi := ⟨_, rfl⟩
    rw [hWi] at hBi hr0 hzi
    have HI := Lib.hid (And.intro hBi hr0)
    clear hBi hr0
    gi_wp2_with (refine ⟨trivial, ?_⟩; gi_at_call 37; refine (callsIn_wide.2 (lnAll_any ao len cap _)).mono ?_)
    rintro e W0 ⟨rfl, hc1, hc2, hz0, hb0⟩
    rw [hzi] at hc1 hc2 hz0
    have HA := Lib.hid (And.intro hc1 (And.intro hc2 (And.intro hz0 (And.intro (below_more HI.out.1 hb0) (boxed_more HI.out.2 hb0)))))
    clear hb0 hc1 hc2 HI
    rw [hzi]
    gi_wp2
    refine wpIn_rangeFunc_ownH rfl hn1 (gf := 59) (lb := #[.pointer (some ⟨w1.heap.size + 1, 0, none⟩), .pointer (some ⟨w1.heap.size + 1 + 1, 0, none⟩)]) rfl trivial (enters_of Tryd.func59 (by kernel_rfl) rfl)
      (all_stops (n - 1) (by omega) w1.heap.size W0.heap.size _ _ len cap ao zs hreach W0 (Nat.le_refl _) HA.out.1 HA.out.2.1 (by have := HA.out.2.2.1; omega) (by omega) (HL1.out.more HA.out.2.2.2.1) (HL1.out.apart HA.out.2.2.2.1 (by omega))) KX.trans (kxK_b (Nat.le_refl _)) (Below.refl _ _) (fun _ => rfl)
      (TtI w1) (fun _ _ _ => False) ?hI ?hIx ?h0
      (fun x a' W => ∃ Bx, W.cell? ⟨Bx, 3, none⟩ = some (.int .i64 x.u) ∧ a' = { tmps := #[.slice ao len cap, undef, .int .i64 0, .pointer (some ⟨w1.heap.size, 0, none⟩), .pointer (some ⟨Bx, 0, none⟩), .slice ao len cap, .bool true, .bool false, .slice ao len cap, .func (.func 59) #[] #[.pointer (some ⟨w1.heap.size + 1, 0, none⟩), .pointer (some ⟨w1.heap.size + 1 + 1, 0, none⟩)], .agg #[.int .i64 x.a.l, .int .u64 x.a.c, .int .i64 x.a.i, .int .i64 x.u], undef, undef, undef, undef, undef], defers := [] })
      ?hAx ?assign ?body ?done ?stop
    case hI =>
      exact OwnFrom.and (Own.from (fun s A B row hs hg hr => ⟨boxed_keep hs.1 hg hr, Nat.le_trans hs.2 hg.size⟩) _) (ownFrom_below (Nat.le_refl _) HA.out.2.2.2.1.size)
    case hIx => exact fun _ _ _ _ _ hs _ _ => hs
    case hAx =>
      rintro x a' _ A B row ⟨Bx, x0, rfl⟩ hg hr
      exact ⟨Bx, cell_kept x0 hg (fun r e => (hr r e).2), rfl⟩
    case h0 => exact ⟨⟨HA.out.2.2.2.2, by have := HA.out.2.2.1; omega⟩, HA.out.2.2.2.1⟩
    case assign =>
      rintro l pre x W K ⟨⟨hv, hs⟩, hB⟩ hK
      have HK := Lib.hid hK
      have HP := Lib.hid (And.intro hv hB)
      have hz := HA.out.2.2.1
      clear hK hv
      simp only [lnv]
      gi_wp2
      exact HK.out _ _ ((KeepsOthers.alloc _ _).from _) (KX.of_below ((Below.refl _ W).alloc (by omega) _)) ⟨⟨HP.out.1.alloc _, by simp; omega⟩, HP.out.2.alloc HP.out.2.size _⟩ ⟨W.heap.size, by simp, rfl⟩
    case body =>
      rintro l pre x a' W hl ⟨r, hr⟩ ⟨⟨hv, hs⟩, hB⟩ ⟨Bx, x3, rfl⟩ hlt
      have c0 := hv.cell
      have f0 := hv.frozen
      have HR := Lib.hid hr
      have HV := Lib.hid (And.intro hv hB)
      clear hr hv hB
      gi_wp2
      refine ⟨(KeepsOthers.setCell _ _ _).from _, KX.set _ _ _, ⟨?_, by simpa [World.setCell] using hs⟩, HV.out.2.setCell (p := ⟨w1.heap.size, 0, none⟩) (by simp) _⟩
      rw [wsum_snoc]
      exact HV.out.1.set _
    case done =>
      rintro D ys W hD rfl ⟨⟨hv, hs⟩, hB⟩ hK
      have hz := HA.out.2.2.1
      rw [show zs.filter (fun _ => true) = zs by simp] at hv
      have c0 := hv.cell
      have HK := Lib.hid (And.intro hB hK)
      clear hK hv hB
      have hD2 : w1.heap.size ≤ D := by omega
      gi_wp2
      refine ⟨by simp, .inl ⟨_, _, rfl, run_takeDeferred HK.out.2, ?_⟩⟩
      refine ⟨_, results_tmp rfl _ _ _, ?_, below_more HB1.out (HK.out.1.trans (belowK_b (w := w1) (Nat.le_refl _) _ D _ _ hD2 HK.out.2 rfl rfl))⟩
      rw [HR.out]
      rfl
    case stop =>
      rintro D c pre W _ _ h _
      exact h.elim

end Go.Proofs.YtpaaeojojbdikaaDoor
