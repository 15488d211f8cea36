/- find, before: how many objects are ahead of the first one that is as is asked. -/
import Derived.Test.YtnbpfbmhheimbaaGreatDoorSpCost
namespace Go.Proofs.YtnbpfbmhheimbaaGreatDoor
open Go.RowKit Go.Proofs.Fld Go.Proofs.Rng Go.Proofs.Spc Go.Shelf Go.Sort

attribute [local go_sem] Oper.semAt_some bs_toList

/-- A scope that no goto leaves, at the wide fence. -/
theorem wpIn_scope_sp {n : Nat} {P : Program} {c : Code} {Q : Exit → Act → World → Prop} {a : Act} {w : World} (h : c.wpIn Fence.wide n P (Exit.noGoto Q) a w) : (Code.scope c).wpIn Fence.wide n P Q a w :=
  wpIn_wide.2 (wp_scope_straight (wpIn_wide.1 h))
/-- A name in a box. -/
def Nm (W : World) (B : Nat) (s : It) : Prop := W.cell? ⟨B, 0, none⟩ = some (.string (bs s))
theorem Nm.lt {W : World} {B : Nat} {s : It} (h : Nm W B s) : B < W.heap.size := World.block_lt_of_cell? W _ h
theorem Nm.more {A B : World} {b : Nat} {s : It} (h : Nm A b s) (k : Below A.heap.size A B) : Nm B b s := cell_later k h
theorem Nm.new (W : World) (s : It) (t : TypeId) : Nm (W.alloc (.cells #[.string (bs s)] t)) W.heap.size s := by unfold Nm; simp
theorem nm_same (x y : It) : decide (x = y) = (x == y) := by
  by_cases h : x = y
  · subst h; simp
  · rw [decide_eq_false h, beq_eq_false_iff_ne.2 h]

set_option maxHeartbeats 1000000 in
theorem find1_any (x : Ov) (Bn : Nat) (s : It) (w : World) (h : Nm w Bn s) :
    Calls Tryz.prog 83 #[.agg #[.string (bs x.o.n), .int .i64 x.o.k, .string (bs x.o.d), .int .i64 x.o.m, .slice x.a x.o.l.length x.c], .pointer (some ⟨Bn, 0, none⟩)] w (BoolP (x.o.n == s) w) := by
  have hB := Below.new w (.cells #[.string (bs x.o.n), .int .i64 x.o.k, .string (bs x.o.d), .int .i64 x.o.m, .slice x.a x.o.l.length x.c] 55)
  have c0 : _ = _ := h.more hB
  go_enter Tryz.func83, Tryz.ntmps83
  go_wp2
  go_ret
  exact ⟨rfl, hB⟩
set_option maxHeartbeats 1000000 in
theorem before1_any (x : Ov) (Bn : Nat) (s : It) (w : World) (h : Nm w Bn s) :
    Calls Tryz.prog 106 #[.agg #[.string (bs x.o.n), .int .i64 x.o.k, .string (bs x.o.d), .int .i64 x.o.m, .slice x.a x.o.l.length x.c], .pointer (some ⟨Bn, 0, none⟩)] w (BoolP (!ltB x.o.n s) w) := by
  have hB := Below.new w (.cells #[.string (bs x.o.n), .int .i64 x.o.k, .string (bs x.o.d), .int .i64 x.o.m, .slice x.a x.o.l.length x.c] 55)
  have c0 : _ = _ := h.more hB
  go_enter Tryz.func106, Tryz.ntmps106
  go_wp2
  go_ret
  exact ⟨rfl, hB⟩

/-- ahead between two rounds. -/
def AhI (p : Ob → Bool) (f : Nat) (Bn : Nat) (w : World) (pre : List Ov) (W : World) : Prop := (Boxed W (w.heap.size + 1) 3 (.int .i64 (pre.length : Int)) ∧ Boxed W w.heap.size 62 (.func (.func f) #[] #[.pointer (some ⟨Bn, 0, none⟩)]) ∧ (∀ y ∈ pre, p y.o = false) ∧ w.heap.size + 3 ≤ W.heap.size) ∧ Below w.heap.size w W
/-- .. when a round has left. -/
def AhX (p : Ob → Bool) (w : World) (c : Code) (pre : List Ov) (W : World) : Prop := (c = .exit 0 ∧ ∃ q x, pre = q ++ [x] ∧ (∀ y ∈ q, p y.o = false) ∧ p x.o = true ∧ Boxed W (w.heap.size + 1) 3 (.int .i64 (q.length : Int))) ∧ Below w.heap.size w W
theorem AhI.own {p : Ob → Bool} {f Bn : Nat} {w : World} {n0 : Nat} (hn : w.heap.size ≤ n0) : OwnFrom n0 (AhI p f Bn w) := by
  rintro pre A W row ⟨⟨b0, b1, hp, hz⟩, hb⟩ hg hr
  have hb2 := ownFrom_below (β := List Ov) (n₀ := w.heap.size) (w₀ := w) (Nat.le_refl _) hn pre A W row hb hg hr
  exact ⟨⟨boxed_keep b0 hg (fun r e => (hr r e).2), boxed_keep b1 hg (fun r e => (hr r e).2), hp, Nat.le_trans hz hg.size⟩, hb2⟩
theorem AhX.own {p : Ob → Bool} {w : World} {n0 : Nat} (hn : w.heap.size ≤ n0) (c : Code) : OwnFrom n0 (AhX p w c) := by
  rintro pre A W row ⟨⟨hc, q, x, hx, hq, hpx, b0⟩, hb⟩ hg hr
  have hb2 := ownFrom_below (β := List Ov) (n₀ := w.heap.size) (w₀ := w) (Nat.le_refl _) hn pre A W row hb hg hr
  exact ⟨⟨hc, q, x, hx, hq, hpx, boxed_keep b0 hg (fun r e => (hr r e).2)⟩, hb2⟩
theorem ahead_end {p : Ob → Bool} {zs : List Ov} (h : ∀ y ∈ zs, p y.o = false) : aheadN p (obs zs) = zs.length := by
  rw [aheadN_all, obs_length]
  intro y hy
  obtain ⟨x, hx, rfl⟩ := obs_mem hy
  exact h x hx
theorem ahead_hit {p : Ob → Bool} {zs q : List Ov} {x : Ov} (h : ∀ y ∈ q, p y.o = false) (hx : p x.o = true) (hp : q ++ [x] <+: zs) : aheadN p (obs zs) = q.length := by
  obtain ⟨t, rfl⟩ := hp
  have e : obs (q ++ [x] ++ t) = obs q ++ x.o :: obs t := by simp [obs]
  rw [e, aheadN_at _ hx, obs_length]
  intro y hy
  obtain ⟨z, hz, rfl⟩ := obs_mem hy
  exact h z hz

set_option maxRecDepth 100000 in
set_option maxHeartbeats 4000000 in
theorem ahead_find (n : Nat) (hn : 3 ≤ n) (Bn : Nat) (s : It) (ao : Option Addr) (len cap : Nat) (zs : List Ov) (hreach : len ≤ 1000000) (w : World) (hL : Objs w ao len cap zs) (hs : Nm w Bn s) :
    CallsIn Fence.wide n Tryz.prog 82 #[.slice ao len cap, .func (.func 83) #[] #[.pointer (some ⟨Bn, 0, none⟩)]] w (IntP (aheadN (fun o => o.n == s) (obs zs) : Int) w) := by
  have hn1 : 1 ≤ n := by omega
  refine callsIn_of_wp_marks Tryz.func82 rfl trivial ?_ rfl
  simp only [Tryz.ntmps82, List.size_toArray, List.length_cons, List.length_nil, Nat.reduceAdd, Nat.reduceSub, Array.replicate_succ, Array.replicate_zero, List.push_toArray, List.append_toArray, List.nil_append, List.cons_append]
  have HL := Lib.hid (And.intro hL hs)
  have hlen := hL.hlen
  clear hL hs
  have hBi : Below w.heap.size w (((w.alloc (.cells #[.func (.func 83) #[] #[.pointer (some ⟨Bn, 0, none⟩)]] 62)).alloc (.cells #[.int .i64 0] 3)).setCell ⟨w.heap.size + 1, 0, none⟩ (.int .i64 0)) := ((Below.new w _).alloc (by simp) _).setCell (p := ⟨w.heap.size + 1, 0, none⟩) (by simp) _
  have hr0 : Boxed (((w.alloc (.cells #[.func (.func 83) #[] #[.pointer (some ⟨Bn, 0, none⟩)]] 62)).alloc (.cells #[.int .i64 0] 3)).setCell ⟨w.heap.size + 1, 0, none⟩ (.int .i64 0)) (w.heap.size + 1) 3 (.int .i64 0) := by
    have := Boxed.new (w.alloc (.cells #[.func (.func 83) #[] #[.pointer (some ⟨Bn, 0, none⟩)]] 62)) 3 (.int .i64 0)
    rw [World.size_alloc] at this
    exact this.set _
  have hl0 : Boxed (((w.alloc (.cells #[.func (.func 83) #[] #[.pointer (some ⟨Bn, 0, none⟩)]] 62)).alloc (.cells #[.int .i64 0] 3)).setCell ⟨w.heap.size + 1, 0, none⟩ (.int .i64 0)) w.heap.size 62 (.func (.func 83) #[] #[.pointer (some ⟨Bn, 0, none⟩)]) := ((Boxed.new w _ _).alloc _).other (by omega) _
  have hzi : (((w.alloc (.cells #[.func (.func 83) #[] #[.pointer (some ⟨Bn, 0, none⟩)]] 62)).alloc (.cells #[.int .i64 0] 3)).setCell ⟨w.heap.size + 1, 0, none⟩ (.int .i64 0)).heap.size = w.heap.size + 2 := by simp [World.setCell]
  obtain ⟨Wi, hWi⟩ : ∃ Wi, ((w.alloc (.cells #[.func (.func 83) #[] #[.pointer (some ⟨Bn, 0, none⟩)]] 62)).alloc (.cells #[.int .i64 0] 3)).setCell ⟨w.heap.size + 1, 0, none⟩ (.int .i64 0) = Wi := ⟨_, rfl⟩
  rw [hWi] at hBi hr0 hl0 hzi
  have HI := Lib.hid (And.intro hBi (And.intro hr0 hl0))
  clear hBi hr0 hl0
  gi_wp2
  refine wpIn_scope_sp ?_
  gi_wp2
  refine wpIn_label ?_
  gi_wp2_with (refine ⟨trivial, ?_⟩; gi_at_call 49; refine (callsIn_wide.2 (all_any ao len cap _)).mono ?_)
  rintro e W0 ⟨rfl, rfl⟩
  rw [hzi]
  have hb0 := Below.new Wi (.cells #[.slice ao len cap] 60)
  have hc1 : (Wi.alloc (.cells #[.slice ao len cap] 60)).cell? ⟨w.heap.size + 2, 0, none⟩ = some (.slice ao len cap) := by rw [← hzi]; simp
  have hz0 : (Wi.alloc (.cells #[.slice ao len cap] 60)).heap.size = w.heap.size + 3 := by rw [World.size_alloc, hzi]
  obtain ⟨W0, hW0⟩ : ∃ W0, Wi.alloc (.cells #[.slice ao len cap] 60) = W0 := ⟨_, rfl⟩
  rw [hW0] at hb0 hc1 hz0 ⊢
  have HA := Lib.hid (And.intro hc1 (And.intro hz0 (And.intro (below_more HI.out.1 hb0) (And.intro (boxed_more HI.out.2.1 hb0) (boxed_more HI.out.2.2 hb0)))))
  clear hb0 hc1 HI hW0
  gi_wp2
  refine wpIn_rangeY hn1 (gf := 104) (lb := #[.pointer (some ⟨w.heap.size + 2, 0, none⟩)]) rfl (enters_of Tryz.func104 (by kernel_rfl) rfl)
    (vals1 (n - 1) (by omega) (butX (w.heap.size + 3) (w.heap.size + 1)) (w.heap.size + 2) len cap ao zs hreach W0 (fun k hk => by have := hk.1; omega) HA.out.1 (HL.out.1.more HA.out.2.2.1) ?hap) KS.trans (ks_put (by omega)) (fun _ => rfl)
    (AhI (fun o => o.n == s) 83 Bn w) (AhX (fun o => o.n == s) w) ?hI ?hIx ?h0
    (fun x a' W => ∃ Bx, Bx ≠ w.heap.size + 1 ∧ ObAt W Bx 0 x ∧ a' = { tmps := #[.slice ao len cap, .func (.func 83) #[] #[.pointer (some ⟨Bn, 0, none⟩)], undef, .pointer (some ⟨w.heap.size, 0, none⟩), .int .i64 0, .pointer (some ⟨w.heap.size + 1, 0, none⟩), .pointer (some ⟨Bx, 0, none⟩), .slice ao len cap, .func (.func 104) #[] #[.pointer (some ⟨w.heap.size + 2, 0, none⟩)], .agg #[.string (bs x.o.n), .int .i64 x.o.k, .string (bs x.o.d), .int .i64 x.o.m, .slice x.a x.o.l.length x.c], undef, undef, undef, undef, undef, undef, undef], defers := [] })
    ?hAx ?assign ?body ?done ?stop
  case hap =>
    intro hp a e
    obtain ⟨b, off, e', hbl, _⟩ := HL.out.1.at hp
    rw [e] at e'
    obtain rfl := Option.some.inj e'
    exact ⟨by simp only; omega, by simp only; omega⟩
  case hI => exact AhI.own (by omega)
  case hIx => exact fun c => AhX.own (by omega) c
  case hAx =>
    rintro x a' _ A B row ⟨Bx, h0, h1, rfl⟩ hg hr
    exact ⟨Bx, h0, obat_keep h1 hg (fun r e => (hr r e).2), rfl⟩
  case h0 => exact ⟨⟨HA.out.2.2.2.1, HA.out.2.2.2.2, (fun y hy => by cases hy), by omega⟩, HA.out.2.2.1⟩
  case assign =>
    rintro l pre x W K ⟨⟨hv, hf, hp, hs⟩, hB⟩ hH hK
    have HK := Lib.hid hK
    have HP := Lib.hid (And.intro hp (And.intro hv (And.intro hf hB)))
    clear hK hv hp hf hB
    simp only [ov]
    gi_wp2
    exact HK.out _ _ ((KeepsOthers.alloc _ _).from _) (KS.of_below (m := W.heap.size) (Below.new W _) (fun k hk => by have := hk.1; omega)) ⟨⟨HP.out.2.1.alloc _, HP.out.2.2.1.alloc _, HP.out.1, by simp; omega⟩, HP.out.2.2.2.alloc HP.out.2.2.2.size _⟩ ⟨W.heap.size, by omega, ObAt.new W x _, rfl⟩
  case body =>
    rintro l pre x a' W ⟨⟨hv, hf, hp, hs⟩, hB⟩ hH ⟨Bx, hne, hx, rfl⟩
    have hpl : pre.length < len := by
      have := hH.length_le
      rw [List.length_append, List.length_cons, List.length_nil] at this
      omega
    obtain ⟨x0, x1, x2, x3, x4⟩ := id hx
    have f0 := hf.cell
    have HV := Lib.hid (And.intro hv (And.intro hp (And.intro hB hf)))
    have HN := Lib.hid (show Nm W Bn s from (hB.cell (p := ⟨Bn, 0, none⟩) HL.out.2.lt).trans HL.out.2)
    have hd : 1 ≤ n - 1 - 1 := by omega
    clear hv hp hB hf hx hH
    gi_wp2_with (refine ⟨trivial, ?_⟩; gi_at_call 83; refine (CallsIn.inRound l (callsIn_wide.2 (find1_any x Bn s W HN.out))).mono ?_)
    rintro e w1 ⟨rfl, hb1⟩
    have hV1 := boxed_more HV.out.1 hb1
    have c0 := hV1.cell
    have g0 := hV1.frozen
    have HB1 := Lib.hid (And.intro hb1 hV1)
    clear hb1 hV1
    cases hah : (fun o => o.n == s) x.o with
    | true =>
      have HX := Lib.hid hah
      have hah2 : (x.o.n == s) = true := hah
      clear hah
      rw [hah2]
      clear hah2
      gi_wp2
      exact ⟨(keeps_below HB1.out.1).from _, ⟨rfl, pre, x, rfl, HV.out.2.1, HX.out, HB1.out.2⟩, below_more HV.out.2.2.1 HB1.out.1⟩
    | false =>
      have HX := Lib.hid hah
      have hah2 : (x.o.n == s) = false := hah
      clear hah
      rw [hah2]
      clear hah2
      have hwr : IntKind.i64.wrap ((pre.length : Int) + 1) = (pre.length : Int) + 1 := by rw [IntKind.wrap_i64]; omega
      gi_wp2
      refine ⟨((keeps_below HB1.out.1).trans (KeepsOthers.setCell _ _ _)).from _, (KS.of_below HB1.out.1 (fun k hk => by have := hk.1; omega)).trans (KS.set _ _ _ _ (fun h => h.2 rfl)), ⟨?_, ?_, ?_, ?_⟩, (below_more HV.out.2.2.1 HB1.out.1).setCell (p := ⟨w.heap.size + 1, 0, none⟩) (by simp) _⟩
      · have := HB1.out.2.set (.int .i64 ((pre.length : Int) + 1))
        simpa using this
      · exact (boxed_more HV.out.2.2.2 HB1.out.1).other (by omega) _
      · intro y hy
        rcases List.mem_append.1 hy with h | h
        · exact HV.out.2.1 y h
        · obtain rfl : y = x := by simpa using h
          exact HX.out
      · have := HB1.out.1.size
        simp [World.setCell]
        omega
  case done =>
    rintro D ys W hD rfl ⟨⟨hv, hf, hp, hs⟩, hB⟩ hK
    have c0 := hv.cell
    have HU := Lib.hid (ahead_end (p := fun o => o.n == s) hp)
    have HK := Lib.hid (And.intro hB hK)
    clear hp hK hv hB hf
    have hD2 : w.heap.size ≤ D := by omega
    gi_wp2
    rw [Exit.noGoto_ret]
    refine ⟨by simp, .inl ⟨_, _, rfl, run_takeDeferred HK.out.2, ?_⟩⟩
    refine ⟨_, results_tmp rfl _ _ _, ?_, HK.out.1.trans (belowK_b (w := w) (Nat.le_refl _) _ D _ _ hD2 HK.out.2 rfl rfl)⟩
    rw [HU.out, hlen]
    rfl
  case stop =>
    rintro D c pre W hD hpre ⟨⟨rfl, q, x, rfl, hq, hpx, hv⟩, hB⟩ hK
    have HU := Lib.hid (ahead_hit (p := fun o => o.n == s) hq hpx hpre)
    have HK := Lib.hid (And.intro hB hK)
    have c0 := hv.cell
    have hD2 : w.heap.size ≤ D := by omega
    clear hK hpre hB hq hpx hv
    gi_wp2
    rw [Exit.noGoto_ret]
    gi_wp2
    refine ⟨by simp, .inl ⟨_, _, rfl, run_takeDeferred HK.out.2, ?_⟩⟩
    refine ⟨_, results_tmp rfl _ _ _, ?_, HK.out.1.trans (belowK_b (w := w) (Nat.le_refl _) _ D _ _ hD2 HK.out.2 rfl rfl)⟩
    rw [HU.out]
    rfl

set_option maxRecDepth 100000 in
set_option maxHeartbeats 4000000 in
theorem ahead_before (n : Nat) (hn : 3 ≤ n) (Bn : Nat) (s : It) (ao : Option Addr) (len cap : Nat) (zs : List Ov) (hreach : len ≤ 1000000) (w : World) (hL : Objs w ao len cap zs) (hs : Nm w Bn s) :
    CallsIn Fence.wide n Tryz.prog 82 #[.slice ao len cap, .func (.func 106) #[] #[.pointer (some ⟨Bn, 0, none⟩)]] w (IntP (aheadN (fun o => !ltB o.n s) (obs zs) : Int) w) := by
  have hn1 : 1 ≤ n := by omega
  refine callsIn_of_wp_marks Tryz.func82 rfl trivial ?_ rfl
  simp only [Tryz.ntmps82, List.size_toArray, List.length_cons, List.length_nil, Nat.reduceAdd, Nat.reduceSub, Array.replicate_succ, Array.replicate_zero, List.push_toArray, List.append_toArray, List.nil_append, List.cons_append]
  have HL := Lib.hid (And.intro hL hs)
  have hlen := hL.hlen
  clear hL hs
  have hBi : Below w.heap.size w (((w.alloc (.cells #[.func (.func 106) #[] #[.pointer (some ⟨Bn, 0, none⟩)]] 62)).alloc (.cells #[.int .i64 0] 3)).setCell ⟨w.heap.size + 1, 0, none⟩ (.int .i64 0)) := ((Below.new w _).alloc (by simp) _).setCell (p := ⟨w.heap.size + 1, 0, none⟩) (by simp) _
  have hr0 : Boxed (((w.alloc (.cells #[.func (.func 106) #[] #[.pointer (some ⟨Bn, 0, none⟩)]] 62)).alloc (.cells #[.int .i64 0] 3)).setCell ⟨w.heap.size + 1, 0, none⟩ (.int .i64 0)) (w.heap.size + 1) 3 (.int .i64 0) := by
    have := Boxed.new (w.alloc (.cells #[.func (.func 106) #[] #[.pointer (some ⟨Bn, 0, none⟩)]] 62)) 3 (.int .i64 0)
    rw [World.size_alloc] at this
    exact this.set _
  have hl0 : Boxed (((w.alloc (.cells #[.func (.func 106) #[] #[.pointer (some ⟨Bn, 0, none⟩)]] 62)).alloc (.cells #[.int .i64 0] 3)).setCell ⟨w.heap.size + 1, 0, none⟩ (.int .i64 0)) w.heap.size 62 (.func (.func 106) #[] #[.pointer (some ⟨Bn, 0, none⟩)]) := ((Boxed.new w _ _).alloc _).other (by omega) _
  have hzi : (((w.alloc (.cells #[.func (.func 106) #[] #[.pointer (some ⟨Bn, 0, none⟩)]] 62)).alloc (.cells #[.int .i64 0] 3)).setCell ⟨w.heap.size + 1, 0, none⟩ (.int .i64 0)).heap.size = w.heap.size + 2 := by simp [World.setCell]
  obtain ⟨Wi, hWi⟩ : ∃ Wi, ((w.alloc (.cells #[.func (.func 106) #[] #[.pointer (some ⟨Bn, 0, none⟩)]] 62)).alloc (.cells #[.int .i64 0] 3)).setCell ⟨w.heap.size + 1, 0, none⟩ (.int .i64 0) = Wi := ⟨_, rfl⟩
  rw [hWi] at hBi hr0 hl0 hzi
  have HI := Lib.hid (And.intro hBi (And.intro hr0 hl0))
  clear hBi hr0 hl0
  gi_wp2
  refine wpIn_scope_sp ?_
  gi_wp2
  refine wpIn_label ?_
  gi_wp2_with (refine ⟨trivial, ?_⟩; gi_at_call 49; refine (callsIn_wide.2 (all_any ao len cap _)).mono ?_)
  rintro e W0 ⟨rfl, rfl⟩
  rw [hzi]
  have hb0 := Below.new Wi (.cells #[.slice ao len cap] 60)
  have hc1 : (Wi.alloc (.cells #[.slice ao len cap] 60)).cell? ⟨w.heap.size + 2, 0, none⟩ = some (.slice ao len cap) := by rw [← hzi]; simp
  have hz0 : (Wi.alloc (.cells #[.slice ao len cap] 60)).heap.size = w.heap.size + 3 := by rw [World.size_alloc, hzi]
  obtain ⟨W0, hW0⟩ : ∃ W0, Wi.alloc (.cells #[.slice ao len cap] 60) = W0 := ⟨_, rfl⟩
  rw [hW0] at hb0 hc1 hz0 ⊢
  have HA := Lib.hid (And.intro hc1 (And.intro hz0 (And.intro (below_more HI.out.1 hb0) (And.intro (boxed_more HI.out.2.1 hb0) (boxed_more HI.out.2.2 hb0)))))
  clear hb0 hc1 HI hW0
  gi_wp2
  refine wpIn_rangeY hn1 (gf := 104) (lb := #[.pointer (some ⟨w.heap.size + 2, 0, none⟩)]) rfl (enters_of Tryz.func104 (by kernel_rfl) rfl)
    (vals1 (n - 1) (by omega) (butX (w.heap.size + 3) (w.heap.size + 1)) (w.heap.size + 2) len cap ao zs hreach W0 (fun k hk => by have := hk.1; omega) HA.out.1 (HL.out.1.more HA.out.2.2.1) ?hap) KS.trans (ks_put (by omega)) (fun _ => rfl)
    (AhI (fun o => !ltB o.n s) 106 Bn w) (AhX (fun o => !ltB o.n s) w) ?hI ?hIx ?h0
    (fun x a' W => ∃ Bx, Bx ≠ w.heap.size + 1 ∧ ObAt W Bx 0 x ∧ a' = { tmps := #[.slice ao len cap, .func (.func 106) #[] #[.pointer (some ⟨Bn, 0, none⟩)], undef, .pointer (some ⟨w.heap.size, 0, none⟩), .int .i64 0, .pointer (some ⟨w.heap.size + 1, 0, none⟩), .pointer (some ⟨Bx, 0, none⟩), .slice ao len cap, .func (.func 104) #[] #[.pointer (some ⟨w.heap.size + 2, 0, none⟩)], .agg #[.string (bs x.o.n), .int .i64 x.o.k, .string (bs x.o.d), .int .i64 x.o.m, .slice x.a x.o.l.length x.c], undef, undef, undef, undef, undef, undef, undef], defers := [] })
    ?hAx ?assign ?body ?done ?stop
  case hap =>
    intro hp a e
    obtain ⟨b, off, e', hbl, _⟩ := HL.out.1.at hp
    rw [e] at e'
    obtain rfl := Option.some.inj e'
    exact ⟨by simp only; omega, by simp only; omega⟩
  case hI => exact AhI.own (by omega)
  case hIx => exact fun c => AhX.own (by omega) c
  case hAx =>
    rintro x a' _ A B row ⟨Bx, h0, h1, rfl⟩ hg hr
    exact ⟨Bx, h0, obat_keep h1 hg (fun r e => (hr r e).2), rfl⟩
  case h0 => exact ⟨⟨HA.out.2.2.2.1, HA.out.2.2.2.2, (fun y hy => by cases hy), by omega⟩, HA.out.2.2.1⟩
  case assign =>
    rintro l pre x W K ⟨⟨hv, hf, hp, hs⟩, hB⟩ hH hK
    have HK := Lib.hid hK
    have HP := Lib.hid (And.intro hp (And.intro hv (And.intro hf hB)))
    clear hK hv hp hf hB
    simp only [ov]
    gi_wp2
    exact HK.out _ _ ((KeepsOthers.alloc _ _).from _) (KS.of_below (m := W.heap.size) (Below.new W _) (fun k hk => by have := hk.1; omega)) ⟨⟨HP.out.2.1.alloc _, HP.out.2.2.1.alloc _, HP.out.1, by simp; omega⟩, HP.out.2.2.2.alloc HP.out.2.2.2.size _⟩ ⟨W.heap.size, by omega, ObAt.new W x _, rfl⟩
  case body =>
    rintro l pre x a' W ⟨⟨hv, hf, hp, hs⟩, hB⟩ hH ⟨Bx, hne, hx, rfl⟩
    have hpl : pre.length < len := by
      have := hH.length_le
      rw [List.length_append, List.length_cons, List.length_nil] at this
      omega
    obtain ⟨x0, x1, x2, x3, x4⟩ := id hx
    have f0 := hf.cell
    have HV := Lib.hid (And.intro hv (And.intro hp (And.intro hB hf)))
    have HN := Lib.hid (show Nm W Bn s from (hB.cell (p := ⟨Bn, 0, none⟩) HL.out.2.lt).trans HL.out.2)
    have hd : 1 ≤ n - 1 - 1 := by omega
    clear hv hp hB hf hx hH
    gi_wp2_with (refine ⟨trivial, ?_⟩; gi_at_call 106; refine (CallsIn.inRound l (callsIn_wide.2 (before1_any x Bn s W HN.out))).mono ?_)
    rintro e w1 ⟨rfl, hb1⟩
    have hV1 := boxed_more HV.out.1 hb1
    have c0 := hV1.cell
    have g0 := hV1.frozen
    have HB1 := Lib.hid (And.intro hb1 hV1)
    clear hb1 hV1
    cases hah : (fun o => !ltB o.n s) x.o with
    | true =>
      have HX := Lib.hid hah
      have hah2 : (!ltB x.o.n s) = true := hah
      clear hah
      rw [hah2]
      clear hah2
      gi_wp2
      exact ⟨(keeps_below HB1.out.1).from _, ⟨rfl, pre, x, rfl, HV.out.2.1, HX.out, HB1.out.2⟩, below_more HV.out.2.2.1 HB1.out.1⟩
    | false =>
      have HX := Lib.hid hah
      have hah2 : (!ltB x.o.n s) = false := hah
      clear hah
      rw [hah2]
      clear hah2
      have hwr : IntKind.i64.wrap ((pre.length : Int) + 1) = (pre.length : Int) + 1 := by rw [IntKind.wrap_i64]; omega
      gi_wp2
      refine ⟨((keeps_below HB1.out.1).trans (KeepsOthers.setCell _ _ _)).from _, (KS.of_below HB1.out.1 (fun k hk => by have := hk.1; omega)).trans (KS.set _ _ _ _ (fun h => h.2 rfl)), ⟨?_, ?_, ?_, ?_⟩, (below_more HV.out.2.2.1 HB1.out.1).setCell (p := ⟨w.heap.size + 1, 0, none⟩) (by simp) _⟩
      · have := HB1.out.2.set (.int .i64 ((pre.length : Int) + 1))
        simpa using this
      · exact (boxed_more HV.out.2.2.2 HB1.out.1).other (by omega) _
      · intro y hy
        rcases List.mem_append.1 hy with h | h
        · exact HV.out.2.1 y h
        · obtain rfl : y = x := by simpa using h
          exact HX.out
      · have := HB1.out.1.size
        simp [World.setCell]
        omega
  case done =>
    rintro D ys W hD rfl ⟨⟨hv, hf, hp, hs⟩, hB⟩ hK
    have c0 := hv.cell
    have HU := Lib.hid (ahead_end (p := fun o => !ltB o.n s) hp)
    have HK := Lib.hid (And.intro hB hK)
    clear hp hK hv hB hf
    have hD2 : w.heap.size ≤ D := by omega
    gi_wp2
    rw [Exit.noGoto_ret]
    refine ⟨by simp, .inl ⟨_, _, rfl, run_takeDeferred HK.out.2, ?_⟩⟩
    refine ⟨_, results_tmp rfl _ _ _, ?_, HK.out.1.trans (belowK_b (w := w) (Nat.le_refl _) _ D _ _ hD2 HK.out.2 rfl rfl)⟩
    rw [HU.out, hlen]
    rfl
  case stop =>
    rintro D c pre W hD hpre ⟨⟨rfl, q, x, rfl, hq, hpx, hv⟩, hB⟩ hK
    have HU := Lib.hid (ahead_hit (p := fun o => !ltB o.n s) hq hpx hpre)
    have HK := Lib.hid (And.intro hB hK)
    have c0 := hv.cell
    have hD2 : w.heap.size ≤ D := by omega
    clear hK hpre hB hq hpx hv
    gi_wp2
    rw [Exit.noGoto_ret]
    gi_wp2
    refine ⟨by simp, .inl ⟨_, _, rfl, run_takeDeferred HK.out.2, ?_⟩⟩
    refine ⟨_, results_tmp rfl _ _ _, ?_, HK.out.1.trans (belowK_b (w := w) (Nat.le_refl _) _ D _ _ hD2 HK.out.2 rfl rfl)⟩
    rw [HU.out]
    rfl

set_option maxHeartbeats 1000000 in
theorem find_any (s : It) (ao : Option Addr) (len cap : Nat) (zs : List Ov) (hreach : len ≤ 1000000) (w : World) (hL : Objs w ao len cap zs) :
    Calls Tryz.prog 48 #[.slice ao len cap, .string (bs s)] w (IntP (findI (obs zs) s) w) := by
  have hB := Below.new w (.cells #[.string (bs s)] 9)
  have HC := Lib.hid ((callsIn_wide (n := 3)).1 (ahead_find 3 (by omega) w.heap.size s ao len cap zs hreach _ (hL.more hB) (Nm.new w s 9)))
  have hle := aheadN_le (fun o => o.n == s) (obs zs)
  rw [obs_length, hL.hlen] at hle
  have hI : findI (obs zs) s = if aheadN (fun o => o.n == s) (obs zs) = len then -1 else (aheadN (fun o => o.n == s) (obs zs) : Int) := by
    unfold findI findN
    rw [obs_length, hL.hlen]
  rw [hI]
  clear hI
  obtain ⟨k, hk⟩ : ∃ k, aheadN (fun o => o.n == s) (obs zs) = k := ⟨_, rfl⟩
  rw [hk] at HC hle ⊢
  have HB := Lib.hid hB
  clear hL hB hk
  by_cases h : k = len
  · subst h
    rw [if_pos rfl]
    go_enter Tryz.func48, Tryz.ntmps48
    go_wp2_with (go_at_call 82; refine HC.out.mono ?_)
    rintro e w1 ⟨rfl, hb1⟩
    have HB1 := Lib.hid (below_more HB.out hb1)
    clear hb1
    go_wp2
    go_ret
    exact ⟨rfl, HB1.out⟩
  · have h2 : ((k : Int) == (len : Int)) = false := by rw [beq_eq_false_iff_ne]; omega
    have h3 : ¬ (k : Int) = (len : Int) := by omega
    rw [if_neg h]
    go_enter Tryz.func48, Tryz.ntmps48
    go_wp2_with (go_at_call 82; refine HC.out.mono ?_)
    rintro e w1 ⟨rfl, hb1⟩
    have HB1 := Lib.hid (below_more HB.out hb1)
    clear hb1
    go_wp2
    go_ret
    exact ⟨rfl, HB1.out⟩
set_option maxHeartbeats 1000000 in
theorem before_any (s : It) (ao : Option Addr) (len cap : Nat) (zs : List Ov) (hreach : len ≤ 1000000) (w : World) (hL : Objs w ao len cap zs) :
    Calls Tryz.prog 89 #[.slice ao len cap, .string (bs s)] w (IntP (befN (obs zs) s : Int) w) := by
  have hB := Below.new w (.cells #[.string (bs s)] 9)
  have HC := Lib.hid ((callsIn_wide (n := 3)).1 (ahead_before 3 (by omega) w.heap.size s ao len cap zs hreach _ (hL.more hB) (Nm.new w s 9)))
  have HB := Lib.hid hB
  clear hL hB
  go_enter Tryz.func89, Tryz.ntmps89
  go_wp2_with (go_at_call 82; refine HC.out.mono ?_)
  rintro e w1 ⟨rfl, hb1⟩
  have HB1 := Lib.hid (below_more HB.out hb1)
  clear hb1
  go_wp2
  go_ret
  exact ⟨rfl, HB1.out⟩
set_option maxHeartbeats 1000000 in
theorem Find_p {s : It} {ao : Option Addr} {len cap : Nat} {zs : List Ov} {i : Int} (hi : findI (obs zs) s = i) (hreach : len ≤ 1000000) {w : World} (hL : Objs w ao len cap zs) :
    Calls Tryz.prog 21 #[.slice ao len cap, .string (bs s)] w (IntP i w) := by
  have HC := Lib.hid (find_any s ao len cap zs hreach w hL)
  rw [hi] at HC
  clear hL hi
  go_enter Tryz.func21, Tryz.ntmps21
  go_wp2_with (go_at_call 48; refine HC.out.mono ?_)
  rintro e w1 ⟨rfl, hb1⟩
  have HB1 := Lib.hid hb1
  clear hb1
  go_wp2
  go_ret
  exact ⟨rfl, HB1.out⟩

end Go.Proofs.YtnbpfbmhheimbaaGreatDoor
