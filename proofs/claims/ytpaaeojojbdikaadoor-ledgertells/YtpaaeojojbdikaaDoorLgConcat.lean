/- Grow, Concat: lines put together in new memory. -/
import Derived.Test.YtpaaeojojbdikaaDoorLgCut
import Derived.Laws.AppendOwnNone
namespace Go.Proofs.YtpaaeojojbdikaaDoor
open Go.RowKit Go.Proofs.Cats Go.Proofs.Lgr Go.Shelf Go.Sort

/-- What an append leaves. -/
def AppQ (base e size : Nat) (v : Value) (w : World) (v' : Value) (n : Nat) (xs : List Value) (w' : World) : Prop := w'.ownsRow base e size v' n xs ∧ w.grownBy w' v.ownBlock
/-- append(buf, xs...) where buf is the call's own, and xs came in: nil or not. -/
theorem wpList_append_some {P : Program} (w : World) {ops : Array Oper} {rest : List Oper} {o : Oper} {a : Act} {Q : Exit → Act → World → Prop} (hgd : o.guard = none) (sl x : Operand) (t : TypeId)
    (ho : o.op = .call { callee := .builtin .append, args := #[sl, x], argTypes := #[t, t] })
    (base : Nat) (e : TypeId) (i : TypeInfo) (z : Value) (size bytes : Nat) (ht : P.underlying t = some (.slice e)) (hi : P.info? e = some i) (hz : i.zero = some z)
    (hsize : i.size = size) (hby : i.bytes = bytes) (hzs : z.cells.size = size) (hsz : 0 < size)
    (v : Value) (n : Nat) (xs : List Value) (hs : a.eval sl = v) (hown : w.ownsRow base e size v n xs)
    (ao : Option Addr) (m c : Nat) (news : List Value) (hx : a.eval x = .slice ao m c) (hl : news.length = m * size) (hnone : ao = none → m = 0 ∧ c = 0) (hnews : ∀ ad, ao = some ad → ∀ j u, news[j]? = some u → w.cell? (ad.add j) = some u) (h1 : ∀ u ∈ news, u.oneCell' = true)
    (h63 : n + m ≤ maxLen) (hbytes : (n + m) * bytes ≤ 140737488355328) (hbase : base ≤ w.heap.size)
    (h : ∀ v' w', AppQ base e size v w v' (n + m) (xs ++ news) w' → wpList P ops Q rest (a.put o.dst v') w') : wpList P ops Q (o :: rest) a w := by
  cases ao with
  | none =>
    obtain ⟨rfl, rfl⟩ := hnone rfl
    have hn : news = [] := List.eq_nil_of_length_eq_zero (by rw [hl]; omega)
    subst hn
    exact wpList_append_own_none hgd sl x t ho base e i size ht hi v n xs hs hown hx (h v w ⟨by rw [List.append_nil]; exact hown, World.grownBy.refl w _⟩)
  | some ad => exact wpList_append_own w hgd sl x t ho base e i z size bytes ht hi hz hsize hby hzs hsz v n xs hs hown ad m c news hx hl (hnews ad rfl) h1 h63 hbytes hbase (fun v' w' h2 h3 _ => h v' w' ⟨h2, h3⟩)
/-- append, at a run that is known. -/
theorem wpList_append_run {P : Program} (w : World) {ops : Array Oper} {rest : List Oper} {o : Oper} {a : Act} {Q : Exit → Act → World → Prop} (hgd : o.guard = none) (s x : Operand) (t tn : TypeId)
    (ho : o.op = .call { callee := .builtin .append, args := #[s, x], argTypes := #[t, tn] }) (vs vx v' : Value) (w' : World) (hs : a.eval s = vs) (hx : a.eval x = vx)
    (hrun : (Builtin.append_ #[t, tn] o.type #[vs, vx]).run P w = .ok v' w') (h : wpList P ops Q rest (a.put o.dst v') w') : wpList P ops Q (o :: rest) a w := by
  refine wpList_plain hgd fun K hK => ?_
  unfold Oper.wp
  simp [execOp, ho, resolve, invoke, builtin, hs, hx, hrun, Result.andThen]
  exact hK _ _ h
theorem Lns.news {W : World} {ao : Option Addr} {len cap : Nat} {zs : List Ln} (h : Lns W ao len cap zs) : ∀ ad, ao = some ad → ∀ j u, (lcl zs)[j]? = some u → W.cell? (ad.add j) = some u := by
  intro ad had j u hu
  have hz : zs ≠ [] := fun h0 => by rw [h0] at hu; simp [lcl] at hu
  obtain ⟨b, off, hao, hc⟩ := h.hcells hz
  rw [had] at hao
  obtain rfl := Option.some.inj hao
  exact lns_cells hc j u hu
theorem Lns.nones {W : World} {ao : Option Addr} {len cap : Nat} {zs : List Ln} (h : Lns W ao len cap zs) : ao = none → len = 0 ∧ cap = 0 := fun e => by
  have := h.hnone e
  have := h.hle
  omega

theorem row_slice {w : World} {base e size : Nat} {n : Nat} {v : Value} {xs : List Value} (h : w.ownsRow base e size v n xs) : ∃ a cap, v = .slice a n cap := by
  rcases h.2 with ⟨rfl, rfl⟩ | ⟨g, cap, cur, rfl, _⟩
  · exact ⟨none, 0, rfl⟩
  · exact ⟨_, cap, rfl⟩
/-- What Grow leaves. -/
def GrowP (w : World) (e : Ending) (w' : World) : Prop := ∃ a c, e = .returned (.slice a 0 c) ∧ OwnL w.heap.size w' (.slice a 0 c) [] ∧ Below w.heap.size w w'

set_option maxRecDepth 100000 in
set_option maxHeartbeats 4000000 in
theorem grow_any (n : Nat) (hn : n ≤ 1000000) (w : World) : Calls Tryd.prog 69 #[.slice none 0 0, .int .i64 (n : Int)] w (GrowP w) := by
  obtain ⟨i0, hi, hz0, hz1, hz2⟩ := info_parts infoLn
  by_cases h0 : n = 0
  · subst h0
    go_enter Tryd.func69, Tryd.ntmps69
    go_wp2
    go_ret
    exact ⟨_, _, rfl, OwnL.nil _ _, Below.refl _ _⟩
  · have hg := grownCap_ge w n 0 43
    have hm := grownCap_le_maxLen w n 0 43 (by unfold maxLen; omega)
    have hr : ∀ ty, (Builtin.append_ #[51, 3] ty #[.slice none 0 0, .int .i64 (n : Int)]).run Tryd.prog w = _ := fun ty => Lib.run_append_nil_zeros w _ _ ty 43 i0 _ .i64 .i64 Tryd.underlying51 Tryd.underlying3 hi hz0 n (by omega) (by rw [hz1]; decide) (by omega) (by rw [hz2]; omega)
    obtain ⟨G, hG⟩ : ∃ G, grownCap w n 0 43 = G := ⟨_, rfl⟩
    rw [hG] at hr hg hm
    obtain ⟨M, hM⟩ : ∃ M, Builtin.zeroCells (Value.agg #[.int .i64 0, .int .u64 0, .int .i64 0, .int .i64 0]).cells n ++ Builtin.zeroCells (Value.agg #[.int .i64 0, .int .u64 0, .int .i64 0, .int .i64 0]).cells (G - n) = M := ⟨_, rfl⟩
    have hMs : M.size = G * 4 := by
      rw [← hM, Array.size_append, size_zeroCells, size_zeroCells]
      show n * 4 + (G - n) * 4 = G * 4
      omega
    rw [hM] at hr
    clear hM hG
    have h1 : ¬ ((n : Int) < 0) := by omega
    have h4 : (n : Int) > 0 := by omega
    have hG63 : G ≤ 9223372036854775807 := by unfold maxLen at hm; exact hm
    have HO := Lib.hid (show OwnL w.heap.size (w.drew.alloc (.cells M 43)) (.slice (some ⟨w.heap.size, 0, none⟩) 0 G) [] from ⟨rfl, .inr ⟨w.heap.size, G, M, rfl, Nat.le_refl _, World.alloc_heap_new w.drew _, Nat.zero_le _, hm, hMs, by simp [lcl]⟩⟩)
    have HB := Lib.hid (show Below w.heap.size w (w.drew.alloc (.cells M 43)) from (Below.refl _ w).drew.alloc (Nat.le_refl _) _)
    clear hm hMs
    go_enter Tryd.func69, Tryd.ntmps69
    have HR := Lib.hid hr
    clear hr
    go_wp2_with (at_builtin; refine wpList_append_run _ rfl _ _ 51 3 rfl _ _ _ _ rfl rfl (HR.out _) ?_)
    go_ret
    exact ⟨_, _, rfl, HO.out, HB.out⟩

set_option maxRecDepth 100000 in
set_option maxHeartbeats 4000000 in
theorem concat_any (T : Nat) (a1 a2 : Option Addr) (k1 k2 c1 c2 : Nat) (l m : List Ln) (hk1 : k1 ≤ 400000) (hk2 : k2 ≤ 400000) (w : World) (t0 : w.cell? ⟨T, 0, none⟩ = some (.slice a1 k1 c1)) (t1 : w.cell? ⟨T, 1, none⟩ = some (.slice a2 k2 c2)) (h1 : Lns w a1 k1 c1 l) (h2 : Lns w a2 k2 c2 m) :
    Calls Tryd.prog 62 #[.slice (some ⟨T, 0, none⟩) 2 2] w (SeqP (l ++ m) w) := by
  obtain ⟨i0, hi, hz0, hz1, hz2⟩ := info_parts infoLn
  have HH := Lib.hid (And.intro h1 (And.intro h2 (And.intro t0 t1)))
  have hw1 : IntKind.i64.wrap (k1 : Int) = k1 := by rw [IntKind.wrap_i64]; omega
  have hw2 : IntKind.i64.wrap ((k1 : Int) + k2) = (k1 : Int) + k2 := by rw [IntKind.wrap_i64]; omega
  clear h1 h2
  go_enter Tryd.func62, Tryd.ntmps62
  go_wp2
  refine wp_loop_rounds 3 ?_
  rw [rounds_succ]
  go_wp2
  rw [rounds_succ]
  go_wp2
  rw [rounds_succ]
  go_wp2_with (go_at_call 69; rw [show (k1 : Int) + (k2 : Int) = ((k1 + k2 : Nat) : Int) by omega]; refine (grow_any (k1 + k2) (by omega) w).mono ?_)
  rintro e w1 ⟨ga, gc, rfl, hO, hb1⟩
  have HO := Lib.hid hO
  have HB1 := Lib.hid hb1
  have s0 := cell_later hb1 HH.out.2.2.1
  have s1 := cell_later hb1 HH.out.2.2.2
  clear hO hb1 t0 t1
  have hT : T < w.heap.size := World.block_lt_of_cell? w _ HH.out.2.2.1
  have hl1 := HH.out.1.hlen
  have hl2 := HH.out.2.1.hlen
  have HL1 := Lib.hid (And.intro (HH.out.1.more HB1.out).news (And.intro HH.out.1.nones (show (lcl l).length = k1 * 4 by rw [lcl_length, hl1])))
  go_wp2
  refine wp_loop_rounds 3 ?_
  rw [rounds_succ]
  go_wp2_with (at_builtin; go_loud (refine wpList_append_some _ rfl _ _ 51 rfl w.heap.size 43 i0 (.agg #[.int .i64 0, .int .u64 0, .int .i64 0, .int .i64 0]) 4 32 Tryd.underlying51 hi hz0 hz1 hz2 rfl (by decide) (.slice ga 0 gc) 0 [] rfl HO.out a1 k1 c1 (lcl l) rfl HL1.out.2.2 HL1.out.2.1 HL1.out.1 (lcl_one _) (by unfold maxLen; omega) (by omega) HB1.out.size ?_))
  rintro v1 wA ⟨hown1, hgrow1⟩
  have bA : Below w.heap.size w wA := HB1.out.grown hgrow1 HB1.out.size (fun k e => (World.ownsRow.lt HO.out k e).1)
  have HA := Lib.hid (And.intro bA hown1)
  obtain ⟨va, vc, rfl⟩ := row_slice hown1
  have q1 : wA.cell? ⟨T, 1, none⟩ = some (.slice a2 k2 c2) := (bA.cell (p := ⟨T, 1, none⟩) hT).trans HH.out.2.2.2
  have HL2 := Lib.hid (And.intro (HH.out.2.1.more bA).news (And.intro HH.out.2.1.nones (show (lcl m).length = k2 * 4 by rw [lcl_length, hl2])))
  clear hown1 hgrow1 bA s0 s1
  go_wp2
  rw [rounds_succ]
  go_wp2_with (at_builtin; go_loud (refine wpList_append_some _ rfl _ _ 51 rfl w.heap.size 43 i0 (.agg #[.int .i64 0, .int .u64 0, .int .i64 0, .int .i64 0]) 4 32 Tryd.underlying51 hi hz0 hz1 hz2 rfl (by decide) (.slice va k1 vc) k1 (lcl l) rfl HA.out.2 a2 k2 c2 (lcl m) rfl HL2.out.2.2 HL2.out.2.1 HL2.out.1 (lcl_one _) (by unfold maxLen; omega) (by omega) HA.out.1.size ?_))
  rintro v2 wB ⟨hown2, hgrow2⟩
  have bB : Below w.heap.size w wB := HA.out.1.grown hgrow2 HA.out.1.size (fun k e => (World.ownsRow.lt HA.out.2 k e).1)
  obtain ⟨vb, vd, rfl⟩ := row_slice hown2
  have hlen : (l ++ m).length = k1 + k2 := by rw [List.length_append, hl1, hl2]
  have HF := Lib.hid (show OwnL w.heap.size wB (.slice vb (k1 + k2) vd) (l ++ m) by
    unfold OwnL
    rw [hlen, lcl_append]
    exact hown2)
  have HB := Lib.hid bB
  clear hown2 hgrow2 bB q1
  go_wp2
  rw [rounds_succ]
  go_wp2
  go_ret
  exact ⟨vb, vd, by rw [hlen]; rfl, by rw [hlen]; exact HF.out, HB.out⟩

end Go.Proofs.YtpaaeojojbdikaaDoor
