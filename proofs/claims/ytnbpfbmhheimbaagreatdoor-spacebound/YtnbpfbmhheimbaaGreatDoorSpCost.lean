/- cost: of an object, of all. -/
import Derived.Test.YtnbpfbmhheimbaaGreatDoorSpIter
namespace Go.Proofs.YtnbpfbmhheimbaaGreatDoor
open Go.RowKit Go.Proofs.Fld Go.Proofs.Rng Go.Proofs.Spc Go.Shelf Go.Sort

attribute [local go_sem] Oper.semAt_some

theorem ObAt.set {W : World} {b o X : Nat} {x : Ov} {v : Value} (h : ObAt W b o x) (hne : b ≠ X) : ObAt (W.setCell ⟨X, 0, none⟩ v) b o x := h.of_block (Below.heap_setCell _ _ _ _ (fun e => hne e))
theorem obat_keep {A B : World} {row : Option Nat} {b o : Nat} {x : Ov} (h : ObAt A b o x) (hg : A.grownBy B row) (hr : ∀ r, row = some r → ∃ o : Obj, A.heap[r]? = some o ∧ o.isCells = false) : ObAt B b o x :=
  ⟨cell_kept h.1 hg hr, cell_kept h.2.1 hg hr, cell_kept h.2.2.1 hg hr, cell_kept h.2.2.2.1 hg hr, cell_kept h.2.2.2.2 hg hr⟩

set_option maxHeartbeats 1000000 in
theorem cost1_any (x : Ov) (hf : fair x.o) (w : World) : Calls Tryz.prog 81 #[.agg #[.string (bs x.o.n), .int .i64 x.o.k, .string (bs x.o.d), .int .i64 x.o.m, .slice x.a x.o.l.length x.c]] w (IntP (costO x.o) w) := by
  obtain ⟨h1, h2, h3, h4⟩ := hf
  have z1 := bs_size x.o.n
  have z2 := bs_size x.o.d
  have e1 : IntKind.i64.wrap (10 + (x.o.n.length : Int)) = 10 + (x.o.n.length : Int) := by rw [IntKind.wrap_i64]; omega
  have e2 : IntKind.i64.wrap (10 + (x.o.n.length : Int) + (x.o.d.length : Int)) = 10 + (x.o.n.length : Int) + (x.o.d.length : Int) := by rw [IntKind.wrap_i64]; omega
  have e3 : IntKind.i64.wrap (10 + (x.o.n.length : Int) + (x.o.d.length : Int) + x.o.m) = 10 + (x.o.n.length : Int) + (x.o.d.length : Int) + x.o.m := by rw [IntKind.wrap_i64]; omega
  clear h1 h2 h3 h4
  go_enter Tryz.func81, Tryz.ntmps81
  go_wp2
  go_ret
  exact ⟨rfl, Below.new _ _⟩

/-- Blocks ahead of a loop, but one. -/
def butX (m X : Nat) (k : Nat) : Prop := k < m ∧ k ≠ X
theorem ks_put {w : World} {m X : Nat} (hm : m ≤ w.heap.size) (W : World) (o o' : Obj) (_ : W.heap[w.heap.size + 1]? = some o) (_ : o.isCells = false) (_ : o.isWalk = false) : KS (butX m X) W (W.putObj (w.heap.size + 1) o') := KS.put _ _ _ (fun h => by have := h.1; omega)
/-- cost between two rounds. -/
def CoI (w : World) (pre : List Ov) (W : World) : Prop := (Boxed W w.heap.size 3 (.int .i64 (costS (obs pre))) ∧ w.heap.size + 2 ≤ W.heap.size) ∧ Below w.heap.size w W
theorem CoI.own {w : World} {n0 : Nat} (hn : w.heap.size ≤ n0) : OwnFrom n0 (CoI w) := by
  rintro pre A W row ⟨⟨b0, hz⟩, hb⟩ hg hr
  have hb2 := ownFrom_below (β := List Ov) (n₀ := w.heap.size) (w₀ := w) (Nat.le_refl _) hn pre A W row hb hg hr
  exact ⟨⟨boxed_keep b0 hg (fun r e => (hr r e).2), Nat.le_trans hz hg.size⟩, hb2⟩
/-- What a round of cost leaves. -/
theorem cost_round {w W w1 : World} {pre : List Ov} {x : Ov} {s : Int} {Bx : Nat} (h : Bx ≠ w.heap.size ∧ Below w.heap.size w W ∧ costS (obs pre) = s ∧ w.heap.size + 2 ≤ W.heap.size) (hb1 : Below W.drew.heap.size W.drew w1) (b1 : Boxed w1 w.heap.size 3 (.int .i64 s)) :
    KeepsFrom (w.heap.size + 2) W (w1.setCell ⟨w.heap.size, 0, none⟩ (.int .i64 (s + costO x.o))) ∧ KS (butX (w.heap.size + 2) w.heap.size) W (w1.setCell ⟨w.heap.size, 0, none⟩ (.int .i64 (s + costO x.o))) ∧ CoI w (pre ++ [x]) (w1.setCell ⟨w.heap.size, 0, none⟩ (.int .i64 (s + costO x.o))) := by
  obtain ⟨h0, h1, h2, h4⟩ := h
  have hb2 : Below W.heap.size W w1 := (Below.refl _ W).drew.trans hb1
  refine ⟨((keeps_below hb2).trans (KeepsOthers.setCell _ _ _)).from _, (KS.of_below hb2 (fun k hk => by have := hk.1; omega)).trans (KS.set _ _ _ _ (fun h => h.2 rfl)), ⟨?_, ?_⟩, ?_⟩
  · rw [obs_append, costS_append, h2]
    have : costS (obs [x]) = costO x.o := by simp [obs, costS]
    rw [this]
    exact b1.set _
  · exact Nat.le_trans h4 (Nat.le_trans hb2.size (by simp [World.setCell]))
  · exact (below_more h1 (hb2.mono (Nat.le_refl _))).setCell (p := ⟨w.heap.size, 0, none⟩) (Nat.le_refl _) _

set_option maxRecDepth 100000 in
set_option maxHeartbeats 4000000 in
theorem cost_in (n : Nat) (hn : 3 ≤ n) (ao : Option Addr) (len cap : Nat) (zs : List Ov) (hreach : len ≤ 1000000) (hf : ∀ x ∈ zs, fair x.o) (w : World) (hL : Objs w ao len cap zs) :
    CallsIn Fence.wide n Tryz.prog 47 #[.slice ao len cap] w (IntP (costS (obs zs)) w) := by
  have hn1 : 1 ≤ n := by omega
  refine callsIn_of_wp_marks Tryz.func47 rfl trivial ?_ rfl
  simp only [Tryz.ntmps47, List.size_toArray, List.length_cons, List.length_nil, Nat.reduceAdd, Nat.reduceSub, Array.replicate_succ, Array.replicate_zero, List.push_toArray, List.append_toArray, List.nil_append, List.cons_append]
  have HL := Lib.hid (And.intro hL hf)
  clear hL hf
  have b0 := (Boxed.new w 3 (.int .i64 0)).alloc (.cells #[.slice ao len cap] 60)
  have hB : Below w.heap.size w ((w.alloc (.cells #[.int .i64 0] 3)).alloc (.cells #[.slice ao len cap] 60)) := (Below.new w _).alloc (by simp) _
  have hz : ((w.alloc (.cells #[.int .i64 0] 3)).alloc (.cells #[.slice ao len cap] 60)).heap.size = w.heap.size + 2 := by simp
  have hc : ((w.alloc (.cells #[.int .i64 0] 3)).alloc (.cells #[.slice ao len cap] 60)).cell? ⟨w.heap.size + 1, 0, none⟩ = some (.slice ao len cap) := by simp
  gi_wp2_with (refine ⟨trivial, ?_⟩; gi_at_call 49; refine (callsIn_wide.2 (all_any ao len cap _)).mono ?_)
  rintro e W0 ⟨rfl, rfl⟩
  rw [World.size_alloc]
  obtain ⟨W0, hW0⟩ : ∃ W0, (w.alloc (.cells #[.int .i64 0] 3)).alloc (.cells #[.slice ao len cap] 60) = W0 := ⟨_, rfl⟩
  rw [hW0] at b0 hB hz hc ⊢
  have HA := Lib.hid (And.intro b0 (And.intro hB (And.intro hz hc)))
  clear b0 hB hc hW0
  gi_wp2
  refine wpIn_rangeY hn1 (gf := 104) (lb := #[.pointer (some ⟨w.heap.size + 1, 0, none⟩)]) rfl (enters_of Tryz.func104 (by kernel_rfl) rfl)
    (vals1 (n - 1) (by omega) (butX (w.heap.size + 2) w.heap.size) (w.heap.size + 1) len cap ao zs hreach W0 (fun k hk => by have := hk.1; omega) HA.out.2.2.2 (HL.out.1.more HA.out.2.1) ?hap) KS.trans (ks_put (by omega)) (fun _ => rfl)
    (CoI w) (fun _ _ _ => False) ?hI ?hIx ?h0
    (fun x a' W => ∃ Bx, Bx ≠ w.heap.size ∧ ObAt W Bx 0 x ∧ a' = { tmps := #[.slice ao len cap, undef, .int .i64 0, .pointer (some ⟨w.heap.size, 0, none⟩), .pointer (some ⟨Bx, 0, none⟩), .slice ao len cap, .func (.func 104) #[] #[.pointer (some ⟨w.heap.size + 1, 0, none⟩)], .agg #[.string (bs x.o.n), .int .i64 x.o.k, .string (bs x.o.d), .int .i64 x.o.m, .slice x.a x.o.l.length x.c], undef, undef, undef, undef, undef], defers := [] })
    ?hAx ?assign ?body ?done ?stop
  case hap =>
    intro hp a e
    obtain ⟨b, off, e', hbl, _⟩ := HL.out.1.at hp
    rw [e] at e'
    obtain rfl := Option.some.inj e'
    exact ⟨by simp only; omega, by simp only; omega⟩
  case hI => exact CoI.own (by omega)
  case hIx => intro c s A B row hs; exact hs.elim
  case hAx =>
    rintro x a' _ A B row ⟨Bx, h0, h1, rfl⟩ hg hr
    exact ⟨Bx, h0, obat_keep h1 hg (fun r e => (hr r e).2), rfl⟩
  case h0 => exact ⟨⟨HA.out.1, by omega⟩, HA.out.2.1⟩
  case assign =>
    rintro l pre x W K ⟨⟨b1, hz1⟩, hB1⟩ hH hK
    have HK := Lib.hid hK
    have HP := Lib.hid (And.intro b1 hB1)
    clear hK b1 hB1
    simp only [ov]
    gi_wp2
    exact HK.out _ _ ((KeepsOthers.alloc _ _).from _) (KS.of_below (m := W.heap.size) (Below.new W _) (fun k hk => by have := hk.1; omega)) ⟨⟨HP.out.1.alloc _, by simp; omega⟩, HP.out.2.alloc HP.out.2.size _⟩ ⟨W.heap.size, by omega, ObAt.new W x _, rfl⟩
  case body =>
    rintro l pre x a' W ⟨⟨b1, hz1⟩, hB1⟩ hH ⟨Bx, hne, hx, rfl⟩
    have hm : x ∈ zs := hH.subset (by simp)
    have hsum := costS_fair (l := obs pre) (fun y hy => by
      obtain ⟨z, hz, rfl⟩ := obs_mem hy
      exact HL.out.2 z (hH.subset (by simp [hz])))
    have hpl := hH.length_le
    have hlen := HL.out.1.hlen
    rw [obs_length] at hsum
    rw [List.length_append, List.length_cons, List.length_nil] at hpl
    have hfx := HL.out.2 x hm
    have hcx := fair_cost hfx
    obtain ⟨s, hs⟩ : ∃ s, costS (obs pre) = s := ⟨_, rfl⟩
    rw [hs] at b1 hsum
    have hw : IntKind.i64.wrap (s + costO x.o) = s + costO x.o := by rw [IntKind.wrap_i64]; omega
    have HD := Lib.hid (And.intro hfx (And.intro (show ObAt W.drew Bx 0 x from hx) (show Boxed W.drew w.heap.size 3 (.int .i64 s) from b1)))
    have HE := Lib.hid (And.intro hne (And.intro hB1 (And.intro hs hz1)))
    clear b1 hx hB1 hH hm hsum hpl hlen hfx hcx hs hne
    rw [hz]
    gi_wp2
    refine Fi.wpIn_round_held (S := fun w' => ObAt w' Bx 0 x) (by kernel_rfl) (by kernel_rfl) (by rintro ⟨_, _, h⟩; exact h) HD.out.2.1 (fun hS0 => ?_)
    refine wpAnyH_take (i := 1) (oi := { dst := some 9, op := Go.Op.load 55 (Go.Operand.tmp 4), type := 55, pos := "space.go:163", after := #[], guard := none }) (v := ?_) rfl (by kernel_rfl) (by kernel_rfl) (by kernel_rfl) (fun _ _ _ h => h) (Or.inl ⟨by rfl, ?_⟩) hS0 ?_
    rotate_left
    · (intro wq hSw; obtain ⟨g0, g1, g2, g3, g4⟩ := hSw; go_simp; try with_reducible rfl)
    try simp only [Act.put, List.setIfInBounds_toArray, List.set_cons_zero, List.set_cons_succ]
    refine wpAnyH_ready (rs := [0, 2]) (by kernel_rfl) (by simp) ?_
    refine AllReadyH.cons (o := { dst := some 8, op := Go.Op.load 3 (Go.Operand.tmp 3), type := 3, pos := "space.go:163", after := #[], guard := none }) rfl (fun K hK => ?_) (AllReadyH.cons (o := { dst := some 10, op := Go.Op.call { callee := Go.Callee.value (Go.Operand.func 81), args := #[Go.Operand.tmp 9], argTypes := #[55] }, type := 3, pos := "space.go:163", after := #[{ on := 1, ground := Go.Ground.data }], guard := none }) rfl (fun K hK => ?_) AllReadyH.nil)
    · have hS1 := hS0
      have cu := HD.out.2.2.cell
      go_simp
      refine hK.out _ _ hS0 (fun hS2 => ?_)
      clear hK K cu
      try simp only [Act.put, List.setIfInBounds_toArray, List.set_cons_zero, List.set_cons_succ]
      refine wpAnyH_ready (rs := [2]) (by kernel_rfl) (by simp) ?_
      refine AllReadyH.cons (o := { dst := some 10, op := Go.Op.call { callee := Go.Callee.value (Go.Operand.func 81), args := #[Go.Operand.tmp 9], argTypes := #[55] }, type := 3, pos := "space.go:163", after := #[{ on := 1, ground := Go.Ground.data }], guard := none }) rfl (fun K hK => ?_) AllReadyH.nil
      go_simp
      go_at_call 81
      refine (cost1_any x HD.out.1 _).mono ?_
      rintro e w1 ⟨rfl, hb1⟩
      refine hK.out _ _ (ObAt.more HD.out.2.1 hb1) (fun hS3 => ?_)
      clear hK K
      try simp only [Act.put, List.setIfInBounds_toArray, List.set_cons_zero, List.set_cons_succ]
      refine wpAnyH_take (i := 3) (oi := { dst := some 11, op := Go.Op.binOp Go.BinOp.add 3 (Go.Operand.tmp 8) (Go.Operand.tmp 10) 3, type := 3, pos := "space.go:163", after := #[{ on := 0, ground := Go.Ground.data }, { on := 2, ground := Go.Ground.data }], guard := none }) (v := ?_) rfl (by kernel_rfl) (by kernel_rfl) (by kernel_rfl) (fun _ _ _ h => h) (Or.inl ⟨by rfl, ?_⟩) hS3 ?_
      rotate_left
      · (intro wq hSw; obtain ⟨g0, g1, g2, g3, g4⟩ := hSw; go_simp; try with_reducible rfl)
      try simp only [Act.put, List.setIfInBounds_toArray, List.set_cons_zero, List.set_cons_succ]
      refine wpAnyH_ready (rs := [4]) (by kernel_rfl) (by simp) ?_
      refine AllReadyH.cons (o := { dst := none, op := Go.Op.store 3 (Go.Operand.tmp 3) (Go.Operand.tmp 11), type := 0, pos := "space.go:163", after := #[{ on := 3, ground := Go.Ground.data }, { on := 2, ground := Go.Ground.chain }, { on := 0, ground := Go.Ground.phase }, { on := 1, ground := Go.Ground.phase }, { on := 2, ground := Go.Ground.phase }, { on := 3, ground := Go.Ground.phase }], guard := none }) rfl (fun K hK => ?_) AllReadyH.nil
      have b1 := boxed_more HD.out.2.2 hb1
      have cb := b1.cell
      have fb := b1.frozen
      go_simp
      refine hK.out _ _ (ObAt.set (ObAt.more HD.out.2.1 hb1) HE.out.1) (fun hS9 => ?_)
      clear hK K cb fb
      try simp only [Act.put, List.setIfInBounds_toArray, List.set_cons_zero, List.set_cons_succ]
      refine wpAnyH_done (by kernel_rfl) ?_ _
      exact cost_round HE.out hb1 b1
    · have hS1 := hS0
      go_simp
      go_at_call 81
      refine (cost1_any x HD.out.1 _).mono ?_
      rintro e w1 ⟨rfl, hb1⟩
      refine hK.out _ _ (ObAt.more HD.out.2.1 hb1) (fun hS3 => ?_)
      clear hK K
      try simp only [Act.put, List.setIfInBounds_toArray, List.set_cons_zero, List.set_cons_succ]
      refine wpAnyH_ready (rs := [0]) (by kernel_rfl) (by simp) ?_
      refine AllReadyH.cons (o := { dst := some 8, op := Go.Op.load 3 (Go.Operand.tmp 3), type := 3, pos := "space.go:163", after := #[], guard := none }) rfl (fun K hK => ?_) AllReadyH.nil
      have cu := (boxed_more HD.out.2.2 hb1).cell
      go_simp
      refine hK.out _ _ hS3 (fun hS4 => ?_)
      clear hK K cu
      try simp only [Act.put, List.setIfInBounds_toArray, List.set_cons_zero, List.set_cons_succ]
      refine wpAnyH_take (i := 3) (oi := { dst := some 11, op := Go.Op.binOp Go.BinOp.add 3 (Go.Operand.tmp 8) (Go.Operand.tmp 10) 3, type := 3, pos := "space.go:163", after := #[{ on := 0, ground := Go.Ground.data }, { on := 2, ground := Go.Ground.data }], guard := none }) (v := ?_) rfl (by kernel_rfl) (by kernel_rfl) (by kernel_rfl) (fun _ _ _ h => h) (Or.inl ⟨by rfl, ?_⟩) hS4 ?_
      rotate_left
      · (intro wq hSw; obtain ⟨g0, g1, g2, g3, g4⟩ := hSw; go_simp; try with_reducible rfl)
      try simp only [Act.put, List.setIfInBounds_toArray, List.set_cons_zero, List.set_cons_succ]
      refine wpAnyH_ready (rs := [4]) (by kernel_rfl) (by simp) ?_
      refine AllReadyH.cons (o := { dst := none, op := Go.Op.store 3 (Go.Operand.tmp 3) (Go.Operand.tmp 11), type := 0, pos := "space.go:163", after := #[{ on := 3, ground := Go.Ground.data }, { on := 2, ground := Go.Ground.chain }, { on := 0, ground := Go.Ground.phase }, { on := 1, ground := Go.Ground.phase }, { on := 2, ground := Go.Ground.phase }, { on := 3, ground := Go.Ground.phase }], guard := none }) rfl (fun K hK => ?_) AllReadyH.nil
      have b1 := boxed_more HD.out.2.2 hb1
      have cb := b1.cell
      have fb := b1.frozen
      go_simp
      refine hK.out _ _ (ObAt.set (ObAt.more HD.out.2.1 hb1) HE.out.1) (fun hS9 => ?_)
      clear hK K cb fb
      try simp only [Act.put, List.setIfInBounds_toArray, List.set_cons_zero, List.set_cons_succ]
      refine wpAnyH_done (by kernel_rfl) ?_ _
      exact cost_round HE.out hb1 b1
  case done =>
    rintro D ys W hD rfl ⟨⟨b1, hz1⟩, hB1⟩ hK
    have cb1 := b1.cell
    have HU := Lib.hid (And.intro hB1 hK)
    clear b1 hB1 hK
    gi_wp2
    refine ⟨by simp, .inl ⟨_, _, rfl, run_takeDeferred HU.out.2, ?_⟩⟩
    exact ⟨.int .i64 (costS (obs ys)), by simp [results, Tryz.results47, go_sem], rfl, HU.out.1.trans (belowK_b (w := w) (Nat.le_refl _) W D _ _ (by omega) HU.out.2 rfl rfl)⟩
  case stop =>
    rintro D c pre W _ _ h _
    exact h.elim
theorem costS_any (ao : Option Addr) (len cap : Nat) (zs : List Ov) (hreach : len ≤ 1000000) (hf : ∀ x ∈ zs, fair x.o) (w : World) (hL : Objs w ao len cap zs) :
    Calls Tryz.prog 47 #[.slice ao len cap] w (IntP (costS (obs zs)) w) := (callsIn_wide (n := 3)).1 (cost_in 3 (by omega) ao len cap zs hreach hf w hL)

end Go.Proofs.YtnbpfbmhheimbaaGreatDoor
