/- Merged texts: FlPut, FlJoin, FlTop, FlSpl, FlRead, FlShelf, FlCut, FlApi, FlShown, FlRef, FlRef2 -/
import Derived.Test.YtlafcplcjpcikaaGreatDoorFlA
import Derived.Deep.RegionHeld3
import Derived.Test.YtlafcplcjpcikaaGreatDoorProg
import Derived.BigQuiet
import Derived.Deep.OwnRows
/- put: the parts copied into the buffer. -/
namespace Go.Proofs.YtlafcplcjpcikaaGreatDoor.Fi
open Go.RowKit Go.Proofs.Fld Go.Proofs.Fil Go.Shelf Go.Sort

attribute [local go_sem] Oper.semAt_some

/-- What put leaves, and tells. -/
def PutP (B : Nat) (zs : List It) (w : World) (e : Ending) (w' : World) : Prop :=
  Below B w w' ∧ ((tot zs ≤ 1000 ∧ e = .returned .nilIface ∧ Buf B (tot zs) zs.flatten w') ∨ (1000 < tot zs ∧ ∃ s, e = .returned (.iface 167 (.string s))))
/-- put between two rounds: the box of b, of the error; the buffer. -/
def PtI (B : Nat) (w : World) (bb be : Nat) (pre : List (It × Nat)) (W : World) : Prop :=
  (Boxed W bb 183 (.pointer (some ⟨B, 0, none⟩)) ∧ Boxed W be 57 .nilIface ∧ Buf B (flat pre).length (flat pre) W ∧ w.heap.size + 4 ≤ W.heap.size) ∧ Below B w W
/-- .. when a round has left. -/
def PtX (B : Nat) (w : World) (be : Nat) (c : Code) (pre : List (It × Nat)) (W : World) : Prop :=
  (c = .exit 0 ∧ (∃ s, Boxed W be 57 (.iface 167 (.string s))) ∧ ∃ p x, pre = p ++ [x] ∧ 1000 < x.2) ∧ Below B w W
theorem buf_keep {A W : World} {row : Option Nat} {B u : Nat} {l : It} (h : Buf B u l A) (hg : A.grownBy W row) (hr : ∀ r, row = some r → ∃ o : Obj, A.heap[r]? = some o ∧ o.isCells = false) : Buf B u l W := by
  have hlt := h.lt
  refine h.of_block (hg.block B hlt fun e => ?_)
  obtain ⟨o, ho, hc⟩ := hr B e.symm
  obtain ⟨cur, hb, _⟩ := h
  rw [hb] at ho
  cases ho
  cases hc
theorem PtI.own {B : Nat} {w : World} {bb be n0 : Nat} (hB : B < w.heap.size) (hn : w.heap.size ≤ n0) : OwnFrom n0 (PtI B w bb be) := by
  rintro pre A W row ⟨⟨b0, b1, q0, hz⟩, hb⟩ hg hr
  have hb2 := ownFrom_below (β := List (It × Nat)) (n₀ := B) (w₀ := w) (Nat.le_of_lt hB) (Nat.le_trans (Nat.le_of_lt hB) hn) pre A W row hb hg hr
  exact ⟨⟨boxed_keep b0 hg (fun r e => (hr r e).2), boxed_keep b1 hg (fun r e => (hr r e).2), buf_keep q0 hg (fun r e => (hr r e).2), Nat.le_trans hz hg.size⟩, hb2⟩
theorem PtX.own {B : Nat} {w : World} {be n0 : Nat} {c : Code} (hB : B < w.heap.size) (hn : w.heap.size ≤ n0) : OwnFrom n0 (PtX B w be c) := by
  rintro pre A W row ⟨⟨hc, ⟨s, b1⟩, hx⟩, hb⟩ hg hr
  have hb2 := ownFrom_below (β := List (It × Nat)) (n₀ := B) (w₀ := w) (Nat.le_of_lt hB) (Nat.le_trans (Nat.le_of_lt hB) hn) pre A W row hb hg hr
  exact ⟨⟨hc, ⟨s, boxed_keep b1 hg (fun r e => (hr r e).2)⟩, hx⟩, hb2⟩

theorem KR.keepsFrom {B n0 : Nat} {A W : World} (h : KR B (B + 1) A.heap.size A W) (hb : B < n0) : KeepsFrom n0 A W := ⟨h.1, fun k o hk ho _ => (h.2 k (Array.getElem?_eq_some_iff.1 ho).1 (by omega)).trans ho⟩
theorem KR.boxed {B m b : Nat} {A W : World} {t : TypeId} {v : Value} (h : KR B (B + 1) m A W) (hx : Boxed A b t v) (hm : b < m) (hb : b ≠ B) : Boxed W b t v := (h.2 b hm (by omega)).trans hx
/-- What a round of put leaves, from the copy's world on. -/
theorem put_round {B : Nat} {w W : World} {fl x : It} {L E : Nat} (hlt : B < w.heap.size) (hB : Below B w W) (hz : w.heap.size + 4 ≤ W.heap.size) (b0 : Boxed W w.heap.size 183 (.pointer (some ⟨B, 0, none⟩))) (b1 : Boxed W (w.heap.size + 1) 57 .nilIface) (q0 : Buf B L fl W) (hL : fl.length = L) (hE : L + x.length = E) (h1 : E ≤ 1000) {pre : List (It × Nat)} (hfl : flat pre = fl) (n0 : Nat) (hn0 : w.heap.size ≤ n0) (hn1 : n0 ≤ W.heap.size) :
    ∃ V1, (Builtin.copy_ #[179, 9] 3 #[spanV B L E, .string (bs x)]).run Tryz.prog W.drew = .ok (.int .i64 (x.length : Int)) V1 ∧ V1.cell? ⟨w.heap.size, 0, none⟩ = some (.pointer (some ⟨B, 0, none⟩)) ∧ Buf B L (fl ++ x) V1 ∧ (V1.setCell ⟨B, 1000, none⟩ (.int .i64 (E : Int))).cell? ⟨w.heap.size, 0, none⟩ = some (.pointer (some ⟨B, 0, none⟩)) ∧
      (KeepsFrom n0 W (V1.setCell ⟨B, 1000, none⟩ (.int .i64 (E : Int))) ∧ KR B (B + 1) n0 W (V1.setCell ⟨B, 1000, none⟩ (.int .i64 (E : Int))) ∧ PtI B w w.heap.size (w.heap.size + 1) (pre ++ [(x, E)]) (V1.setCell ⟨B, 1000, none⟩ (.int .i64 (E : Int)))) := by
  have qd : Buf B L fl W.drew := q0.of_block rfl
  obtain ⟨V1, hr, hb, hk, hbl⟩ := run_copyB W.drew 3 B L fl x (by omega) qd
  rw [hL, hE] at hr
  have hk1 : KR B (B + 1) W.heap.size W V1 := hk
  have hk2 : KR B (B + 1) W.heap.size W (V1.setCell ⟨B, 1000, none⟩ (.int .i64 (E : Int))) := hk1.trans (KR.set V1 B 1000 _ (Nat.le_refl _) (Nat.lt_succ_self _))
  have c0 := hk2.boxed b0 (by omega) (by omega)
  have c1 := hk2.boxed b1 (by omega) (by omega)
  refine ⟨V1, hr, (hk1.boxed b0 (by omega) (by omega)).cell, hb, c0.cell, hk2.keepsFrom (by omega), ⟨hk2.1, fun k hkm hx => hk2.2 k (by omega) hx⟩, ⟨c0, c1, ?_, Nat.le_trans hz hk2.1⟩, (hB.drew.trans hbl).setCell (p := ⟨B, 1000, none⟩) (Nat.le_refl _) _⟩
  rw [flat_snoc, hfl, List.length_append, hL, hE]
  exact hb.set E

set_option maxRecDepth 100000 in
set_option maxHeartbeats 4000000 in
theorem put_in (n : Nat) (hn : 3 ≤ n) (B : Nat) (ao : Option Addr) (len cap : Nat) (zs : List It) (hreach : len ≤ 1000000) (hsum : tot zs ≤ 4000000000000000000) (w : World) (hL : Txs w ao len cap zs) (hne : 0 < len → ∀ a, ao = some a → a.block ≠ B) (hbuf : Buf B 0 [] w) :
    CallsIn Fence.wide n Tryz.prog 112 #[.pointer (some ⟨B, 0, none⟩), .slice ao len cap] w (PutP B zs w) := by
  have hn1 : 1 ≤ n := by omega
  refine callsIn_of_wp_marks Tryz.func112 rfl trivial ?_ rfl
  simp only [Tryz.ntmps112, List.size_toArray, List.length_cons, List.length_nil, Nat.reduceAdd, Nat.reduceSub, Array.replicate_succ, Array.replicate_zero, List.push_toArray, List.append_toArray, List.nil_append, List.cons_append]
  have HL := Lib.hid hL
  have HE := Lib.hid hne
  have HF := Lib.hid hbuf
  clear hL hne hbuf
  have hlt := HF.out.lt
  have b1 := (Boxed.new w 183 (.pointer (some ⟨B, 0, none⟩))).alloc (.cells #[.nilIface] 57)
  have b2 := Boxed.new (w.alloc (.cells #[.pointer (some ⟨B, 0, none⟩)] 183)) 57 .nilIface
  rw [World.size_alloc] at b2
  have hB2 : Below w.heap.size w ((w.alloc (.cells #[.pointer (some ⟨B, 0, none⟩)] 183)).alloc (.cells #[.nilIface] 57)) := (Below.new w _).alloc (by simp) _
  have hz2 : ((w.alloc (.cells #[.pointer (some ⟨B, 0, none⟩)] 183)).alloc (.cells #[.nilIface] 57)).heap.size = w.heap.size + 2 := by simp
  obtain ⟨W2, hW2⟩ : ∃ W2, (w.alloc (.cells #[.pointer (some ⟨B, 0, none⟩)] 183)).alloc (.cells #[.nilIface] 57) = W2 := ⟨_, rfl⟩
  rw [hW2] at b1 b2 hB2 hz2
  have c1 := b1.cell
  have HX := Lib.hid (And.intro b1 (And.intro b2 (And.intro hB2 hz2)))
  clear b1 b2 hB2 hz2
  gi_wp2
  refine wpIn_scope_wide ?_
  gi_wp2
  refine wpIn_label ?_
  gi_wp2_with (refine ⟨trivial, ?_⟩; gi_at_call 116; refine (callsIn_wide.2 (laid_any B ao len cap W2)).mono ?_)
  rintro e W0 ⟨rfl, e1, e2, hz0, hb0⟩
  rw [HX.out.2.2.2] at e1 e2 hz0
  rw [HX.out.2.2.2]
  have HA := Lib.hid (And.intro e1 (And.intro e2 (And.intro hz0 (And.intro (below_more HX.out.2.2.1 hb0) (And.intro (boxed_more HX.out.1 hb0) (And.intro (boxed_more HX.out.2.1 hb0) (HF.out.more (below_more HX.out.2.2.1 hb0))))))))
  clear e1 e2 hb0 c1 HX
  gi_wp2
  refine wpIn_rangeX hn1 (gf := 117) (lb := #[.pointer (some ⟨w.heap.size + 2, 0, none⟩), .pointer (some ⟨w.heap.size + 2 + 1, 0, none⟩)]) rfl (enters_of Tryz.func117 (by kernel_rfl) rfl)
    (laid_stops (n - 1) (by omega) B (B + 1) W0.heap.size B _ _ 0 len cap ao zs hreach (by omega) W0 (Nat.le_refl _) HA.out.1 HA.out.2.2.2.2.2.2.used HA.out.2.1 (HL.out.more HA.out.2.2.2.1) ?hap) KR.trans (krK_b (Nat.le_refl _)) (Below.refl _ _) (fun _ => rfl)
    (PtI B w w.heap.size (w.heap.size + 1)) (PtX B w (w.heap.size + 1)) ?hI ?hIx ?h0
    (fun x => { tmps := #[.pointer (some ⟨B, 0, none⟩), .slice ao len cap, .pointer (some ⟨w.heap.size, 0, none⟩), undef, .nilIface, .pointer (some ⟨w.heap.size + 1, 0, none⟩), .string (bs x.1), .int .i64 (x.2 : Int), .pointer (some ⟨B, 0, none⟩), .slice ao len cap, .func (.func 117) #[] #[.pointer (some ⟨w.heap.size + 2, 0, none⟩), .pointer (some ⟨w.heap.size + 2 + 1, 0, none⟩)], .string (bs x.1), .int .i64 (x.2 : Int), undef, undef, undef, undef, undef, undef, undef, undef, undef, undef, undef, undef, undef, undef, undef, undef, undef, undef, undef, undef, undef, undef, undef], defers := [] })
    ?assign ?body ?done ?stop
  case hap =>
    intro hp a e
    have h1 := HE.out hp a e
    obtain ⟨b, off, e', hbl, _⟩ := HL.out.at hp
    rw [e] at e'
    obtain rfl := Option.some.inj e'
    have := HA.out.2.2.2.1.size
    exact ⟨Nat.lt_of_lt_of_le hbl this, by simp only at h1 ⊢; omega⟩
  case hI => exact PtI.own hlt HA.out.2.2.2.1.size
  case hIx => intro c; exact PtX.own hlt HA.out.2.2.2.1.size
  case h0 => exact ⟨⟨HA.out.2.2.2.2.1, HA.out.2.2.2.2.2.1, HA.out.2.2.2.2.2.2, by have := HA.out.2.2.1; omega⟩, HA.out.2.2.2.1.mono (Nat.le_of_lt hlt)⟩
  case assign =>
    intro l x W K hK
    have HK := Lib.hid hK
    clear hK
    simp only [prv]
    gi_wp2
    exact HK.out
  case body =>
    rintro l pre ⟨x, E⟩ W ⟨⟨b0, b1, q0, hz⟩, hB⟩ hpx
    obtain ⟨hx2, _⟩ := prs_ends hpx
    have cb0 := b0.cell
    have cb1 := b1.cell
    have fb1 := b1.frozen
    have hsx := bs_size x
    obtain ⟨fl, hfl⟩ : ∃ fl, flat pre = fl := ⟨_, rfl⟩
    rw [hfl] at q0 hx2
    obtain ⟨L, hLn⟩ : ∃ L, fl.length = L := ⟨_, rfl⟩
    rw [hLn] at q0 hx2
    simp only [Nat.zero_add] at hx2
    by_cases h1 : 1000 < E
    · have hd : decide ((E : Int) > 1000) = true := decide_eq_true (by omega)
      have HP := Lib.hid (And.intro b1 (And.intro hB h1))
      clear hx2 cb0 b0 b1 q0 hB hpx
      gi_wp2
      refine ⟨(KeepsOthers.setCell _ _ _).from _, ⟨rfl, ⟨_, HP.out.1.set _⟩, pre, (x, E), rfl, HP.out.2.2⟩, HP.out.2.1.setCell (p := ⟨w.heap.size + 1, 0, none⟩) (by simp; omega) _⟩
    · have hd : decide ((E : Int) > 1000) = false := decide_eq_false (by omega)
      have hn4 := HA.out.2.2.1
      by_cases hsz : W0.heap.size ≤ W.heap.size
      case neg => exact absurd (hz) (by omega)
      obtain ⟨V1, hc1, hc2, hc3, hc4, hc5⟩ := put_round hlt hB hz b0 b1 q0 hLn hx2.symm (Nat.le_of_not_lt h1) hfl W0.heap.size (by omega) hsz
      rw [hz0] at hc5
      have HC := Lib.hid (And.intro hc1 (And.intro hc2 (And.intro hc3 (And.intro hc4 hc5))))
      have HD := Lib.hid (show Buf B L fl W.drew from q0.of_block rfl)
      have HF2 := Lib.hid (And.intro (show L ≤ E by omega) (Nat.le_of_not_lt h1))
      have hwr : IntKind.i64.wrap ((L : Int) + (x.length : Int)) = (E : Int) := by rw [IntKind.wrap_i64]; omega
      clear hx2 cb1 fb1 b0 b1 q0 hB hpx hc1 hc2 hc3 hc4 hc5 hfl hLn hn4 hsz
      gi_wp2
      refine wpIn_round_held (S := (fun w' => w'.cell? ⟨w.heap.size, 0, none⟩ = some (.pointer (some ⟨B, 0, none⟩)))) (by kernel_rfl) (by kernel_rfl) (by rintro ⟨_, _, h⟩; exact h) (by simp only [World.cell?_drew]; exact cb0) (fun hS0 => ?_)
      refine wpAnyH_take (i := 0) (oi := { dst := some 13, op := Go.Op.load 183 (Go.Operand.tmp 2), type := 183, pos := "file.go:78", after := #[], guard := none }) (v := ?_) rfl (by kernel_rfl) (by kernel_rfl) (by kernel_rfl) (fun _ _ _ h => h) (Or.inl ⟨by rfl, ?_⟩) hS0 ?_
      rotate_left
      · (intro wq hSw; have := hSw; go_simp; try with_reducible rfl)
      try simp only [Act.put, List.setIfInBounds_toArray, List.set_cons_zero, List.set_cons_succ]
      refine wpAnyH_take (i := 1) (oi := { dst := some 14, op := Go.Op.nilCheck (Go.Operand.tmp 13), type := 0, pos := "file.go:78", after := #[{ on := 0, ground := Go.Ground.data }], guard := none }) (v := ?_) rfl (by kernel_rfl) (by kernel_rfl) (by kernel_rfl) (fun _ _ _ h => h) (Or.inl ⟨by rfl, ?_⟩) hS0 ?_
      rotate_left
      · (intro wq hSw; have := hSw; go_simp; try with_reducible rfl)
      try simp only [Act.put, List.setIfInBounds_toArray, List.set_cons_zero, List.set_cons_succ]
      refine wpAnyH_take (i := 2) (oi := { dst := some 15, op := Go.Op.fieldAddr 177 (Go.Operand.tmp 14) 1, type := 0, pos := "file.go:78", after := #[{ on := 1, ground := Go.Ground.data }], guard := none }) (v := ?_) rfl (by kernel_rfl) (by kernel_rfl) (by kernel_rfl) (fun _ _ _ h => h) (Or.inl ⟨by rfl, ?_⟩) hS0 ?_
      rotate_left
      · (intro wq hSw; have := hSw; go_simp; try with_reducible rfl)
      try simp only [Act.put, List.setIfInBounds_toArray, List.set_cons_zero, List.set_cons_succ]
      refine wpAnyH_take (i := 4) (oi := { dst := some 17, op := Go.Op.load 183 (Go.Operand.tmp 2), type := 183, pos := "file.go:78", after := #[], guard := none }) (v := ?_) rfl (by kernel_rfl) (by kernel_rfl) (by kernel_rfl) (fun _ _ _ h => h) (Or.inl ⟨by rfl, ?_⟩) hS0 ?_
      rotate_left
      · (intro wq hSw; have := hSw; go_simp; try with_reducible rfl)
      try simp only [Act.put, List.setIfInBounds_toArray, List.set_cons_zero, List.set_cons_succ]
      refine wpAnyH_take (i := 5) (oi := { dst := some 18, op := Go.Op.nilCheck (Go.Operand.tmp 17), type := 0, pos := "file.go:78", after := #[{ on := 4, ground := Go.Ground.data }], guard := none }) (v := ?_) rfl (by kernel_rfl) (by kernel_rfl) (by kernel_rfl) (fun _ _ _ h => h) (Or.inl ⟨by rfl, ?_⟩) hS0 ?_
      rotate_left
      · (intro wq hSw; have := hSw; go_simp; try with_reducible rfl)
      try simp only [Act.put, List.setIfInBounds_toArray, List.set_cons_zero, List.set_cons_succ]
      refine wpAnyH_take (i := 6) (oi := { dst := some 19, op := Go.Op.fieldAddr 177 (Go.Operand.tmp 18) 0, type := 0, pos := "file.go:78", after := #[{ on := 5, ground := Go.Ground.data }], guard := none }) (v := ?_) rfl (by kernel_rfl) (by kernel_rfl) (by kernel_rfl) (fun _ _ _ h => h) (Or.inl ⟨by rfl, ?_⟩) hS0 ?_
      rotate_left
      · (intro wq hSw; have := hSw; go_simp; try with_reducible rfl)
      try simp only [Act.put, List.setIfInBounds_toArray, List.set_cons_zero, List.set_cons_succ]
      refine wpAnyH_take (i := 7) (oi := { dst := some 20, op := Go.Op.load 183 (Go.Operand.tmp 2), type := 183, pos := "file.go:78", after := #[], guard := none }) (v := ?_) rfl (by kernel_rfl) (by kernel_rfl) (by kernel_rfl) (fun _ _ _ h => h) (Or.inl ⟨by rfl, ?_⟩) hS0 ?_
      rotate_left
      · (intro wq hSw; have := hSw; go_simp; try with_reducible rfl)
      try simp only [Act.put, List.setIfInBounds_toArray, List.set_cons_zero, List.set_cons_succ]
      refine wpAnyH_take (i := 8) (oi := { dst := some 21, op := Go.Op.nilCheck (Go.Operand.tmp 20), type := 0, pos := "file.go:78", after := #[{ on := 7, ground := Go.Ground.data }], guard := none }) (v := ?_) rfl (by kernel_rfl) (by kernel_rfl) (by kernel_rfl) (fun _ _ _ h => h) (Or.inl ⟨by rfl, ?_⟩) hS0 ?_
      rotate_left
      · (intro wq hSw; have := hSw; go_simp; try with_reducible rfl)
      try simp only [Act.put, List.setIfInBounds_toArray, List.set_cons_zero, List.set_cons_succ]
      refine wpAnyH_take (i := 9) (oi := { dst := some 22, op := Go.Op.fieldAddr 177 (Go.Operand.tmp 21) 1, type := 0, pos := "file.go:78", after := #[{ on := 8, ground := Go.Ground.data }], guard := none }) (v := ?_) rfl (by kernel_rfl) (by kernel_rfl) (by kernel_rfl) (fun _ _ _ h => h) (Or.inl ⟨by rfl, ?_⟩) hS0 ?_
      rotate_left
      · (intro wq hSw; have := hSw; go_simp; try with_reducible rfl)
      try simp only [Act.put, List.setIfInBounds_toArray, List.set_cons_zero, List.set_cons_succ]
      refine wpAnyH_take (i := 11) (oi := { dst := some 24, op := Go.Op.move (Go.Operand.tmp 7), type := 3, pos := "file.go:78", after := #[], guard := none }) (v := ?_) rfl (by kernel_rfl) (by kernel_rfl) (by kernel_rfl) (fun _ _ _ h => h) (Or.inl ⟨by rfl, ?_⟩) hS0 ?_
      rotate_left
      · (intro wq hSw; have := hSw; go_simp; try with_reducible rfl)
      try simp only [Act.put, List.setIfInBounds_toArray, List.set_cons_zero, List.set_cons_succ]
      refine wpAnyH_take (i := 13) (oi := { dst := some 26, op := Go.Op.move (Go.Operand.tmp 6), type := 9, pos := "file.go:78", after := #[], guard := none }) (v := ?_) rfl (by kernel_rfl) (by kernel_rfl) (by kernel_rfl) (fun _ _ _ h => h) (Or.inl ⟨by rfl, ?_⟩) hS0 ?_
      rotate_left
      · (intro wq hSw; have := hSw; go_simp; try with_reducible rfl)
      try simp only [Act.put, List.setIfInBounds_toArray, List.set_cons_zero, List.set_cons_succ]
      refine wpAnyH_ready (rs := [3, 10]) (by kernel_rfl) (by simp) ?_
      refine AllReadyH.cons (o := { dst := some 16, op := Go.Op.load 3 (Go.Operand.tmp 15), type := 3, pos := "file.go:78", after := #[{ on := 2, ground := Go.Ground.data }], guard := none }) rfl (fun K hK => ?_) (AllReadyH.cons (o := { dst := some 23, op := Go.Op.load 3 (Go.Operand.tmp 22), type := 3, pos := "file.go:78", after := #[{ on := 9, ground := Go.Ground.data }], guard := none }) rfl (fun K hK => ?_) AllReadyH.nil)
      · have cu := HD.out.used
        go_simp
        refine hK.out _ _ hS0 (fun hS1 => ?_)
        clear hK K cu
        try simp only [Act.put, List.setIfInBounds_toArray, List.set_cons_zero, List.set_cons_succ]
        refine wpAnyH_ready (rs := [10]) (by kernel_rfl) (by simp) ?_
        refine AllReadyH.cons (o := { dst := some 23, op := Go.Op.load 3 (Go.Operand.tmp 22), type := 3, pos := "file.go:78", after := #[{ on := 9, ground := Go.Ground.data }], guard := none }) rfl (fun K hK => ?_) AllReadyH.nil
        have cu := HD.out.used
        go_simp
        refine hK.out _ _ hS1 (fun hS2 => ?_)
        clear hK K cu
        try simp only [Act.put, List.setIfInBounds_toArray, List.set_cons_zero, List.set_cons_succ]
        refine wpAnyH_ready (rs := [12]) (by kernel_rfl) (by simp) ?_
        refine AllReadyH.cons (o := { dst := some 25, op := Go.Op.call { callee := Go.Callee.value (Go.Operand.func 113), args := #[Go.Operand.tmp 19, Go.Operand.tmp 23, Go.Operand.tmp 24], argTypes := #[175, 3, 3] }, type := 179, pos := "file.go:78", after := #[{ on := 6, ground := Go.Ground.data }, { on := 10, ground := Go.Ground.data }, { on := 11, ground := Go.Ground.data }], guard := none }) rfl (fun K hK => ?_) AllReadyH.nil
        go_simp
        refine (span_any B L E HF2.out.1 HF2.out.2 _).mono ?_
        rintro e wz ⟨rfl, rfl⟩
        refine hK.out _ _ hS2 (fun hS3 => ?_)
        clear hK K
        try simp only [Act.put, List.setIfInBounds_toArray, List.set_cons_zero, List.set_cons_succ]
        refine wpAnyH_ready (rs := [14]) (by kernel_rfl) (by simp) ?_
        refine AllReadyH.cons (o := { dst := some 27, op := Go.Op.call { callee := Go.Callee.builtin Go.Builtin.copy, args := #[Go.Operand.tmp 25, Go.Operand.tmp 26], argTypes := #[179, 9] }, type := 3, pos := "file.go:78", after := #[{ on := 12, ground := Go.Ground.data }, { on := 13, ground := Go.Ground.data }, { on := 12, ground := Go.Ground.chain }], guard := none }) rfl (fun K hK => ?_) AllReadyH.nil
        rw [if_pos (by rfl)]
        refine Lib.wp_copy_run _ (.tmp 25) (.tmp 26) 179 9 rfl _ _ rfl rfl HC.out.1 ?_
        refine hK.out _ _ HC.out.2.1 (fun hS4 => ?_)
        clear hK K
        try simp only [Act.put, List.setIfInBounds_toArray, List.set_cons_zero, List.set_cons_succ]
        refine wpAnyH_take (i := 15) (oi := { dst := some 28, op := Go.Op.binOp Go.BinOp.add 3 (Go.Operand.tmp 16) (Go.Operand.tmp 27) 3, type := 3, pos := "file.go:78", after := #[{ on := 3, ground := Go.Ground.data }, { on := 14, ground := Go.Ground.data }], guard := none }) (v := ?_) rfl (by kernel_rfl) (by kernel_rfl) (by kernel_rfl) (fun _ _ _ h => h) (Or.inl ⟨by rfl, ?_⟩) hS4 ?_
        rotate_left
        · (intro wq hSw; go_simp; try with_reducible rfl)
        try simp only [Act.put, List.setIfInBounds_toArray, List.set_cons_zero, List.set_cons_succ]
        refine wpAnyH_take (i := 16) (oi := { dst := some 29, op := Go.Op.nilCheck (Go.Operand.tmp 13), type := 0, pos := "file.go:78", after := #[{ on := 0, ground := Go.Ground.data }, { on := 0, ground := Go.Ground.phase }, { on := 1, ground := Go.Ground.phase }, { on := 2, ground := Go.Ground.phase }, { on := 3, ground := Go.Ground.phase }, { on := 4, ground := Go.Ground.phase }, { on := 5, ground := Go.Ground.phase }, { on := 6, ground := Go.Ground.phase }, { on := 7, ground := Go.Ground.phase }, { on := 8, ground := Go.Ground.phase }, { on := 9, ground := Go.Ground.phase }, { on := 10, ground := Go.Ground.phase }, { on := 11, ground := Go.Ground.phase }, { on := 12, ground := Go.Ground.phase }, { on := 13, ground := Go.Ground.phase }, { on := 14, ground := Go.Ground.phase }, { on := 15, ground := Go.Ground.phase }], guard := none }) (v := ?_) rfl (by kernel_rfl) (by kernel_rfl) (by kernel_rfl) (fun _ _ _ h => h) (Or.inl ⟨by rfl, ?_⟩) hS4 ?_
        rotate_left
        · (intro wq hSw; go_simp; try with_reducible rfl)
        try simp only [Act.put, List.setIfInBounds_toArray, List.set_cons_zero, List.set_cons_succ]
        refine wpAnyH_take (i := 17) (oi := { dst := some 30, op := Go.Op.fieldAddr 177 (Go.Operand.tmp 29) 1, type := 0, pos := "file.go:78", after := #[{ on := 16, ground := Go.Ground.data }, { on := 0, ground := Go.Ground.phase }, { on := 1, ground := Go.Ground.phase }, { on := 2, ground := Go.Ground.phase }, { on := 3, ground := Go.Ground.phase }, { on := 4, ground := Go.Ground.phase }, { on := 5, ground := Go.Ground.phase }, { on := 6, ground := Go.Ground.phase }, { on := 7, ground := Go.Ground.phase }, { on := 8, ground := Go.Ground.phase }, { on := 9, ground := Go.Ground.phase }, { on := 10, ground := Go.Ground.phase }, { on := 11, ground := Go.Ground.phase }, { on := 12, ground := Go.Ground.phase }, { on := 13, ground := Go.Ground.phase }, { on := 14, ground := Go.Ground.phase }, { on := 15, ground := Go.Ground.phase }], guard := none }) (v := ?_) rfl (by kernel_rfl) (by kernel_rfl) (by kernel_rfl) (fun _ _ _ h => h) (Or.inl ⟨by rfl, ?_⟩) hS4 ?_
        rotate_left
        · (intro wq hSw; go_simp; try with_reducible rfl)
        try simp only [Act.put, List.setIfInBounds_toArray, List.set_cons_zero, List.set_cons_succ]
        refine wpAnyH_ready (rs := [18]) (by kernel_rfl) (by simp) ?_
        refine AllReadyH.cons (o := { dst := none, op := Go.Op.store 3 (Go.Operand.tmp 30) (Go.Operand.tmp 28), type := 0, pos := "file.go:78", after := #[{ on := 17, ground := Go.Ground.data }, { on := 15, ground := Go.Ground.data }, { on := 14, ground := Go.Ground.chain }, { on := 0, ground := Go.Ground.phase }, { on := 1, ground := Go.Ground.phase }, { on := 2, ground := Go.Ground.phase }, { on := 3, ground := Go.Ground.phase }, { on := 4, ground := Go.Ground.phase }, { on := 5, ground := Go.Ground.phase }, { on := 6, ground := Go.Ground.phase }, { on := 7, ground := Go.Ground.phase }, { on := 8, ground := Go.Ground.phase }, { on := 9, ground := Go.Ground.phase }, { on := 10, ground := Go.Ground.phase }, { on := 11, ground := Go.Ground.phase }, { on := 12, ground := Go.Ground.phase }, { on := 13, ground := Go.Ground.phase }, { on := 14, ground := Go.Ground.phase }, { on := 15, ground := Go.Ground.phase }], guard := none }) rfl (fun K hK => ?_) AllReadyH.nil
        have cb := HC.out.2.2.1.used
        have fb := HC.out.2.2.1.free 1000
        go_simp
        refine hK.out _ _ HC.out.2.2.2.1 (fun hS5 => ?_)
        clear hK K cb fb
        try simp only [Act.put, List.setIfInBounds_toArray, List.set_cons_zero, List.set_cons_succ]
        refine wpAnyH_done (by kernel_rfl) ?_ _
        exact HC.out.2.2.2.2
      · have cu := HD.out.used
        go_simp
        refine hK.out _ _ hS0 (fun hS6 => ?_)
        clear hK K cu
        try simp only [Act.put, List.setIfInBounds_toArray, List.set_cons_zero, List.set_cons_succ]
        refine wpAnyH_ready (rs := [3, 12]) (by kernel_rfl) (by simp) ?_
        refine AllReadyH.cons (o := { dst := some 16, op := Go.Op.load 3 (Go.Operand.tmp 15), type := 3, pos := "file.go:78", after := #[{ on := 2, ground := Go.Ground.data }], guard := none }) rfl (fun K hK => ?_) (AllReadyH.cons (o := { dst := some 25, op := Go.Op.call { callee := Go.Callee.value (Go.Operand.func 113), args := #[Go.Operand.tmp 19, Go.Operand.tmp 23, Go.Operand.tmp 24], argTypes := #[175, 3, 3] }, type := 179, pos := "file.go:78", after := #[{ on := 6, ground := Go.Ground.data }, { on := 10, ground := Go.Ground.data }, { on := 11, ground := Go.Ground.data }], guard := none }) rfl (fun K hK => ?_) AllReadyH.nil)
        · have cu := HD.out.used
          go_simp
          refine hK.out _ _ hS6 (fun hS7 => ?_)
          clear hK K cu
          try simp only [Act.put, List.setIfInBounds_toArray, List.set_cons_zero, List.set_cons_succ]
          refine wpAnyH_ready (rs := [12]) (by kernel_rfl) (by simp) ?_
          refine AllReadyH.cons (o := { dst := some 25, op := Go.Op.call { callee := Go.Callee.value (Go.Operand.func 113), args := #[Go.Operand.tmp 19, Go.Operand.tmp 23, Go.Operand.tmp 24], argTypes := #[175, 3, 3] }, type := 179, pos := "file.go:78", after := #[{ on := 6, ground := Go.Ground.data }, { on := 10, ground := Go.Ground.data }, { on := 11, ground := Go.Ground.data }], guard := none }) rfl (fun K hK => ?_) AllReadyH.nil
          go_simp
          refine (span_any B L E HF2.out.1 HF2.out.2 _).mono ?_
          rintro e wz ⟨rfl, rfl⟩
          refine hK.out _ _ hS7 (fun hS8 => ?_)
          clear hK K
          try simp only [Act.put, List.setIfInBounds_toArray, List.set_cons_zero, List.set_cons_succ]
          refine wpAnyH_ready (rs := [14]) (by kernel_rfl) (by simp) ?_
          refine AllReadyH.cons (o := { dst := some 27, op := Go.Op.call { callee := Go.Callee.builtin Go.Builtin.copy, args := #[Go.Operand.tmp 25, Go.Operand.tmp 26], argTypes := #[179, 9] }, type := 3, pos := "file.go:78", after := #[{ on := 12, ground := Go.Ground.data }, { on := 13, ground := Go.Ground.data }, { on := 12, ground := Go.Ground.chain }], guard := none }) rfl (fun K hK => ?_) AllReadyH.nil
          rw [if_pos (by rfl)]
          refine Lib.wp_copy_run _ (.tmp 25) (.tmp 26) 179 9 rfl _ _ rfl rfl HC.out.1 ?_
          refine hK.out _ _ HC.out.2.1 (fun hS9 => ?_)
          clear hK K
          try simp only [Act.put, List.setIfInBounds_toArray, List.set_cons_zero, List.set_cons_succ]
          refine wpAnyH_take (i := 15) (oi := { dst := some 28, op := Go.Op.binOp Go.BinOp.add 3 (Go.Operand.tmp 16) (Go.Operand.tmp 27) 3, type := 3, pos := "file.go:78", after := #[{ on := 3, ground := Go.Ground.data }, { on := 14, ground := Go.Ground.data }], guard := none }) (v := ?_) rfl (by kernel_rfl) (by kernel_rfl) (by kernel_rfl) (fun _ _ _ h => h) (Or.inl ⟨by rfl, ?_⟩) hS9 ?_
          rotate_left
          · (intro wq hSw; go_simp; try with_reducible rfl)
          try simp only [Act.put, List.setIfInBounds_toArray, List.set_cons_zero, List.set_cons_succ]
          refine wpAnyH_take (i := 16) (oi := { dst := some 29, op := Go.Op.nilCheck (Go.Operand.tmp 13), type := 0, pos := "file.go:78", after := #[{ on := 0, ground := Go.Ground.data }, { on := 0, ground := Go.Ground.phase }, { on := 1, ground := Go.Ground.phase }, { on := 2, ground := Go.Ground.phase }, { on := 3, ground := Go.Ground.phase }, { on := 4, ground := Go.Ground.phase }, { on := 5, ground := Go.Ground.phase }, { on := 6, ground := Go.Ground.phase }, { on := 7, ground := Go.Ground.phase }, { on := 8, ground := Go.Ground.phase }, { on := 9, ground := Go.Ground.phase }, { on := 10, ground := Go.Ground.phase }, { on := 11, ground := Go.Ground.phase }, { on := 12, ground := Go.Ground.phase }, { on := 13, ground := Go.Ground.phase }, { on := 14, ground := Go.Ground.phase }, { on := 15, ground := Go.Ground.phase }], guard := none }) (v := ?_) rfl (by kernel_rfl) (by kernel_rfl) (by kernel_rfl) (fun _ _ _ h => h) (Or.inl ⟨by rfl, ?_⟩) hS9 ?_
          rotate_left
          · (intro wq hSw; go_simp; try with_reducible rfl)
          try simp only [Act.put, List.setIfInBounds_toArray, List.set_cons_zero, List.set_cons_succ]
          refine wpAnyH_take (i := 17) (oi := { dst := some 30, op := Go.Op.fieldAddr 177 (Go.Operand.tmp 29) 1, type := 0, pos := "file.go:78", after := #[{ on := 16, ground := Go.Ground.data }, { on := 0, ground := Go.Ground.phase }, { on := 1, ground := Go.Ground.phase }, { on := 2, ground := Go.Ground.phase }, { on := 3, ground := Go.Ground.phase }, { on := 4, ground := Go.Ground.phase }, { on := 5, ground := Go.Ground.phase }, { on := 6, ground := Go.Ground.phase }, { on := 7, ground := Go.Ground.phase }, { on := 8, ground := Go.Ground.phase }, { on := 9, ground := Go.Ground.phase }, { on := 10, ground := Go.Ground.phase }, { on := 11, ground := Go.Ground.phase }, { on := 12, ground := Go.Ground.phase }, { on := 13, ground := Go.Ground.phase }, { on := 14, ground := Go.Ground.phase }, { on := 15, ground := Go.Ground.phase }], guard := none }) (v := ?_) rfl (by kernel_rfl) (by kernel_rfl) (by kernel_rfl) (fun _ _ _ h => h) (Or.inl ⟨by rfl, ?_⟩) hS9 ?_
          rotate_left
          · (intro wq hSw; go_simp; try with_reducible rfl)
          try simp only [Act.put, List.setIfInBounds_toArray, List.set_cons_zero, List.set_cons_succ]
          refine wpAnyH_ready (rs := [18]) (by kernel_rfl) (by simp) ?_
          refine AllReadyH.cons (o := { dst := none, op := Go.Op.store 3 (Go.Operand.tmp 30) (Go.Operand.tmp 28), type := 0, pos := "file.go:78", after := #[{ on := 17, ground := Go.Ground.data }, { on := 15, ground := Go.Ground.data }, { on := 14, ground := Go.Ground.chain }, { on := 0, ground := Go.Ground.phase }, { on := 1, ground := Go.Ground.phase }, { on := 2, ground := Go.Ground.phase }, { on := 3, ground := Go.Ground.phase }, { on := 4, ground := Go.Ground.phase }, { on := 5, ground := Go.Ground.phase }, { on := 6, ground := Go.Ground.phase }, { on := 7, ground := Go.Ground.phase }, { on := 8, ground := Go.Ground.phase }, { on := 9, ground := Go.Ground.phase }, { on := 10, ground := Go.Ground.phase }, { on := 11, ground := Go.Ground.phase }, { on := 12, ground := Go.Ground.phase }, { on := 13, ground := Go.Ground.phase }, { on := 14, ground := Go.Ground.phase }, { on := 15, ground := Go.Ground.phase }], guard := none }) rfl (fun K hK => ?_) AllReadyH.nil
          have cb := HC.out.2.2.1.used
          have fb := HC.out.2.2.1.free 1000
          go_simp
          refine hK.out _ _ HC.out.2.2.2.1 (fun hS10 => ?_)
          clear hK K cb fb
          try simp only [Act.put, List.setIfInBounds_toArray, List.set_cons_zero, List.set_cons_succ]
          refine wpAnyH_done (by kernel_rfl) ?_ _
          exact HC.out.2.2.2.2
        · go_simp
          refine (span_any B L E HF2.out.1 HF2.out.2 _).mono ?_
          rintro e wz ⟨rfl, rfl⟩
          refine hK.out _ _ hS6 (fun hS11 => ?_)
          clear hK K
          try simp only [Act.put, List.setIfInBounds_toArray, List.set_cons_zero, List.set_cons_succ]
          refine wpAnyH_ready (rs := [3, 14]) (by kernel_rfl) (by simp) ?_
          refine AllReadyH.cons (o := { dst := some 16, op := Go.Op.load 3 (Go.Operand.tmp 15), type := 3, pos := "file.go:78", after := #[{ on := 2, ground := Go.Ground.data }], guard := none }) rfl (fun K hK => ?_) (AllReadyH.cons (o := { dst := some 27, op := Go.Op.call { callee := Go.Callee.builtin Go.Builtin.copy, args := #[Go.Operand.tmp 25, Go.Operand.tmp 26], argTypes := #[179, 9] }, type := 3, pos := "file.go:78", after := #[{ on := 12, ground := Go.Ground.data }, { on := 13, ground := Go.Ground.data }, { on := 12, ground := Go.Ground.chain }], guard := none }) rfl (fun K hK => ?_) AllReadyH.nil)
          · have cu := HD.out.used
            go_simp
            refine hK.out _ _ hS11 (fun hS12 => ?_)
            clear hK K cu
            try simp only [Act.put, List.setIfInBounds_toArray, List.set_cons_zero, List.set_cons_succ]
            refine wpAnyH_ready (rs := [14]) (by kernel_rfl) (by simp) ?_
            refine AllReadyH.cons (o := { dst := some 27, op := Go.Op.call { callee := Go.Callee.builtin Go.Builtin.copy, args := #[Go.Operand.tmp 25, Go.Operand.tmp 26], argTypes := #[179, 9] }, type := 3, pos := "file.go:78", after := #[{ on := 12, ground := Go.Ground.data }, { on := 13, ground := Go.Ground.data }, { on := 12, ground := Go.Ground.chain }], guard := none }) rfl (fun K hK => ?_) AllReadyH.nil
            rw [if_pos (by rfl)]
            refine Lib.wp_copy_run _ (.tmp 25) (.tmp 26) 179 9 rfl _ _ rfl rfl HC.out.1 ?_
            refine hK.out _ _ HC.out.2.1 (fun hS13 => ?_)
            clear hK K
            try simp only [Act.put, List.setIfInBounds_toArray, List.set_cons_zero, List.set_cons_succ]
            refine wpAnyH_take (i := 15) (oi := { dst := some 28, op := Go.Op.binOp Go.BinOp.add 3 (Go.Operand.tmp 16) (Go.Operand.tmp 27) 3, type := 3, pos := "file.go:78", after := #[{ on := 3, ground := Go.Ground.data }, { on := 14, ground := Go.Ground.data }], guard := none }) (v := ?_) rfl (by kernel_rfl) (by kernel_rfl) (by kernel_rfl) (fun _ _ _ h => h) (Or.inl ⟨by rfl, ?_⟩) hS13 ?_
            rotate_left
            · (intro wq hSw; go_simp; try with_reducible rfl)
            try simp only [Act.put, List.setIfInBounds_toArray, List.set_cons_zero, List.set_cons_succ]
            refine wpAnyH_take (i := 16) (oi := { dst := some 29, op := Go.Op.nilCheck (Go.Operand.tmp 13), type := 0, pos := "file.go:78", after := #[{ on := 0, ground := Go.Ground.data }, { on := 0, ground := Go.Ground.phase }, { on := 1, ground := Go.Ground.phase }, { on := 2, ground := Go.Ground.phase }, { on := 3, ground := Go.Ground.phase }, { on := 4, ground := Go.Ground.phase }, { on := 5, ground := Go.Ground.phase }, { on := 6, ground := Go.Ground.phase }, { on := 7, ground := Go.Ground.phase }, { on := 8, ground := Go.Ground.phase }, { on := 9, ground := Go.Ground.phase }, { on := 10, ground := Go.Ground.phase }, { on := 11, ground := Go.Ground.phase }, { on := 12, ground := Go.Ground.phase }, { on := 13, ground := Go.Ground.phase }, { on := 14, ground := Go.Ground.phase }, { on := 15, ground := Go.Ground.phase }], guard := none }) (v := ?_) rfl (by kernel_rfl) (by kernel_rfl) (by kernel_rfl) (fun _ _ _ h => h) (Or.inl ⟨by rfl, ?_⟩) hS13 ?_
            rotate_left
            · (intro wq hSw; go_simp; try with_reducible rfl)
            try simp only [Act.put, List.setIfInBounds_toArray, List.set_cons_zero, List.set_cons_succ]
            refine wpAnyH_take (i := 17) (oi := { dst := some 30, op := Go.Op.fieldAddr 177 (Go.Operand.tmp 29) 1, type := 0, pos := "file.go:78", after := #[{ on := 16, ground := Go.Ground.data }, { on := 0, ground := Go.Ground.phase }, { on := 1, ground := Go.Ground.phase }, { on := 2, ground := Go.Ground.phase }, { on := 3, ground := Go.Ground.phase }, { on := 4, ground := Go.Ground.phase }, { on := 5, ground := Go.Ground.phase }, { on := 6, ground := Go.Ground.phase }, { on := 7, ground := Go.Ground.phase }, { on := 8, ground := Go.Ground.phase }, { on := 9, ground := Go.Ground.phase }, { on := 10, ground := Go.Ground.phase }, { on := 11, ground := Go.Ground.phase }, { on := 12, ground := Go.Ground.phase }, { on := 13, ground := Go.Ground.phase }, { on := 14, ground := Go.Ground.phase }, { on := 15, ground := Go.Ground.phase }], guard := none }) (v := ?_) rfl (by kernel_rfl) (by kernel_rfl) (by kernel_rfl) (fun _ _ _ h => h) (Or.inl ⟨by rfl, ?_⟩) hS13 ?_
            rotate_left
            · (intro wq hSw; go_simp; try with_reducible rfl)
            try simp only [Act.put, List.setIfInBounds_toArray, List.set_cons_zero, List.set_cons_succ]
            refine wpAnyH_ready (rs := [18]) (by kernel_rfl) (by simp) ?_
            refine AllReadyH.cons (o := { dst := none, op := Go.Op.store 3 (Go.Operand.tmp 30) (Go.Operand.tmp 28), type := 0, pos := "file.go:78", after := #[{ on := 17, ground := Go.Ground.data }, { on := 15, ground := Go.Ground.data }, { on := 14, ground := Go.Ground.chain }, { on := 0, ground := Go.Ground.phase }, { on := 1, ground := Go.Ground.phase }, { on := 2, ground := Go.Ground.phase }, { on := 3, ground := Go.Ground.phase }, { on := 4, ground := Go.Ground.phase }, { on := 5, ground := Go.Ground.phase }, { on := 6, ground := Go.Ground.phase }, { on := 7, ground := Go.Ground.phase }, { on := 8, ground := Go.Ground.phase }, { on := 9, ground := Go.Ground.phase }, { on := 10, ground := Go.Ground.phase }, { on := 11, ground := Go.Ground.phase }, { on := 12, ground := Go.Ground.phase }, { on := 13, ground := Go.Ground.phase }, { on := 14, ground := Go.Ground.phase }, { on := 15, ground := Go.Ground.phase }], guard := none }) rfl (fun K hK => ?_) AllReadyH.nil
            have cb := HC.out.2.2.1.used
            have fb := HC.out.2.2.1.free 1000
            go_simp
            refine hK.out _ _ HC.out.2.2.2.1 (fun hS14 => ?_)
            clear hK K cb fb
            try simp only [Act.put, List.setIfInBounds_toArray, List.set_cons_zero, List.set_cons_succ]
            refine wpAnyH_done (by kernel_rfl) ?_ _
            exact HC.out.2.2.2.2
          · rw [if_pos (by rfl)]
            refine Lib.wp_copy_run _ (.tmp 25) (.tmp 26) 179 9 rfl _ _ rfl rfl HC.out.1 ?_
            refine hK.out _ _ HC.out.2.1 (fun hS15 => ?_)
            clear hK K
            try simp only [Act.put, List.setIfInBounds_toArray, List.set_cons_zero, List.set_cons_succ]
            refine wpAnyH_ready (rs := [3]) (by kernel_rfl) (by simp) ?_
            refine AllReadyH.cons (o := { dst := some 16, op := Go.Op.load 3 (Go.Operand.tmp 15), type := 3, pos := "file.go:78", after := #[{ on := 2, ground := Go.Ground.data }], guard := none }) rfl (fun K hK => ?_) AllReadyH.nil
            have cu := HC.out.2.2.1.used
            go_simp
            refine hK.out _ _ hS15 (fun hS16 => ?_)
            clear hK K cu
            try simp only [Act.put, List.setIfInBounds_toArray, List.set_cons_zero, List.set_cons_succ]
            refine wpAnyH_take (i := 15) (oi := { dst := some 28, op := Go.Op.binOp Go.BinOp.add 3 (Go.Operand.tmp 16) (Go.Operand.tmp 27) 3, type := 3, pos := "file.go:78", after := #[{ on := 3, ground := Go.Ground.data }, { on := 14, ground := Go.Ground.data }], guard := none }) (v := ?_) rfl (by kernel_rfl) (by kernel_rfl) (by kernel_rfl) (fun _ _ _ h => h) (Or.inl ⟨by rfl, ?_⟩) hS16 ?_
            rotate_left
            · (intro wq hSw; go_simp; try with_reducible rfl)
            try simp only [Act.put, List.setIfInBounds_toArray, List.set_cons_zero, List.set_cons_succ]
            refine wpAnyH_take (i := 16) (oi := { dst := some 29, op := Go.Op.nilCheck (Go.Operand.tmp 13), type := 0, pos := "file.go:78", after := #[{ on := 0, ground := Go.Ground.data }, { on := 0, ground := Go.Ground.phase }, { on := 1, ground := Go.Ground.phase }, { on := 2, ground := Go.Ground.phase }, { on := 3, ground := Go.Ground.phase }, { on := 4, ground := Go.Ground.phase }, { on := 5, ground := Go.Ground.phase }, { on := 6, ground := Go.Ground.phase }, { on := 7, ground := Go.Ground.phase }, { on := 8, ground := Go.Ground.phase }, { on := 9, ground := Go.Ground.phase }, { on := 10, ground := Go.Ground.phase }, { on := 11, ground := Go.Ground.phase }, { on := 12, ground := Go.Ground.phase }, { on := 13, ground := Go.Ground.phase }, { on := 14, ground := Go.Ground.phase }, { on := 15, ground := Go.Ground.phase }], guard := none }) (v := ?_) rfl (by kernel_rfl) (by kernel_rfl) (by kernel_rfl) (fun _ _ _ h => h) (Or.inl ⟨by rfl, ?_⟩) hS16 ?_
            rotate_left
            · (intro wq hSw; go_simp; try with_reducible rfl)
            try simp only [Act.put, List.setIfInBounds_toArray, List.set_cons_zero, List.set_cons_succ]
            refine wpAnyH_take (i := 17) (oi := { dst := some 30, op := Go.Op.fieldAddr 177 (Go.Operand.tmp 29) 1, type := 0, pos := "file.go:78", after := #[{ on := 16, ground := Go.Ground.data }, { on := 0, ground := Go.Ground.phase }, { on := 1, ground := Go.Ground.phase }, { on := 2, ground := Go.Ground.phase }, { on := 3, ground := Go.Ground.phase }, { on := 4, ground := Go.Ground.phase }, { on := 5, ground := Go.Ground.phase }, { on := 6, ground := Go.Ground.phase }, { on := 7, ground := Go.Ground.phase }, { on := 8, ground := Go.Ground.phase }, { on := 9, ground := Go.Ground.phase }, { on := 10, ground := Go.Ground.phase }, { on := 11, ground := Go.Ground.phase }, { on := 12, ground := Go.Ground.phase }, { on := 13, ground := Go.Ground.phase }, { on := 14, ground := Go.Ground.phase }, { on := 15, ground := Go.Ground.phase }], guard := none }) (v := ?_) rfl (by kernel_rfl) (by kernel_rfl) (by kernel_rfl) (fun _ _ _ h => h) (Or.inl ⟨by rfl, ?_⟩) hS16 ?_
            rotate_left
            · (intro wq hSw; go_simp; try with_reducible rfl)
            try simp only [Act.put, List.setIfInBounds_toArray, List.set_cons_zero, List.set_cons_succ]
            refine wpAnyH_ready (rs := [18]) (by kernel_rfl) (by simp) ?_
            refine AllReadyH.cons (o := { dst := none, op := Go.Op.store 3 (Go.Operand.tmp 30) (Go.Operand.tmp 28), type := 0, pos := "file.go:78", after := #[{ on := 17, ground := Go.Ground.data }, { on := 15, ground := Go.Ground.data }, { on := 14, ground := Go.Ground.chain }, { on := 0, ground := Go.Ground.phase }, { on := 1, ground := Go.Ground.phase }, { on := 2, ground := Go.Ground.phase }, { on := 3, ground := Go.Ground.phase }, { on := 4, ground := Go.Ground.phase }, { on := 5, ground := Go.Ground.phase }, { on := 6, ground := Go.Ground.phase }, { on := 7, ground := Go.Ground.phase }, { on := 8, ground := Go.Ground.phase }, { on := 9, ground := Go.Ground.phase }, { on := 10, ground := Go.Ground.phase }, { on := 11, ground := Go.Ground.phase }, { on := 12, ground := Go.Ground.phase }, { on := 13, ground := Go.Ground.phase }, { on := 14, ground := Go.Ground.phase }, { on := 15, ground := Go.Ground.phase }], guard := none }) rfl (fun K hK => ?_) AllReadyH.nil
            have cb := HC.out.2.2.1.used
            have fb := HC.out.2.2.1.free 1000
            go_simp
            refine hK.out _ _ HC.out.2.2.2.1 (fun hS17 => ?_)
            clear hK K cb fb
            try simp only [Act.put, List.setIfInBounds_toArray, List.set_cons_zero, List.set_cons_succ]
            refine wpAnyH_done (by kernel_rfl) ?_ _
            exact HC.out.2.2.2.2
  case done =>
    rintro D ys W hD rfl ⟨⟨b0, b1, q0, hz⟩, hB⟩ hK
    have cb1 := b1.cell
    have HU := Lib.hid (And.intro q0 (And.intro hB hK))
    clear b0 b1 q0 hB hK
    have hD2 : B ≤ D := by have := HA.out.2.2.1; omega
    gi_wp2
    rw [Exit.noGoto_ret]
    refine ⟨by simp, .inl ⟨_, _, rfl, run_takeDeferred HU.out.2.2, ?_⟩⟩
    have hq := HU.out.1
    have hfl : (flat (prs 0 zs)).length = tot zs := by rw [flat_prs, tot_flatten]
    rw [hfl, flat_prs] at hq
    have h1000 := hq.fits
    rw [tot_flatten] at h1000
    refine ⟨.nilIface, by simp [results, Tryz.results112, go_sem], HU.out.2.1.trans (belowK_b (w := w) (Nat.le_of_lt hlt) W D _ _ (by have := HA.out.2.2.1; omega) HU.out.2.2 rfl rfl), .inl ⟨h1000, rfl, hq.of_block (World.putObj_heap_other (by have := HA.out.2.2.1; omega))⟩⟩
  case stop =>
    rintro D c pre W hD hpre ⟨⟨rfl, ⟨s, b1⟩, p, x, rfl, hx⟩, hB⟩ hK
    have hpe := (prs_ends hpre).2
    have cb1 := b1.cell
    have HU := Lib.hid (And.intro hB (And.intro hK (And.intro hpe hx)))
    clear b1 hB hK
    have hD2 : B ≤ D := by have := HA.out.2.2.1; omega
    gi_wp2
    rw [Exit.noGoto_ret]
    refine ⟨by simp, .inl ⟨_, _, rfl, run_takeDeferred HU.out.2.1, ?_⟩⟩
    refine ⟨.iface 167 (.string s), by simp [results, Tryz.results112, go_sem], HU.out.1.trans (belowK_b (w := w) (Nat.le_of_lt hlt) W D _ _ (by have := HA.out.2.2.1; omega) HU.out.2.1 rfl rfl), .inr ⟨by have := HU.out.2.2; omega, s, rfl⟩⟩
theorem put_any (B : Nat) (ao : Option Addr) (len cap : Nat) (zs : List It) (hreach : len ≤ 1000000) (hsum : tot zs ≤ 4000000000000000000) (w : World) (hL : Txs w ao len cap zs) (hne : 0 < len → ∀ a, ao = some a → a.block ≠ B) (hbuf : Buf B 0 [] w) :
    Calls Tryz.prog 112 #[.pointer (some ⟨B, 0, none⟩), .slice ao len cap] w (PutP B zs w) := (callsIn_wide (n := 3)).1 (put_in 3 (by omega) B ao len cap zs hreach hsum w hL hne hbuf)
end Go.Proofs.YtlafcplcjpcikaaGreatDoor.Fi

/- join: the parts as one file, in new memory. -/
namespace Go.Proofs.Fil
def txt (r : Option It) : It := r.getD []
def errR (r : Option It) : Int := if r.isSome then 0 else 90




end Go.Proofs.Fil
namespace Go.Proofs.YtlafcplcjpcikaaGreatDoor.Fi
open Go.RowKit Go.Proofs.Fld Go.Proofs.Fil Go.Shelf Go.Sort

/-- It tells a file, or none and an error. -/
def TwoP (r : Option It) (w : World) (e : Ending) (w' : World) : Prop :=
  ∃ v, ErrIs v (errR r) ∧ e = .returned (.tuple #[.string (bs (txt r)), v]) ∧ Below w.heap.size w w'
theorem TwoP.none {w w' : World} (s : ByteArray) (h : Below w.heap.size w w') : TwoP none w (.returned (.tuple #[.string { data := #[] }, .iface 167 (.string s)])) w' := ⟨_, .flt s, rfl, h⟩
theorem TwoP.some {w w' : World} (a : It) (h : Below w.heap.size w w') : TwoP (some a) w (.returned (.tuple #[.string (bs a), .nilIface])) w' := ⟨_, .ok, rfl, h⟩

set_option maxRecDepth 100000 in
set_option maxHeartbeats 2000000 in
theorem join_any (ao : Option Addr) (len cap : Nat) (zs : List It) (hreach : len ≤ 1000000) (hsum : tot zs ≤ 4000000000000000000) (w : World) (hL : Txs w ao len cap zs) :
    Calls Tryz.prog 110 #[.slice ao len cap] w (TwoP (joinR zs.flatten) w) := by
  obtain ⟨r, hr⟩ : ∃ r, joinR zs.flatten = r := ⟨_, rfl⟩
  rw [hr]
  have HR := Lib.hid hr
  clear hr
  have hb := Buf.new w
  have hN := Below.new w (.cells Tryz.zeroCells177 177)
  have hL1 := hL.more hN
  have hne : 0 < len → ∀ a, ao = some a → a.block ≠ w.heap.size := fun hp a e => by
    obtain ⟨b, off, e', hbl, _⟩ := hL.at hp
    rw [e] at e'
    obtain rfl := Option.some.inj e'
    simp only
    omega
  obtain ⟨W1, hW1⟩ : ∃ W1, w.alloc (.cells Tryz.zeroCells177 177) = W1 := ⟨_, rfl⟩
  rw [hW1] at hb hN hL1
  have HX := Lib.hid (And.intro hb (And.intro hN (And.intro hL1 hne)))
  clear hb hN hL1 hL hne
  go_enter Tryz.func110, Tryz.ntmps110
  go_wp2_with (go_at_call 112; refine (put_any w.heap.size ao len cap zs hreach hsum W1 HX.out.2.2.1 HX.out.2.2.2 HX.out.1).mono ?_)
  rintro e w2 ⟨hB2, hcase⟩
  have hB := HX.out.2.1.trans hB2
  rcases hcase with ⟨ht, rfl, hbuf⟩ | ⟨ht, s, rfl⟩
  · have e1 : r = some zs.flatten := by rw [← HR.out]; unfold joinR; rw [if_pos (by rw [tot_flatten]; exact ht)]
    subst e1
    obtain ⟨fl, hfl⟩ : ∃ fl, zs.flatten = fl := ⟨_, rfl⟩
    have hfn := tot_flatten zs
    rw [hfl] at hbuf hfn
    obtain ⟨t, htt⟩ : ∃ t, tot zs = t := ⟨_, rfl⟩
    rw [htt] at hbuf hfn ht
    have cu := hbuf.used
    have cv := run_stringB w2 w.heap.size t fl hbuf
    rw [hfn] at cv
    obtain ⟨V, hV⟩ : ∃ V, spanV w.heap.size 0 t = V := ⟨_, rfl⟩
    rw [hV] at cv
    have HV := Lib.hid (And.intro hB hV)
    have sp := span_any w.heap.size 0 t (Nat.zero_le _) ht w2
    rw [show ((0 : Nat) : Int) = 0 from rfl] at sp
    have HS := Lib.hid sp
    clear hbuf hB hB2 hV hfn htt sp
    go_wp2_with (go_at_call 113; refine HS.out.mono ?_)
    rintro e w3 ⟨rfl, rfl⟩
    rw [HV.out.2]
    go_wp2
    refine bodyPost_ret (results_tmp2 rfl _ _ _) rfl ?_
    rw [hfl]
    exact TwoP.some fl HV.out.1
  · have e1 : r = none := by rw [← HR.out]; unfold joinR; rw [if_neg (by rw [tot_flatten]; omega)]
    subst e1
    have HV := Lib.hid hB
    clear hB hB2 ht
    go_wp2
    refine bodyPost_ret (results_tmp2 rfl _ _ _) rfl ?_
    exact TwoP.none s HV.out
end Go.Proofs.YtlafcplcjpcikaaGreatDoor.Fi

/- judge; parts in a row, joined. -/
namespace Go.Proofs.Fil
/-- What judge says: 0, or 90. -/
def okE (s : It) (o : Int) : Int := if okAt s o then 0 else 90
end Go.Proofs.Fil
namespace Go.Proofs.YtlafcplcjpcikaaGreatDoor.Fi
open Go.RowKit Go.Proofs.Fld Go.Proofs.Fil Go.Shelf Go.Sort

theorem TwoP.more {r : Option It} {w w1 w' : World} {e : Ending} (h : TwoP r w1 e w') (k : Below w.heap.size w w1) : TwoP r w e w' := by
  obtain ⟨v, hv, he, hb⟩ := h
  exact ⟨v, hv, he, below_more k hb⟩



theorem str_mid (l : List UInt8) (k m : Nat) (h : k ≤ m) (h2 : m ≤ l.length) (w : World) : (Instr.slice 9 (.string (bs l)) (some (.int .i64 (k : Int))) (some (.int .i64 (m : Int))) none).run Tryz.prog w = .ok (.string (bs ((l.drop k).take (m - k)))) w := by
  simp [go_sem, Tryz.underlying9, bs_size, bs_extract, h, h2]

def JudgeP (s : It) (o : Int) (w : World) (e : Ending) (w' : World) : Prop := ∃ v, ErrIs v (okE s o) ∧ e = .returned v ∧ w = w'
set_option maxHeartbeats 1000000 in
theorem judge_any (s : It) (o : Int) (w : World) : Calls Tryz.prog 109 #[.string (bs s), .int .i64 o] w (JudgeP s o w) := by
  have hz := bs_size s
  obtain ⟨k, hk⟩ : ∃ k, okE s o = k := ⟨_, rfl⟩
  unfold JudgeP
  rw [hk]
  unfold okE at hk
  obtain ⟨S, hS⟩ : ∃ S, s.length = S := ⟨_, rfl⟩
  rw [hS] at hz
  by_cases h1 : 1000 < S
  · have hd : decide ((S : Int) > 1000) = true := decide_eq_true (by omega)
    rw [if_neg (by unfold okAt; omega)] at hk
    subst hk
    go_enter Tryz.func109, Tryz.ntmps109
    go_wp2
    go_ret
    exact ⟨_, .flt _, rfl, rfl⟩
  · have hd : decide ((S : Int) > 1000) = false := decide_eq_false (by omega)
    by_cases h2 : o < 0
    · have hd2 : decide (o < 0) = true := decide_eq_true h2
      rw [if_neg (by unfold okAt; omega)] at hk
      subst hk
      go_enter Tryz.func109, Tryz.ntmps109
      go_wp2
      go_ret
      exact ⟨_, .flt _, rfl, rfl⟩
    · have hd2 : decide (o < 0) = false := decide_eq_false h2
      by_cases h3 : (S : Int) < o
      · have hd3 : decide (o > (S : Int)) = true := decide_eq_true h3
        rw [if_neg (by unfold okAt; omega)] at hk
        subst hk
        go_enter Tryz.func109, Tryz.ntmps109
        go_wp2
        go_ret
        exact ⟨_, .flt _, rfl, rfl⟩
      · have hd3 : decide (o > (S : Int)) = false := decide_eq_false h3
        rw [if_pos (by unfold okAt; omega)] at hk
        subst hk
        go_enter Tryz.func109, Tryz.ntmps109
        go_wp2
        go_ret
        exact ⟨_, .ok, rfl, rfl⟩
theorem txs_row (w : World) (zs : List It) (C : Array Value) (hC : C = (zs.map fun x => Value.string (bs x)).toArray) (k : Nat) (hk : zs.length = k) (hm : k ≤ 1000) (hx : ∀ x ∈ zs, x.length ≤ 9223372036854775807) : Txs (w.alloc (.cells C 9)) (some ⟨w.heap.size, 0, none⟩) k k zs := by
  subst hC hk
  refine ⟨rfl, Nat.le_refl _, by unfold maxLen; omega, (fun h => by cases h), hx, fun _ => ⟨w.heap.size, 0, rfl, ?_⟩⟩
  intro j y hj
  rw [World.cell?_alloc_at _ _ _ _ rfl, Nat.zero_add, List.getElem?_toArray, List.getElem?_map, hj]
  rfl
theorem join_row (w : World) (zs : List It) (C : Array Value) (hC : C = (zs.map fun x => Value.string (bs x)).toArray) (k : Nat) (hk : zs.length = k) (hm : k ≤ 1000) (ht : tot zs ≤ 4000000000000000000) (hx : ∀ x ∈ zs, x.length ≤ 9223372036854775807) (r : Option It) (hr : joinR zs.flatten = r) :
    Calls Tryz.prog 110 #[.slice (some ⟨w.heap.size, 0, none⟩) k k] (w.alloc (.cells C 9)) (TwoP r (w.alloc (.cells C 9))) := hr ▸ join_any _ k k zs (by omega) ht _ (txs_row w zs C hC k hk hm hx)
theorem mem_le {zs : List It} (ht : tot zs ≤ 4000000000000000000) : ∀ x ∈ zs, x.length ≤ 9223372036854775807 := by
  intro x hx
  have : x.length ≤ tot zs := by
    clear ht
    induction zs with
    | nil => cases hx
    | cons a r ih =>
      simp only [tot]
      rcases List.mem_cons.1 hx with rfl | h
      · omega
      · have := ih h
        omega
  omega








theorem join1 (w : World) (a : It) (r : Option It) (ht : a.length ≤ 4000000000000000000) (hr : joinR a = r) :
    Calls Tryz.prog 110 #[.slice (some ⟨w.heap.size, 0, none⟩) 1 1] (w.alloc (.cells #[.string (bs a)] 9)) (TwoP r (w.alloc (.cells #[.string (bs a)] 9))) := by
  have h : tot [a] ≤ 4000000000000000000 := by simp only [tot]; omega
  exact join_row w [a] _ rfl 1 rfl (by omega) h (mem_le h) r (by rw [← hr]; simp)
end Go.Proofs.YtlafcplcjpcikaaGreatDoor.Fi

/- splice, write: by a goto out of each. -/
namespace Go.Proofs.YtlafcplcjpcikaaGreatDoor.Fi
open Go.RowKit Go.Proofs.Fld Go.Proofs.Fil Go.Shelf Go.Sort










end Go.Proofs.YtlafcplcjpcikaaGreatDoor.Fi

/- read: by a goto out. -/
namespace Go.Proofs.YtlafcplcjpcikaaGreatDoor.Fi
open Go.RowKit Go.Proofs.Fld Go.Proofs.Fil Go.Shelf Go.Sort

/-- What holds at the way out. -/
def OutRd (w : World) (a : Act) (W : World) : Prop := ∃ (v : Value) (u0 u1 u2 u3 u4 u5 u6 u7 u9 u10 u11 u12 u13 u14 u15 u16 u17 u18 u19 u20 u21 u22 u23 u24 u25 u26 u27 u28 u29 u30 u31 u32 : Value), a = { tmps := #[u0, u1, u2, u3, u4, u5, u6, u7, v, u9, u10, u11, u12, u13, u14, u15, u16, u17, u18, u19, u20, u21, u22, u23, u24, u25, u26, u27, u28, u29, u30, u31, u32], defers := [] } ∧ (∃ s, v = .iface 167 (.string s)) ∧ Below w.heap.size w W

set_option maxRecDepth 100000 in
set_option maxHeartbeats 4000000 in
theorem read_any (s : It) (o n : Int) (w : World) :
    Calls Tryz.prog 106 #[.string (bs s), .int .i64 o, .int .i64 n] w (TwoP (readR s o n) w) := by
  have hz := bs_size s
  obtain ⟨S, hS⟩ : ∃ S, s.length = S := ⟨_, rfl⟩
  obtain ⟨r, hr⟩ : ∃ r, readR s o n = r := ⟨_, rfl⟩
  rw [hr]
  by_cases hok : okAt s o
  · obtain ⟨k, rfl, hk, hs⟩ := okAt_nat hok
    have hj : okE s (k : Int) = 0 := by unfold okE; rw [if_pos hok]
    have HJ := Lib.hid hj
    by_cases h1 : n < 0
    · have hd : decide (n < 0) = true := decide_eq_true h1
      have e1 : readR s (k : Int) n = none := by unfold readR; rw [if_neg (by omega)]
      rw [e1] at hr
      subst hr
      rw [hS] at hz
      clear hj h1 e1
      go_enter Tryz.func106, Tryz.ntmps106
      go_wp2
      refine wp_scope_jumps 0 (OutRd w) (fun _ _ => 0) rfl ?first ?pass
      case first =>
        go_wp2_with (go_at_call 109; refine (judge_any s _ w).mono ?_)
        rintro e w1 ⟨v, hv, rfl, rfl⟩
        rw [HJ.out] at hv
        cases hv
        go_wp2
        apply wp_goto
        exact ⟨rfl, _, _, _, _, _, _, _, _, _, _, _, _, _, _, _, _, _, _, _, _, _, _, _, _, _, _, _, _, _, _, _, _, _, rfl, ⟨_, rfl⟩, Below.refl _ _⟩
      case pass =>
        rintro a W ⟨v, u0, u1, u2, u3, u4, u5, u6, u7, u9, u10, u11, u12, u13, u14, u15, u16, u17, u18, u19, u20, u21, u22, u23, u24, u25, u26, u27, u28, u29, u30, u31, u32, rfl, ⟨q, rfl⟩, hb⟩
        go_wp2
        refine bodyPost_ret (results_tmp2 rfl _ _ _) rfl ?_
        exact TwoP.none q hb
    · have hd : decide (n < 0) = false := decide_eq_false h1
      obtain ⟨m, rfl⟩ := Int.eq_ofNat_of_zero_le (by omega : 0 ≤ n)
      obtain ⟨D, hD⟩ : ∃ D, S - k = D := ⟨_, rfl⟩
      have hw : IntKind.i64.wrap ((S : Int) - (k : Int)) = (D : Int) := by rw [IntKind.wrap_i64]; omega
      obtain ⟨N, hN⟩ : ∃ N, min m D = N := ⟨_, rfl⟩
      have hNd : N ≤ D := by omega
      have hm : min (m : Int) (D : Int) = (N : Int) := by omega
      obtain ⟨q, hq⟩ : ∃ q, k + N = q := ⟨_, rfl⟩
      have hw2 : IntKind.i64.wrap ((k : Int) + (N : Int)) = (q : Int) := by rw [IntKind.wrap_i64]; omega
      have s1 := str_mid s k q (by omega) (by omega)
      obtain ⟨X, hX⟩ : ∃ X, (s.drop k).take (q - k) = X := ⟨_, rfl⟩
      rw [hX] at s1
      have hXl : X.length ≤ 1000 := by rw [← hX, List.length_take, List.length_drop]; omega
      have hj2 : joinR X = r := by
        unfold joinR
        rw [if_pos hXl, ← hr, readR_of hk hs, ← hX]
        congr 1
        rw [show q - k = N by omega, ← hN]
        rcases Nat.le_total m D with h | h
        · rw [show min m D = m from Nat.min_eq_left h]
        · rw [show min m D = D from Nat.min_eq_right h, List.take_of_length_le (by rw [List.length_drop]; omega), List.take_of_length_le (by rw [List.length_drop]; omega)]
      have HC := Lib.hid (fun W => join1 W X r (by omega) hj2)
      rw [hS] at hz
      clear hj h1 hD hN hNd hq hX hXl hj2 hr hok
      go_enter Tryz.func106, Tryz.ntmps106
      go_wp2
      refine wp_scope_jumps 0 (fun _ _ => False) (fun _ _ => 0) rfl ?first ?pass
      case pass => exact fun _ _ h => h.elim
      case first =>
        go_wp2_with (go_at_call 109; refine (judge_any s _ w).mono ?_)
        rintro e w1 ⟨v, hv, rfl, rfl⟩
        rw [HJ.out] at hv
        cases hv
        go_wp2_with (go_at_call 110; refine (HC.out w).mono ?_)
        rintro e w2 ⟨v, hv, rfl, hb⟩
        have HV := Lib.hid (And.intro hv hb)
        clear hv hb
        go_wp2
        refine bodyPost_ret (results_tmp2 rfl _ _ _) rfl ?_
        exact ⟨v, HV.out.1, rfl, below_more (Below.new w _) HV.out.2⟩
  · have hj : okE s o = 90 := by unfold okE; rw [if_neg hok]
    have HJ := Lib.hid hj
    have e1 : readR s o n = none := by unfold readR; rw [if_neg (fun h => hok h.1)]
    rw [e1] at hr
    subst hr
    clear hj hok e1
    go_enter Tryz.func106, Tryz.ntmps106
    go_wp2
    refine wp_scope_jumps 0 (OutRd w) (fun _ _ => 0) rfl ?first ?pass
    case first =>
      go_wp2_with (go_at_call 109; refine (judge_any s o w).mono ?_)
      rintro e w1 ⟨v, hv, rfl, rfl⟩
      rw [HJ.out] at hv
      cases hv
      go_wp2
      apply wp_goto
      exact ⟨rfl, _, _, _, _, _, _, _, _, _, _, _, _, _, _, _, _, _, _, _, _, _, _, _, _, _, _, _, _, _, _, _, _, _, rfl, ⟨_, rfl⟩, Below.refl _ _⟩
    case pass =>
      rintro a W ⟨v, u0, u1, u2, u3, u4, u5, u6, u7, u9, u10, u11, u12, u13, u14, u15, u16, u17, u18, u19, u20, u21, u22, u23, u24, u25, u26, u27, u28, u29, u30, u31, u32, rfl, ⟨q, rfl⟩, hb⟩
      go_wp2
      refine bodyPost_ret (results_tmp2 rfl _ _ _) rfl ?_
      exact TwoP.none q hb
end Go.Proofs.YtlafcplcjpcikaaGreatDoor.Fi

/- Nothing of the shelf is wanted here. -/
namespace Go.Proofs.YtlafcplcjpcikaaGreatDoor
end Go.Proofs.YtlafcplcjpcikaaGreatDoor

/- cut: by a goto out. -/
namespace Go.Proofs.YtlafcplcjpcikaaGreatDoor.Fi
open Go.RowKit Go.Proofs.Fld Go.Proofs.Fil Go.Shelf Go.Sort










end Go.Proofs.YtlafcplcjpcikaaGreatDoor.Fi

/- The package's functions. -/
namespace Go.Proofs.YtlafcplcjpcikaaGreatDoor.Fi
open Go.RowKit Go.Proofs.Fld Go.Proofs.Fil Go.Shelf Go.Sort

/-- It tells the bytes x and the number c. -/
def AnsV (x : It) (c : Int) (w : World) (e : Ending) (w' : World) : Prop := e = .returned (.tuple #[.string (bs x), .int .i64 c]) ∧ Below w.heap.size w w'
set_option maxHeartbeats 1000000 in
theorem Read_p {s : It} {o n : Int} {r : Option It} {x : It} {c : Int} (hr : readR s o n = r) (hx : txt r = x) (hc : errR r = c) {w : World} (hg : ErrT w) :
    Calls Tryz.prog 104 #[.string (bs s), .int .i64 o, .int .i64 n] w (AnsV x c w) := by
  subst hr hx hc
  go_enter Tryz.func104, Tryz.ntmps104
  go_wp2_with (go_at_call 106; refine (read_any s o n w).mono ?_)
  rintro e w1 ⟨v, hv, rfl, hb⟩
  have HV := Lib.hid (And.intro hv (And.intro hb (hg.more hb)))
  clear hv hb hg
  go_wp2_with (go_at_call 107; refine (told_any HV.out.1 w1 HV.out.2.2).mono ?_)
  rintro e w2 ⟨rfl, hb2⟩
  have HW := Lib.hid (below_more HV.out.2.1 hb2)
  clear hb2
  go_wp2
  refine bodyPost_ret (results_tmp2 rfl _ _ _) rfl ?_
  exact ⟨rfl, HW.out⟩
end Go.Proofs.YtlafcplcjpcikaaGreatDoor.Fi

/- cut: the first bytes; what is known: shown. -/
namespace Go.Proofs.YtlafcplcjpcikaaGreatDoor.Fi
open Go.RowKit Go.Proofs.Fld Go.Proofs.Fil Go.Shelf Go.Sort

/-- It tells a text, and leaves all as it was. -/
def CutP (x : It) (w : World) (e : Ending) (w' : World) : Prop := e = .returned (.string (bs x)) ∧ w = w'




end Go.Proofs.YtlafcplcjpcikaaGreatDoor.Fi

/- The document's answers. -/
namespace Go.Proofs.YtlafcplcjpcikaaGreatDoor.Fi
open Go.RowKit Go.Proofs.Fld Go.Proofs.Fil Go.Shelf Go.Sort






theorem AnsV.none (w : World) : AnsV [] 90 w (.returned (.tuple #[.string { data := #[] }, .int .i64 90])) w := ⟨rfl, Below.refl _ _⟩
end Go.Proofs.YtlafcplcjpcikaaGreatDoor.Fi

/- The document's answers: cut, splice. -/
namespace Go.Proofs.YtlafcplcjpcikaaGreatDoor.Fi
open Go.RowKit Go.Proofs.Fld Go.Proofs.Fil Go.Shelf Go.Sort











end Go.Proofs.YtlafcplcjpcikaaGreatDoor.Fi
