/- Grow, Concat at texts: a copy of a row; own: objects in new memory. -/
import Derived.Test.YtnbpfbmhheimbaaGreatDoorSpRight
import Derived.Test.YtnbpfbmhheimbaaGreatDoorRgB
import Derived.Laws.AppendOwnNone
import Derived.Lib.AppendZeros
import Derived.Deep.AppendLies
import Derived.Deep.Upon
namespace Go.Proofs.YtnbpfbmhheimbaaGreatDoor
open Go.RowKit Go.Proofs.Fld Go.Proofs.Rng Go.Proofs.Spc Go.Shelf Go.Sort

/-- append(buf, xs...) where buf is the call's own, and xs came in: nil or not. -/
theorem wpList_append_some {P : Program} (w : World) {ops : Array Oper} {rest : List Oper} {o : Oper} {a : Act} {Q : Exit → Act → World → Prop} (hgd : o.guard = none) (sl x : Operand) (t : TypeId)
    (ho : o.op = .call { callee := .builtin .append, args := #[sl, x], argTypes := #[t, t] })
    (base : Nat) (e : TypeId) (i : TypeInfo) (z : Value) (size bytes : Nat) (ht : P.underlying t = some (.slice e)) (hi : P.info? e = some i) (hz : i.zero = some z)
    (hsize : i.size = size) (hby : i.bytes = bytes) (hzs : z.cells.size = size) (hsz : 0 < size)
    (v : Value) (n : Nat) (xs : List Value) (hs : a.eval sl = v) (hown : w.ownsRow base e size v n xs)
    (ao : Option Addr) (m c : Nat) (news : List Value) (hx : a.eval x = .slice ao m c) (hl : news.length = m * size) (hnone : ao = none → m = 0 ∧ c = 0) (hnews : ∀ ad, ao = some ad → ∀ j u, news[j]? = some u → w.cell? (ad.add j) = some u) (h1 : ∀ u ∈ news, u.oneCell' = true)
    (h63 : n + m ≤ maxLen) (hbytes : (n + m) * bytes ≤ 140737488355328) (hbase : base ≤ w.heap.size)
    (h : ∀ v' w', AppQ base e size v w v' (n + m) (xs ++ news) w' → wpList P ops Q rest (a.put o.dst v') w') : wpList P ops Q (o :: rest) a w := by
  cases ao with
  | none =>
    obtain ⟨rfl, rfl⟩ := hnone rfl
    have hn : news = [] := List.eq_nil_of_length_eq_zero (by rw [hl]; omega)
    subst hn
    exact wpList_append_own_none hgd sl x t ho base e i size ht hi v n xs hs hown hx (h v w ⟨by rw [List.append_nil]; exact hown, World.grownBy.refl w _⟩)
  | some ad => exact wpList_append_own w hgd sl x t ho base e i z size bytes ht hi hz hsize hby hzs hsz v n xs hs hown ad m c news hx hl (hnews ad rfl) h1 h63 hbytes hbase (fun v' w' h2 h3 _ => h v' w' ⟨h2, h3⟩)
/-- An empty row. -/
def GrowS (w : World) (e : Ending) (w' : World) : Prop := ∃ a c, e = .returned (.slice a 0 c) ∧ OwnT w.heap.size w' (.slice a 0 c) [] ∧ Below w.heap.size w w'
set_option maxRecDepth 100000 in
set_option maxHeartbeats 2000000 in
theorem growS_any (n : Nat) (hn : n ≤ 1000000) (w : World) : Calls Tryz.prog 147 #[.slice none 0 0, .int .i64 (n : Int)] w (GrowS w) := by
  obtain ⟨i0, hi, hz0, hz1, hz2⟩ := info_parts infoS
  by_cases h0 : n = 0
  · subst h0
    go_enter Tryz.func147, Tryz.ntmps147
    go_wp2
    go_ret
    exact ⟨_, _, rfl, OwnT.nil _ _, Below.refl _ _⟩
  · have hg := grownCap_ge w n 0 9
    have hm := grownCap_le_maxLen w n 0 9 (by unfold maxLen; omega)
    have hr : ∀ ty, (Builtin.append_ #[31, 3] ty #[.slice none 0 0, .int .i64 (n : Int)]).run Tryz.prog w = _ := fun ty => Lib.run_append_nil_zeros w _ _ ty 9 i0 _ .i64 .i64 Tryz.underlying31 Tryz.underlying3 hi hz0 n (by omega) (by rw [hz1]; decide) (by omega) (by rw [hz2]; omega)
    obtain ⟨G, hG⟩ : ∃ G, grownCap w n 0 9 = G := ⟨_, rfl⟩
    rw [hG] at hr hg hm
    obtain ⟨M, hM⟩ : ∃ M, Builtin.zeroCells (Value.string { data := #[] }).cells n ++ Builtin.zeroCells (Value.string { data := #[] }).cells (G - n) = M := ⟨_, rfl⟩
    have hMs : M.size = G * 1 := by
      rw [← hM, Array.size_append, size_zeroCells, size_zeroCells]
      show n * 1 + (G - n) * 1 = G * 1
      omega
    rw [hM] at hr
    clear hM hG
    have h1 : ¬ ((n : Int) < 0) := by omega
    have h4 : (n : Int) > 0 := by omega
    have hG63 : G ≤ 9223372036854775807 := by unfold maxLen at hm; exact hm
    have HO := Lib.hid (show OwnT w.heap.size (w.drew.alloc (.cells M 9)) (.slice (some ⟨w.heap.size, 0, none⟩) 0 G) [] from ⟨rfl, .inr ⟨w.heap.size, G, M, rfl, Nat.le_refl _, World.alloc_heap_new w.drew _, Nat.zero_le _, hm, hMs, by simp [tcl]⟩⟩)
    have HB := Lib.hid (show Below w.heap.size w (w.drew.alloc (.cells M 9)) from (Below.refl _ w).drew.alloc (Nat.le_refl _) _)
    clear hm hMs
    go_enter Tryz.func147, Tryz.ntmps147
    have HR := Lib.hid hr
    clear hr
    go_wp2_with (at_builtin; refine Lib.wpList_append_run _ rfl _ _ 31 3 rfl _ _ rfl rfl _ _ (HR.out _) ?_)
    go_ret
    exact ⟨_, _, rfl, HO.out, HB.out⟩

set_option maxRecDepth 100000 in
set_option maxHeartbeats 4000000 in
theorem concatS_any (T : Nat) (a1 : Option Addr) (k1 c1 : Nat) (l : List It) (hk1 : k1 ≤ 1000000) (w : World) (t0 : w.cell? ⟨T, 0, none⟩ = some (.slice a1 k1 c1)) (h1 : Txs w a1 k1 c1 l) :
    Calls Tryz.prog 138 #[.slice (some ⟨T, 0, none⟩) 1 1] w (SeqP l k1 w) := by
  obtain ⟨i0, hi, hz0, hz1, hz2⟩ := info_parts infoS
  have HH := Lib.hid (And.intro h1 t0)
  have hw1 : IntKind.i64.wrap (k1 : Int) = k1 := by rw [IntKind.wrap_i64]; omega
  clear h1
  go_enter Tryz.func138, Tryz.ntmps138
  go_wp2
  refine wp_loop_rounds 2 ?_
  rw [rounds_succ]
  go_wp2
  rw [rounds_succ]
  go_wp2_with (go_at_call 147; refine (growS_any k1 hk1 w).mono ?_)
  rintro e w1 ⟨ga, gc, rfl, hO, hb1⟩
  have HO := Lib.hid hO
  have HB1 := Lib.hid hb1
  have s0 := cell_later hb1 HH.out.2
  have hl1 := HH.out.1.hlen
  have HL1 := Lib.hid (And.intro (HH.out.1.more hb1).news (And.intro (show a1 = none → k1 = 0 ∧ c1 = 0 from fun e => ⟨HH.out.1.nones e, HH.out.1.hnone e⟩) (show (tcl l).length = k1 * 1 by rw [tcl_length, hl1]; omega)))
  have HF := Lib.hid (And.intro hl1 HH.out.1.hfits)
  clear hO hb1 t0 hl1
  go_wp2
  refine wp_loop_rounds 2 ?_
  rw [rounds_succ]
  go_wp2_with (at_builtin; go_loud (refine wpList_append_some _ rfl _ _ 31 rfl w.heap.size 9 i0 (.string { data := #[] }) 1 16 Tryz.underlying31 hi hz0 hz1 hz2 rfl (by decide) (.slice ga 0 gc) 0 [] rfl HO.out a1 k1 c1 (tcl l) rfl HL1.out.2.2 HL1.out.2.1 HL1.out.1 (tcl_one _) (by unfold maxLen; omega) (by omega) HB1.out.size ?_))
  rintro v1 wA ⟨hown1, hgrow1⟩
  have bA : Below w.heap.size w wA := HB1.out.grown hgrow1 HB1.out.size (fun k e => (World.ownsRow.lt HO.out k e).1)
  obtain ⟨va, vc, rfl⟩ := row_slice hown1
  have hT : OwnT w.heap.size wA (.slice va k1 vc) l := by unfold OwnT; rw [HF.out.1]; exact hown1
  have HR := Lib.hid (And.intro (hT.txs HF.out.1 HF.out.2) (And.intro hT bA))
  clear hown1 hgrow1 bA s0 hT
  go_wp2
  rw [rounds_succ]
  go_wp2
  go_ret
  exact ⟨va, vc, rfl, ⟨HR.out.1, HR.out.2.1⟩, HR.out.2.2⟩

theorem Lv.keep {A B : World} {x : Ov} (h : Lv A x) (k : ∀ a, x.a = some a → x.o.l ≠ [] → a.block < A.heap.size → B.heap[a.block]? = A.heap[a.block]?) : Lv B x := by
  refine ⟨⟨h.t.hlen, h.t.hle, h.t.hmax, h.t.hnone, h.t.hfits, fun hz => ?_⟩, h.hn, h.hd⟩
  obtain ⟨b, off, e, hc⟩ := h.t.hcells hz
  exact ⟨b, off, e, fun j x hj => (World.cell?_of_block (a := ⟨b, off + j, none⟩) (k ⟨b, off, none⟩ e hz (World.block_lt_of_cell? A ⟨b, off + j, none⟩ (hc j x hj)))).trans (hc j x hj)⟩
theorem Lv.lt {W : World} {x : Ov} (h : Lv W x) : ∀ a, x.a = some a → x.o.l ≠ [] → a.block < W.heap.size := by
  intro a e hz
  obtain ⟨b, off, e', hc⟩ := h.t.hcells hz
  rw [e] at e'
  obtain rfl := Option.some.inj e'
  obtain ⟨y, hy⟩ : ∃ y, x.o.l[0]? = some y := ⟨_, List.getElem?_eq_getElem (List.length_pos_iff.2 hz)⟩
  exact World.block_lt_of_cell? W ⟨b, off + 0, none⟩ (hc 0 y hy)
/-- The items of x lie in no block g. -/
def offB (x : Ov) (v : Value) : Prop := ∀ a, x.a = some a → x.o.l ≠ [] → ∀ g, v.ownBlock = some g → a.block ≠ g
/-- Objects, grown by appends: a row of the call's own. -/
structure OutO (n0 : Nat) (w0 : World) (v : Value) (k : Nat) (vs : List Ov) (w : World) : Prop where
  row : w.ownsRow n0 55 5 v k (ocl vs)
  len : vs.length = k
  below : Below n0 w0 w
  le : n0 ≤ w0.heap.size
  rows : ∀ x ∈ vs, Lv w x ∧ offB x v
theorem OutO.nil (w : World) : OutO w.heap.size w (.slice none 0 0) 0 [] w := ⟨World.ownsRow_nil _ _ _ _, rfl, Below.refl _ _, Nat.le_refl _, fun x h => by cases h⟩
theorem OutO.size {n0 : Nat} {w0 w : World} {v : Value} {k : Nat} {vs : List Ov} (h : OutO n0 w0 v k vs w) : n0 ≤ w.heap.size := Nat.le_trans h.le h.below.size
theorem OutO.own {n0 : Nat} {w0 w : World} {v : Value} {k : Nat} {vs : List Ov} (h : OutO n0 w0 v k vs w) : OwnO n0 w v vs := by unfold OwnO; rw [h.len]; exact h.row
theorem OutO.more {n0 : Nat} {w0 w w' : World} {v : Value} {k : Nat} {vs : List Ov} (h : OutO n0 w0 v k vs w) (hb : Below w.heap.size w w') : OutO n0 w0 v k vs w' := by
  have hr := h.own.more hb
  unfold OwnO at hr
  rw [h.len] at hr
  exact ⟨hr, h.len, h.below.trans (hb.mono h.size), h.le, fun x hx => ⟨(h.rows x hx).1.more hb, (h.rows x hx).2⟩⟩
theorem OutO.snoc {n0 : Nat} {w0 w w' : World} {v : Value} {k H : Nat} {vs : List Ov} {x : Ov} {g cap : Nat} (h : OutO n0 w0 v k vs w) (hx : Lv w x) (ho : offB x v) (hH : w.heap.size = H)
    (hown : w'.ownsRow n0 55 5 (.slice (some ⟨g, 0, none⟩) (k + 1) cap) (k + 1) (ocl vs ++ cells5 x)) (hg : w.grownBy w' v.ownBlock) (hat : v.ownBlock = some g ∨ g = H) : OutO n0 w0 (.slice (some ⟨g, 0, none⟩) (k + 1) cap) (k + 1) (vs ++ [x]) w' := by
  refine ⟨by rw [ocl_append, ocl_one]; exact hown, by rw [List.length_append, h.len]; rfl, h.below.grown hg h.size (fun k e => (World.ownsRow.lt h.row k e).1), h.le, ?_⟩
  have key : ∀ y, Lv w y → offB y v → Lv w' y ∧ offB y (.slice (some ⟨g, 0, none⟩) (k + 1) cap) := by
    intro y hy hoy
    refine ⟨hy.keep fun a ea hz hlt => hg.block a.block hlt (fun e => hoy a ea hz a.block e.symm rfl), fun a ea hz g' hg' => ?_⟩
    have hlt := hy.lt a ea hz
    have e2 : g' = g := by
      have : (Value.slice (some ⟨g, 0, none⟩) (k + 1) cap).ownBlock = some g := rfl
      rw [this] at hg'
      exact (Option.some.inj hg').symm
    subst e2
    rcases hat with q | q
    · exact hoy a ea hz _ q
    · omega
  intro y hy
  rcases List.mem_append.1 hy with hy | hy
  · exact key y (h.rows y hy).1 (h.rows y hy).2
  · obtain rfl : y = x := by simpa using hy
    exact key y hx ho
/-- Objects are told, their row new. -/
def SeqO (os : List Ob) (k : Nat) (w : World) (e : Ending) (w' : World) : Prop :=
  ∃ vs va vc, e = .returned (.slice va k vc) ∧ obs vs = os ∧ Objs w' va k vc vs ∧ Below w.heap.size w w'

end Go.Proofs.YtnbpfbmhheimbaaGreatDoor
