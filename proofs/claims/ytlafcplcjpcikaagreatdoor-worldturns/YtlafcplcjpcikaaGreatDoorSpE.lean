/- Merged texts: SpOwn, SpOwn2, SpWith, SpEdit, SpMake, SpDrop, SpClo, SpCloR, SpCloP, SpCloT, SpDone, SpApi, SpSame, SpFew, SpHead -/
import Derived.Test.YtlafcplcjpcikaaGreatDoorSpD
import Derived.Test.YtlafcplcjpcikaaGreatDoorRgB
import Derived.Laws.AppendOwnNone
import Derived.Lib.AppendZeros
import Derived.Deep.AppendLies
import Derived.Deep.Upon
/- Grow, Concat at texts: a copy of a row; own: objects in new memory. -/
namespace Go.Proofs.YtlafcplcjpcikaaGreatDoor
open Go.RowKit Go.Proofs.Fld Go.Proofs.Rng Go.Proofs.Spc Go.Shelf Go.Sort

/-- append(buf, xs...) where buf is the call's own, and xs came in: nil or not. -/
theorem wpList_append_some {P : Program} (w : World) {ops : Array Oper} {rest : List Oper} {o : Oper} {a : Act} {Q : Exit → Act → World → Prop} (hgd : o.guard = none) (sl x : Operand) (t : TypeId)
    (ho : o.op = .call { callee := .builtin .append, args := #[sl, x], argTypes := #[t, t] })
    (base : Nat) (e : TypeId) (i : TypeInfo) (z : Value) (size bytes : Nat) (ht : P.underlying t = some (.slice e)) (hi : P.info? e = some i) (hz : i.zero = some z)
    (hsize : i.size = size) (hby : i.bytes = bytes) (hzs : z.cells.size = size) (hsz : 0 < size)
    (v : Value) (n : Nat) (xs : List Value) (hs : a.eval sl = v) (hown : w.ownsRow base e size v n xs)
    (ao : Option Addr) (m c : Nat) (news : List Value) (hx : a.eval x = .slice ao m c) (hl : news.length = m * size) (hnone : ao = none → m = 0 ∧ c = 0) (hnews : ∀ ad, ao = some ad → ∀ j u, news[j]? = some u → w.cell? (ad.add j) = some u) (h1 : ∀ u ∈ news, u.oneCell' = true)
    (h63 : n + m ≤ maxLen) (hbytes : (n + m) * bytes ≤ 140737488355328) (hbase : base ≤ w.heap.size)
    (h : ∀ v' w', AppQ base e size v w v' (n + m) (xs ++ news) w' → wpList P ops Q rest (a.put o.dst v') w') : wpList P ops Q (o :: rest) a w := by
  cases ao with
  | none =>
    obtain ⟨rfl, rfl⟩ := hnone rfl
    have hn : news = [] := List.eq_nil_of_length_eq_zero (by rw [hl]; omega)
    subst hn
    exact wpList_append_own_none hgd sl x t ho base e i size ht hi v n xs hs hown hx (h v w ⟨by rw [List.append_nil]; exact hown, World.grownBy.refl w _⟩)
  | some ad => exact wpList_append_own w hgd sl x t ho base e i z size bytes ht hi hz hsize hby hzs hsz v n xs hs hown ad m c news hx hl (hnews ad rfl) h1 h63 hbytes hbase (fun v' w' h2 h3 _ => h v' w' ⟨h2, h3⟩)
/-- An empty row. -/
def GrowS (w : World) (e : Ending) (w' : World) : Prop := ∃ a c, e = .returned (.slice a 0 c) ∧ OwnT w.heap.size w' (.slice a 0 c) [] ∧ Below w.heap.size w w'
set_option maxRecDepth 100000 in
set_option maxHeartbeats 2000000 in
theorem growS_any (n : Nat) (hn : n ≤ 1000000) (w : World) : Calls Tryz.prog 90 #[.slice none 0 0, .int .i64 (n : Int)] w (GrowS w) := by
  obtain ⟨i0, hi, hz0, hz1, hz2⟩ := info_parts infoS
  by_cases h0 : n = 0
  · subst h0
    go_enter Tryz.func90, Tryz.ntmps90
    go_wp2
    go_ret
    exact ⟨_, _, rfl, OwnT.nil _ _, Below.refl _ _⟩
  · have hg := grownCap_ge w n 0 9
    have hm := grownCap_le_maxLen w n 0 9 (by unfold maxLen; omega)
    have hr : ∀ ty, (Builtin.append_ #[47, 3] ty #[.slice none 0 0, .int .i64 (n : Int)]).run Tryz.prog w = _ := fun ty => Lib.run_append_nil_zeros w _ _ ty 9 i0 _ .i64 .i64 Tryz.underlying47 Tryz.underlying3 hi hz0 n (by omega) (by rw [hz1]; decide) (by omega) (by rw [hz2]; omega)
    obtain ⟨G, hG⟩ : ∃ G, grownCap w n 0 9 = G := ⟨_, rfl⟩
    rw [hG] at hr hg hm
    obtain ⟨M, hM⟩ : ∃ M, Builtin.zeroCells (Value.string { data := #[] }).cells n ++ Builtin.zeroCells (Value.string { data := #[] }).cells (G - n) = M := ⟨_, rfl⟩
    have hMs : M.size = G * 1 := by
      rw [← hM, Array.size_append, size_zeroCells, size_zeroCells]
      show n * 1 + (G - n) * 1 = G * 1
      omega
    rw [hM] at hr
    clear hM hG
    have h1 : ¬ ((n : Int) < 0) := by omega
    have h4 : (n : Int) > 0 := by omega
    have hG63 : G ≤ 9223372036854775807 := by unfold maxLen at hm; exact hm
    have HO := Lib.hid (show OwnT w.heap.size (w.drew.alloc (.cells M 9)) (.slice (some ⟨w.heap.size, 0, none⟩) 0 G) [] from ⟨rfl, .inr ⟨w.heap.size, G, M, rfl, Nat.le_refl _, World.alloc_heap_new w.drew _, Nat.zero_le _, hm, hMs, by simp [tcl]⟩⟩)
    have HB := Lib.hid (show Below w.heap.size w (w.drew.alloc (.cells M 9)) from (Below.refl _ w).drew.alloc (Nat.le_refl _) _)
    clear hm hMs
    go_enter Tryz.func90, Tryz.ntmps90
    have HR := Lib.hid hr
    clear hr
    go_wp2_with (at_builtin; refine Lib.wpList_append_run _ rfl _ _ 47 3 rfl _ _ rfl rfl _ _ (HR.out _) ?_)
    go_ret
    exact ⟨_, _, rfl, HO.out, HB.out⟩

set_option maxRecDepth 100000 in
set_option maxHeartbeats 4000000 in
theorem concatS_any (T : Nat) (a1 : Option Addr) (k1 c1 : Nat) (l : List It) (hk1 : k1 ≤ 1000000) (w : World) (t0 : w.cell? ⟨T, 0, none⟩ = some (.slice a1 k1 c1)) (h1 : Txs w a1 k1 c1 l) :
    Calls Tryz.prog 75 #[.slice (some ⟨T, 0, none⟩) 1 1] w (SeqP l k1 w) := by
  obtain ⟨i0, hi, hz0, hz1, hz2⟩ := info_parts infoS
  have HH := Lib.hid (And.intro h1 t0)
  have hw1 : IntKind.i64.wrap (k1 : Int) = k1 := by rw [IntKind.wrap_i64]; omega
  clear h1
  go_enter Tryz.func75, Tryz.ntmps75
  go_wp2
  refine wp_loop_rounds 2 ?_
  rw [rounds_succ]
  go_wp2
  rw [rounds_succ]
  go_wp2_with (go_at_call 90; refine (growS_any k1 hk1 w).mono ?_)
  rintro e w1 ⟨ga, gc, rfl, hO, hb1⟩
  have HO := Lib.hid hO
  have HB1 := Lib.hid hb1
  have s0 := cell_later hb1 HH.out.2
  have hl1 := HH.out.1.hlen
  have HL1 := Lib.hid (And.intro (HH.out.1.more hb1).news (And.intro (show a1 = none → k1 = 0 ∧ c1 = 0 from fun e => ⟨HH.out.1.nones e, HH.out.1.hnone e⟩) (show (tcl l).length = k1 * 1 by rw [tcl_length, hl1]; omega)))
  have HF := Lib.hid (And.intro hl1 HH.out.1.hfits)
  clear hO hb1 t0 hl1
  go_wp2
  refine wp_loop_rounds 2 ?_
  rw [rounds_succ]
  go_wp2_with (at_builtin; go_loud (refine wpList_append_some _ rfl _ _ 47 rfl w.heap.size 9 i0 (.string { data := #[] }) 1 16 Tryz.underlying47 hi hz0 hz1 hz2 rfl (by decide) (.slice ga 0 gc) 0 [] rfl HO.out a1 k1 c1 (tcl l) rfl HL1.out.2.2 HL1.out.2.1 HL1.out.1 (tcl_one _) (by unfold maxLen; omega) (by omega) HB1.out.size ?_))
  rintro v1 wA ⟨hown1, hgrow1⟩
  have bA : Below w.heap.size w wA := HB1.out.grown hgrow1 HB1.out.size (fun k e => (World.ownsRow.lt HO.out k e).1)
  obtain ⟨va, vc, rfl⟩ := row_slice hown1
  have hT : OwnT w.heap.size wA (.slice va k1 vc) l := by unfold OwnT; rw [HF.out.1]; exact hown1
  have HR := Lib.hid (And.intro (hT.txs HF.out.1 HF.out.2) (And.intro hT bA))
  clear hown1 hgrow1 bA s0 hT
  go_wp2
  rw [rounds_succ]
  go_wp2
  go_ret
  exact ⟨va, vc, rfl, ⟨HR.out.1, HR.out.2.1⟩, HR.out.2.2⟩

theorem Lv.keep {A B : World} {x : Ov} (h : Lv A x) (k : ∀ a, x.a = some a → x.o.l ≠ [] → a.block < A.heap.size → B.heap[a.block]? = A.heap[a.block]?) : Lv B x := by
  refine ⟨⟨h.t.hlen, h.t.hle, h.t.hmax, h.t.hnone, h.t.hfits, fun hz => ?_⟩, h.hn, h.hd⟩
  obtain ⟨b, off, e, hc⟩ := h.t.hcells hz
  exact ⟨b, off, e, fun j x hj => (World.cell?_of_block (a := ⟨b, off + j, none⟩) (k ⟨b, off, none⟩ e hz (World.block_lt_of_cell? A ⟨b, off + j, none⟩ (hc j x hj)))).trans (hc j x hj)⟩
theorem Lv.lt {W : World} {x : Ov} (h : Lv W x) : ∀ a, x.a = some a → x.o.l ≠ [] → a.block < W.heap.size := by
  intro a e hz
  obtain ⟨b, off, e', hc⟩ := h.t.hcells hz
  rw [e] at e'
  obtain rfl := Option.some.inj e'
  obtain ⟨y, hy⟩ : ∃ y, x.o.l[0]? = some y := ⟨_, List.getElem?_eq_getElem (List.length_pos_iff.2 hz)⟩
  exact World.block_lt_of_cell? W ⟨b, off + 0, none⟩ (hc 0 y hy)
/-- The items of x lie in no block g. -/
def offB (x : Ov) (v : Value) : Prop := ∀ a, x.a = some a → x.o.l ≠ [] → ∀ g, v.ownBlock = some g → a.block ≠ g
/-- Objects, grown by appends: a row of the call's own. -/
structure OutO (n0 : Nat) (w0 : World) (v : Value) (k : Nat) (vs : List Ov) (w : World) : Prop where
  row : w.ownsRow n0 51 5 v k (ocl vs)
  len : vs.length = k
  below : Below n0 w0 w
  le : n0 ≤ w0.heap.size
  rows : ∀ x ∈ vs, Lv w x ∧ offB x v
theorem OutO.nil (w : World) : OutO w.heap.size w (.slice none 0 0) 0 [] w := ⟨World.ownsRow_nil _ _ _ _, rfl, Below.refl _ _, Nat.le_refl _, fun x h => by cases h⟩
theorem OutO.size {n0 : Nat} {w0 w : World} {v : Value} {k : Nat} {vs : List Ov} (h : OutO n0 w0 v k vs w) : n0 ≤ w.heap.size := Nat.le_trans h.le h.below.size
theorem OutO.own {n0 : Nat} {w0 w : World} {v : Value} {k : Nat} {vs : List Ov} (h : OutO n0 w0 v k vs w) : OwnO n0 w v vs := by unfold OwnO; rw [h.len]; exact h.row
theorem OutO.more {n0 : Nat} {w0 w w' : World} {v : Value} {k : Nat} {vs : List Ov} (h : OutO n0 w0 v k vs w) (hb : Below w.heap.size w w') : OutO n0 w0 v k vs w' := by
  have hr := h.own.more hb
  unfold OwnO at hr
  rw [h.len] at hr
  exact ⟨hr, h.len, h.below.trans (hb.mono h.size), h.le, fun x hx => ⟨(h.rows x hx).1.more hb, (h.rows x hx).2⟩⟩
theorem OutO.snoc {n0 : Nat} {w0 w w' : World} {v : Value} {k H : Nat} {vs : List Ov} {x : Ov} {g cap : Nat} (h : OutO n0 w0 v k vs w) (hx : Lv w x) (ho : offB x v) (hH : w.heap.size = H)
    (hown : w'.ownsRow n0 51 5 (.slice (some ⟨g, 0, none⟩) (k + 1) cap) (k + 1) (ocl vs ++ cells5 x)) (hg : w.grownBy w' v.ownBlock) (hat : v.ownBlock = some g ∨ g = H) : OutO n0 w0 (.slice (some ⟨g, 0, none⟩) (k + 1) cap) (k + 1) (vs ++ [x]) w' := by
  refine ⟨by rw [ocl_append, ocl_one]; exact hown, by rw [List.length_append, h.len]; rfl, h.below.grown hg h.size (fun k e => (World.ownsRow.lt h.row k e).1), h.le, ?_⟩
  have key : ∀ y, Lv w y → offB y v → Lv w' y ∧ offB y (.slice (some ⟨g, 0, none⟩) (k + 1) cap) := by
    intro y hy hoy
    refine ⟨hy.keep fun a ea hz hlt => hg.block a.block hlt (fun e => hoy a ea hz a.block e.symm rfl), fun a ea hz g' hg' => ?_⟩
    have hlt := hy.lt a ea hz
    have e2 : g' = g := by
      have : (Value.slice (some ⟨g, 0, none⟩) (k + 1) cap).ownBlock = some g := rfl
      rw [this] at hg'
      exact (Option.some.inj hg').symm
    subst e2
    rcases hat with q | q
    · exact hoy a ea hz _ q
    · omega
  intro y hy
  rcases List.mem_append.1 hy with hy | hy
  · exact key y (h.rows y hy).1 (h.rows y hy).2
  · obtain rfl : y = x := by simpa using hy
    exact key y hx ho
/-- Objects are told, their row new. -/
def SeqO (os : List Ob) (k : Nat) (w : World) (e : Ending) (w' : World) : Prop :=
  ∃ vs va vc, e = .returned (.slice va k vc) ∧ obs vs = os ∧ Objs w' va k vc vs ∧ Below w.heap.size w w'

end Go.Proofs.YtlafcplcjpcikaaGreatDoor

/- own: objects in new memory, what their rings hold too. -/
namespace Go.Proofs.YtlafcplcjpcikaaGreatDoor
open Go.RowKit Go.Proofs.Fld Go.Proofs.Rng Go.Proofs.Spc Go.Shelf Go.Sort

theorem offB_new {W W' : World} {x : Ov} {v : Value} {n0 : Nat} (h : OwnT n0 W (.slice x.a x.o.l.length x.c) x.o.l) (hv : ∀ g, v.ownBlock = some g → g < n0) (_ : W = W') : offB x v := by
  intro a ea hz g hg
  have := hv g hg
  rcases h.2 with ⟨e, h0⟩ | ⟨g', cap, cur, e, hb, _⟩
  · exact absurd (List.eq_nil_of_length_eq_zero h0) hz
  · injection e with e1
    rw [ea] at e1
    obtain rfl := Option.some.inj e1
    simp only
    omega
theorem obs_take_next {zs : List Ov} {k : Nat} {x : Ov} (h : zs[k]? = some x) : obs (zs.take (k + 1)) = obs (zs.take k) ++ [x.o] := by
  rw [take_next zs k x h, obs_append]
  rfl

end Go.Proofs.YtlafcplcjpcikaaGreatDoor

/- with: others in place of some. -/
namespace Go.Proofs.YtlafcplcjpcikaaGreatDoor
open Go.RowKit Go.Proofs.Fld Go.Proofs.Rng Go.Proofs.Spc Go.Shelf Go.Sort



























































theorem SeqO.of {os : List Ob} {k : Nat} {w w1 : World} {e : Ending} {w' : World} (h : SeqO os k w1 e w') (hb : Below w.heap.size w w1) : SeqO os k w e w' := by
  obtain ⟨vs, va, vc, he, ho, hO, hb1⟩ := h
  exact ⟨vs, va, vc, he, ho, hO, below_more hb hb1⟩

end Go.Proofs.YtlafcplcjpcikaaGreatDoor

/- The editor: refuse, changed, emptyRing, create, place, drop. -/
namespace Go.Proofs.YtlafcplcjpcikaaGreatDoor
open Go.RowKit Go.Proofs.Fld Go.Proofs.Rng Go.Proofs.Spc Go.Shelf Go.Sort

/-- An editor in a box. -/
def Ed (W : World) (B : Nat) (ao : Option Addr) (len cap : Nat) (nm : It) (q : Int) : Prop := W.cell? ⟨B, 0, none⟩ = some (.slice ao len cap) ∧ W.cell? ⟨B, 1, none⟩ = some (.string (bs nm)) ∧ W.cell? ⟨B, 2, none⟩ = some (.int .i64 q)
theorem Ed.more {W W' : World} {B : Nat} {ao : Option Addr} {len cap : Nat} {nm : It} {q : Int} (h : Ed W B ao len cap nm q) (k : Below W.heap.size W W') : Ed W' B ao len cap nm q := ⟨cell_later k h.1, cell_later k h.2.1, cell_later k h.2.2⟩
































end Go.Proofs.YtlafcplcjpcikaaGreatDoor

/- create, place, drop; Make, Drop. -/
namespace Go.Proofs.YtlafcplcjpcikaaGreatDoor
open Go.RowKit Go.Proofs.Fld Go.Proofs.Rng Go.Proofs.Spc Go.Shelf Go.Sort


































end Go.Proofs.YtlafcplcjpcikaaGreatDoor

/- place, drop; Make, Drop. -/
namespace Go.Proofs.YtlafcplcjpcikaaGreatDoor
open Go.RowKit Go.Proofs.Fld Go.Proofs.Rng Go.Proofs.Spc Go.Shelf Go.Sort































end Go.Proofs.YtlafcplcjpcikaaGreatDoor

/- What is done with an object: the five closures. -/
namespace Go.Proofs.YtlafcplcjpcikaaGreatDoor
open Go.RowKit Go.Proofs.Fld Go.Proofs.Rng Go.Proofs.Spc Go.Shelf Go.Sort




/-- An object's cells, stored one by one. -/
theorem obat_set {W : World} {b : Nat} {x y : Ov} (h : ObAt W b 0 y) : ObAt (((((W.setCell ⟨b, 0, none⟩ (.string (bs x.o.n))).setCell ⟨b, 1, none⟩ (.int .i64 x.o.k)).setCell ⟨b, 2, none⟩ (.string (bs x.o.d))).setCell ⟨b, 3, none⟩ (.int .i64 x.o.m)).setCell ⟨b, 4, none⟩ (.slice x.a x.o.l.length x.c)) b 0 x := by
  obtain ⟨h0, h1, h2, h3, h4⟩ := h.var
  refine ⟨?_, ?_, ?_, ?_, ?_⟩
  · exact setO (setO (setO (setO (setS _ h0) (ne_off (by omega))) (ne_off (by omega))) (ne_off (by omega))) (ne_off (by omega))
  · exact setO (setO (setO (setS _ (setO h1 (ne_off (by omega)))) (ne_off (by omega))) (ne_off (by omega))) (ne_off (by omega))
  · exact setO (setO (setS _ (setO (setO h2 (ne_off (by omega))) (ne_off (by omega)))) (ne_off (by omega))) (ne_off (by omega))
  · exact setO (setS _ (setO (setO (setO h3 (ne_off (by omega))) (ne_off (by omega))) (ne_off (by omega)))) (ne_off (by omega))
  · exact setS _ (setO (setO (setO (setO h4 (ne_off (by omega))) (ne_off (by omega))) (ne_off (by omega))) (ne_off (by omega)))




















/-- The closure's world ahead of its last store. -/
structure CW (w W2 : World) (F : Nat) (x' : Ov) : Prop where
  o : ObAt W2 w.heap.size 0 x'
  z : ObAt W2 (w.heap.size + 1) 0 ⟨⟨[], 0, [], 0, []⟩, none, 0⟩
  f : ∀ i, W2.frozen? ⟨w.heap.size + 1, i, none⟩ = false
  k : KA F w W2
  l : Lv W2 x'
  ne : ∀ a, x'.a = some a → x'.o.l ≠ [] → a.block ≠ w.heap.size + 1
def fin5 (W2 : World) (b : Nat) (x' : Ov) : World := ((((W2.setCell ⟨b, 0, none⟩ (.string (bs x'.o.n))).setCell ⟨b, 1, none⟩ (.int .i64 x'.o.k)).setCell ⟨b, 2, none⟩ (.string (bs x'.o.d))).setCell ⟨b, 3, none⟩ (.int .i64 x'.o.m)).setCell ⟨b, 4, none⟩ (.slice x'.a x'.o.l.length x'.c)
theorem fin5_block (W2 : World) (b : Nat) (x' : Ov) {k : Nat} (h : k ≠ b) : (fin5 W2 b x').heap[k]? = W2.heap[k]? := by
  unfold fin5
  rw [Below.heap_setCell _ _ _ _ (fun e => h e), Below.heap_setCell _ _ _ _ (fun e => h e), Below.heap_setCell _ _ _ _ (fun e => h e), Below.heap_setCell _ _ _ _ (fun e => h e), Below.heap_setCell _ _ _ _ (fun e => h e)]
theorem CW.fin {w W2 : World} {F : Nat} {x' : Ov} (h : CW w W2 F x') : ObAt (fin5 W2 (w.heap.size + 1) x') (w.heap.size + 1) 0 x' ∧ KA F w (fin5 W2 (w.heap.size + 1) x') ∧ Lv (fin5 W2 (w.heap.size + 1) x') x' :=
  ⟨obat_set h.z, ((((h.k.set (by omega)).set (by omega)).set (by omega)).set (by omega)).set (by omega), h.l.keep fun a ea hz _ => fin5_block _ _ _ (h.ne a ea hz)⟩
theorem CW.facts {w W2 : World} {F : Nat} {x' : Ov} (h : CW w W2 F x') : (W2.cell? ⟨w.heap.size, 0, none⟩ = some (.string (bs x'.o.n)) ∧ W2.cell? ⟨w.heap.size, 1, none⟩ = some (.int .i64 x'.o.k) ∧ W2.cell? ⟨w.heap.size, 2, none⟩ = some (.string (bs x'.o.d)) ∧ W2.cell? ⟨w.heap.size, 3, none⟩ = some (.int .i64 x'.o.m) ∧ W2.cell? ⟨w.heap.size, 4, none⟩ = some (.slice x'.a x'.o.l.length x'.c)) ∧
    (W2.cell? ⟨w.heap.size + 1, 0, none⟩ = some (.string (bs [])) ∧ W2.cell? ⟨w.heap.size + 1, 1, none⟩ = some (.int .i64 0) ∧ W2.cell? ⟨w.heap.size + 1, 2, none⟩ = some (.string (bs [])) ∧ W2.cell? ⟨w.heap.size + 1, 3, none⟩ = some (.int .i64 0) ∧ W2.cell? ⟨w.heap.size + 1, 4, none⟩ = some (.slice none 0 0)) := ⟨h.o.var, h.z.var⟩

theorem CW.drew {w V : World} {F : Nat} {x' : Ov} (h : CW w V F x') : CW w V.drew F x' := ⟨h.o, h.z, h.f, h.k.trans (KA.of_below (Below.refl _ V).drew), h.l.more (Below.refl _ V).drew, h.ne⟩




end Go.Proofs.YtlafcplcjpcikaaGreatDoor

/- Read with an object. -/
namespace Go.Proofs.YtlafcplcjpcikaaGreatDoor
open Go.RowKit Go.Proofs.Fld Go.Proofs.Rng Go.Proofs.Spc Go.Shelf Go.Sort

end Go.Proofs.YtlafcplcjpcikaaGreatDoor

/- Put with an object. -/
namespace Go.Proofs.YtlafcplcjpcikaaGreatDoor
open Go.RowKit Go.Proofs.Fld Go.Proofs.Rng Go.Proofs.Spc Go.Shelf Go.Sort

end Go.Proofs.YtlafcplcjpcikaaGreatDoor

/- Take with an object. -/
namespace Go.Proofs.YtlafcplcjpcikaaGreatDoor
open Go.RowKit Go.Proofs.Fld Go.Proofs.Rng Go.Proofs.Spc Go.Shelf Go.Sort

end Go.Proofs.YtlafcplcjpcikaaGreatDoor

/- done: what is done with the object of a name. -/
namespace Go.Proofs.Spc
open Go.Proofs.Rng













































end Go.Proofs.Spc
namespace Go.Proofs.YtlafcplcjpcikaaGreatDoor
open Go.RowKit Go.Proofs.Fld Go.Proofs.Rng Go.Proofs.Spc Go.Shelf Go.Sort






theorem KA.heap {X b : Nat} {A B : World} (h : KA X A B) (hb : b < A.heap.size) (hne : b ≠ X) : B.heap[b]? = A.heap[b]? := h.block b hb (fun e => hne (by cases e; rfl))










end Go.Proofs.YtlafcplcjpcikaaGreatDoor

/- change; Write, Read, Cut, Put, Take. -/
namespace Go.Proofs.Spc
open Go.Proofs.Rng


















end Go.Proofs.Spc
namespace Go.Proofs.YtlafcplcjpcikaaGreatDoor
open Go.RowKit Go.Proofs.Fld Go.Proofs.Rng Go.Proofs.Spc Go.Shelf Go.Sort





theorem Objs.keep {A B : World} {ao : Option Addr} {len cap : Nat} {zs : List Ov} (h : Objs A ao len cap zs) (hr : ∀ x ∈ zs, Lv B x) (k : 0 < len → ∀ a, ao = some a → a.block < A.heap.size → B.heap[a.block]? = A.heap[a.block]?) : Objs B ao len cap zs :=
  ⟨h.hlen, h.hle, h.hmax, h.hnone, hr, fun hz => by
    obtain ⟨b, off, e, hc⟩ := h.hcells hz
    exact ⟨b, off, e, fun j x hj => (hc j x hj).of_block (k (by have := List.length_pos_iff.2 hz; have := h.hlen; omega) _ e (hc j x hj).lt)⟩⟩










end Go.Proofs.YtlafcplcjpcikaaGreatDoor

/- Same: are objects the same, field by field? The program's, and the document's. -/
namespace Go.Proofs.Spc
open Go.Proofs.Rng
def sameO (x y : Ob) : Bool := decide (x.n = y.n) && (decide (x.k = y.k) && (decide (x.d = y.d) && sameR x.m x.l y.m y.l))
theorem sameO_iff {x y : Ob} : sameO x y = true ↔ x = y := by
  unfold sameO
  simp only [Bool.and_eq_true, decide_eq_true_eq, sameR_iff]
  constructor
  · rintro ⟨h1, h2, h3, h4, h5⟩
    exact Ob.ext h1 h2 h3 h4 h5
  · rintro rfl
    exact ⟨rfl, rfl, rfl, rfl, rfl⟩
def sameL : List Ob → List Ob → Bool
  | [], [] => true
  | x :: r, y :: s => sameO x y && sameL r s
  | _, _ => false
theorem sameL_iff {l m : List Ob} : sameL l m = true ↔ l = m := by
  induction l generalizing m with
  | nil => cases m <;> simp [sameL]
  | cons x r ih =>
    cases m with
    | nil => simp [sameL]
    | cons y s => simp [sameL, sameO_iff, ih]
theorem sameL_self (l : List Ob) : sameL l l = true := sameL_iff.2 rfl
theorem sameL_len {l m : List Ob} (h : l.length ≠ m.length) : sameL l m = false := by
  cases e : sameL l m
  · rfl
  · rw [sameL_iff] at e; rw [e] at h; exact absurd rfl h
theorem sameL_at {l m : List Ob} {k : Nat} {x y : Ob} (hx : l[k]? = some x) (hy : m[k]? = some y) (h : sameO x y = false) : sameL l m = false := by
  cases e : sameL l m
  · rfl
  · rw [sameL_iff] at e
    subst e
    rw [hx] at hy
    obtain rfl := Option.some.inj hy
    rw [sameO_iff.2 rfl] at h
    cases h
theorem sameL_all {l m : List Ob} (hl : l.length = m.length) (h : ∀ j x y, j < l.length → l[j]? = some x → m[j]? = some y → sameO x y = true) : sameL l m = true := by
  rw [sameL_iff]
  refine List.ext_getElem hl fun j h1 h2 => ?_
  exact sameO_iff.1 (h j _ _ h1 (List.getElem?_eq_getElem h1) (List.getElem?_eq_getElem h2))
end Go.Proofs.Spc
namespace Go.Proofs.YtlafcplcjpcikaaGreatDoor
open Go.RowKit Go.Proofs.Fld Go.Proofs.Rng Go.Proofs.Spc Go.Shelf Go.Sort

/-- Same between two rounds. -/
def EqO (l m : List Ov) (k : Nat) : Prop := ∀ j x y, j < k → l[j]? = some x → m[j]? = some y → sameO x.o y.o = true
theorem EqO.next {l m : List Ov} {k : Nat} {x y : Ov} (h : EqO l m k) (hx : l[k]? = some x) (hy : m[k]? = some y) (hs : sameO x.o y.o = true) : EqO l m (k + 1) := fun j x' y' hj h1 h2 => by
  by_cases e : j = k
  · subst e
    rw [hx] at h1
    rw [hy] at h2
    obtain rfl := Option.some.inj h1
    obtain rfl := Option.some.inj h2
    exact hs
  · exact h j x' y' (by omega) h1 h2
theorem EqO.all {l m : List Ov} {k : Nat} (h : EqO l m k) (h1 : l.length = k) (h2 : m.length = k) : sameL (obs l) (obs m) = true := by
  refine sameL_all (by rw [obs_length, obs_length, h1, h2]) fun j x y hj hx hy => ?_
  obtain ⟨x', hx', rfl⟩ := obs_at hx
  obtain ⟨y', hy', rfl⟩ := obs_at hy
  exact h j x' y' (by rw [obs_length] at hj; omega) hx' hy'

set_option maxRecDepth 100000 in
set_option maxHeartbeats 4000000 in
theorem one_same (x y : Ov) (hx : Bd x.o) (hy : Bd y.o) {b : Bool} (hb : sameO x.o y.o = b) (w : World) (h1 : Lv w x) (h2 : Lv w y) :
    Calls Tryz.prog 63 #[.agg #[.string (bs x.o.n), .int .i64 x.o.k, .string (bs x.o.d), .int .i64 x.o.m, .slice x.a x.o.l.length x.c], .agg #[.string (bs y.o.n), .int .i64 y.o.k, .string (bs y.o.d), .int .i64 y.o.m, .slice y.a y.o.l.length y.c]] w (BoolP b w) := by
  have hB1 := Below.new w (.cells #[.string (bs x.o.n), .int .i64 x.o.k, .string (bs x.o.d), .int .i64 x.o.m, .slice x.a x.o.l.length x.c] 51)
  have hN := Below.new (w.alloc (.cells #[.string (bs x.o.n), .int .i64 x.o.k, .string (bs x.o.d), .int .i64 x.o.m, .slice x.a x.o.l.length x.c] 51)) (.cells #[.string (bs y.o.n), .int .i64 y.o.k, .string (bs y.o.d), .int .i64 y.o.m, .slice y.a y.o.l.length y.c] 51)
  have hB2 := below_more hB1 hN
  obtain ⟨p0, p1, p2, p3, p4⟩ := ((ObAt.new w x 51).more hN).var
  have r2 := ObAt.new (w.alloc (.cells #[.string (bs x.o.n), .int .i64 x.o.k, .string (bs x.o.d), .int .i64 x.o.m, .slice x.a x.o.l.length x.c] 51)) y 51
  rw [World.size_alloc] at r2
  obtain ⟨q0, q1, q2, q3, q4⟩ := r2.var
  obtain ⟨W0, hW0⟩ : ∃ W0, (w.alloc (.cells #[.string (bs x.o.n), .int .i64 x.o.k, .string (bs x.o.d), .int .i64 x.o.m, .slice x.a x.o.l.length x.c] 51)).alloc (.cells #[.string (bs y.o.n), .int .i64 y.o.k, .string (bs y.o.d), .int .i64 y.o.m, .slice y.a y.o.l.length y.c] 51) = W0 := ⟨_, rfl⟩
  rw [hW0] at hB2 p0 p1 p2 p3 p4 q0 q1 q2 q3 q4
  have hn : ((bs x.o.n).toList == (bs y.o.n).toList) = decide (x.o.n = y.o.n) := str_same _ _
  have hd : ((bs x.o.d).toList == (bs y.o.d).toList) = decide (x.o.d = y.o.d) := str_same _ _
  have HE := Lib.hid (Same_p (m1 := x.o.m) (m2 := y.o.m) hx.len hy.len rfl (h1.t.more hB2) (h2.t.more hB2))
  have HB := Lib.hid (And.intro hB2 hb)
  clear hB1 hB2 hN h1 h2 hb r2 hx hy
  have fin : ∀ {c : Bool}, sameO x.o y.o = c → b = c := fun h => by rw [← HB.out.2]; exact h
  by_cases e1 : x.o.n = y.o.n
  · rw [decide_eq_true e1] at hn
    by_cases e2 : x.o.k = y.o.k
    · have hk : (x.o.k == y.o.k) = true := by simp [e2]
      by_cases e3 : x.o.d = y.o.d
      · rw [decide_eq_true e3] at hd
        have HV := Lib.hid (fin (show sameO x.o y.o = sameR x.o.m x.o.l y.o.m y.o.l by unfold sameO; rw [decide_eq_true e1, decide_eq_true e2, decide_eq_true e3]; rfl))
        clear fin e1 e2 e3
        go_enter Tryz.func63, Tryz.ntmps63
        go_wp2_with (go_at_call 64; refine HE.out.mono ?_)
        rintro e w1 ⟨rfl, hb1⟩
        have HB1 := Lib.hid (below_more HB.out.1 hb1)
        clear hb1
        go_wp2
        go_ret
        exact ⟨by rw [HV.out]; rfl, HB1.out⟩
      · rw [decide_eq_false e3] at hd
        have HV := Lib.hid (fin (show sameO x.o y.o = false by unfold sameO; rw [decide_eq_false e3]; simp))
        clear fin e1 e2 e3
        go_enter Tryz.func63, Tryz.ntmps63
        go_wp2
        go_ret
        exact ⟨by rw [HV.out]; rfl, HB.out.1⟩
    · have hk : (x.o.k == y.o.k) = false := by simp [e2]
      have HV := Lib.hid (fin (show sameO x.o y.o = false by unfold sameO; rw [decide_eq_false e2]; simp))
      clear fin e1 e2
      go_enter Tryz.func63, Tryz.ntmps63
      go_wp2
      go_ret
      exact ⟨by rw [HV.out]; rfl, HB.out.1⟩
  · rw [decide_eq_false e1] at hn
    have HV := Lib.hid (fin (show sameO x.o y.o = false by unfold sameO; rw [decide_eq_false e1]; rfl))
    clear fin e1
    go_enter Tryz.func63, Tryz.ntmps63
    go_wp2
    go_ret
    exact ⟨by rw [HV.out]; rfl, HB.out.1⟩

set_option maxRecDepth 100000 in
set_option maxHeartbeats 4000000 in
theorem equalO_any (a1 a2 : Option Addr) (len1 len2 c1 c2 : Nat) (l m : List Ov) (hr1 : len1 ≤ 1000000) (hr2 : len2 ≤ 1000000) (hbl : ∀ x ∈ l, Bd x.o) (hbm : ∀ x ∈ m, Bd x.o) (w : World) (h1 : Objs w a1 len1 c1 l) (h2 : Objs w a2 len2 c2 m) :
    Calls Tryz.prog 62 #[.slice a1 len1 c1, .slice a2 len2 c2, .func (.func 63) #[] #[]] w (BoolP (sameL (obs l) (obs m)) w) := by
  have e1 := h1.hlen
  have e2 := h2.hlen
  by_cases hne : len1 = len2
  · subst hne
    have HH := Lib.hid (And.intro h1 (And.intro h2 (And.intro e1 e2)))
    have HD := Lib.hid (And.intro hbl hbm)
    clear h1 h2 e1 e2 hbl hbm
    go_enter Tryz.func62, Tryz.ntmps62
    go_wp2
    go_loopw [17] (fun v wr => ∃ k : Nat, k ≤ len1 ∧ v = .int .i64 k ∧ Hid (EqO l m k) ∧ Below w.heap.size w wr) (fun v _ => len1 - (intOf v).toNat)
    case atStart => exact ⟨0, Nat.zero_le _, rfl, (fun j x y hj => absurd hj (by omega)), Below.refl _ _⟩
    case round =>
      obtain ⟨k, hk, rfl, HI, hB⟩ := hrel
      by_cases hlt : k < len1
      · obtain ⟨x, hx⟩ : ∃ x, l[k]? = some x := ⟨_, List.getElem?_eq_getElem (by rw [HH.out.2.2.1]; exact hlt)⟩
        obtain ⟨y, hy⟩ : ∃ y, m[k]? = some y := ⟨_, List.getElem?_eq_getElem (by rw [HH.out.2.2.2]; exact hlt)⟩
        obtain ⟨b1, o1, rfl, hb1, hc1⟩ := HH.out.1.at (by omega)
        obtain ⟨b2, o2, rfl, hb2, hc2⟩ := HH.out.2.1.at (by omega)
        have hd1 : decide ((k : Int) < (len1 : Int)) = true := decide_eq_true (by omega)
        obtain ⟨q0, q1, q2, q3, q4⟩ := (hc1 k x hx).of_block (hB.block b1 hb1)
        have hN1 := Below.new wr (.cells #[.string (bs x.o.n), .int .i64 x.o.k, .string (bs x.o.d), .int .i64 x.o.m, .slice x.a x.o.l.length x.c] 51)
        obtain ⟨p0, p1, p2, p3, p4⟩ := ((hc2 k y hy).of_block (hB.block b2 hb2)).more hN1
        have hN2 := Below.new (wr.alloc (.cells #[.string (bs x.o.n), .int .i64 x.o.k, .string (bs x.o.d), .int .i64 x.o.m, .slice x.a x.o.l.length x.c] 51)) (.cells #[.string (bs y.o.n), .int .i64 y.o.k, .string (bs y.o.d), .int .i64 y.o.m, .slice y.a y.o.l.length y.c] 51)
        have hO1 := (ObAt.new wr x 51).more hN2
        have hO2 := ObAt.new (wr.alloc (.cells #[.string (bs x.o.n), .int .i64 x.o.k, .string (bs x.o.d), .int .i64 x.o.m, .slice x.a x.o.l.length x.c] 51)) y 51
        have hNN := below_more hN1 hN2
        have hBB := hB.trans (hNN.mono hB.size)
        rw [World.size_alloc] at hO2
        have HC := Lib.hid (one_same x y (HD.out.1 x (List.mem_of_getElem? hx)) (HD.out.2 y (List.mem_of_getElem? hy)) rfl ((wr.alloc (.cells #[.string (bs x.o.n), .int .i64 x.o.k, .string (bs x.o.d), .int .i64 x.o.m, .slice x.a x.o.l.length x.c] 51)).alloc (.cells #[.string (bs y.o.n), .int .i64 y.o.k, .string (bs y.o.d), .int .i64 y.o.m, .slice y.a y.o.l.length y.c] 51)) (((HH.out.1.row hx).more (hB.mono (Nat.le_refl _))).more hNN) (((HH.out.2.1.row hy).more (hB.mono (Nat.le_refl _))).more hNN))
        have HB2 := Lib.hid hBB
        have HX := Lib.hid (And.intro hx hy)
        obtain ⟨u0, u1, u2, u3, u4⟩ := hO1.var
        obtain ⟨v0, v1, v2, v3, v4⟩ := hO2.var
        clear hx hy hc1 hc2 hN1 hN2 hNN hO1 hO2 hBB
        go_wp2_with (go_at_call 63; refine HC.out.mono ?_)
        rintro e w1 ⟨rfl, hb3⟩
        have HB3 := Lib.hid (HB2.out.trans (hb3.mono HB2.out.size))
        clear hb3
        cases hs : sameO x.o y.o with
        | true =>
          have HN := Lib.hid (HI.out.next HX.out.1 HX.out.2 hs)
          clear hs
          go_wp2
          go_roundw
          case rel => exact ⟨k + 1, by omega, by simp, HN.out, HB3.out⟩
          case measure => simp [intOf]; omega
        | false =>
          have HN := Lib.hid (sameL_at (obs_get HX.out.1) (obs_get HX.out.2) hs)
          clear hs
          go_wp2
          go_ret
          exact ⟨by rw [HN.out]; rfl, HB3.out⟩
      · obtain rfl : k = len1 := by omega
        have hd1 : decide ((k : Int) < (k : Int)) = false := decide_eq_false (by omega)
        have HN := Lib.hid (HI.out.all HH.out.2.2.1 HH.out.2.2.2)
        go_wp2
        go_ret
        exact ⟨by rw [HN.out]; rfl, hB⟩
  · have HN := Lib.hid (sameL_len (l := obs l) (m := obs m) (by rw [obs_length, obs_length]; omega))
    have hd : (((len1 : Nat) : Int) != ((len2 : Nat) : Int)) = true := by simp; omega
    clear h1 h2 e1 e2 hbl hbm
    go_enter Tryz.func62, Tryz.ntmps62
    go_wp2
    go_ret
    exact ⟨by rw [HN.out]; rfl, Below.refl _ _⟩

set_option maxHeartbeats 2000000 in
theorem Same_s {a1 a2 : Option Addr} {len1 len2 c1 c2 : Nat} {l m : List Ov} {b : Bool} (hr1 : len1 ≤ 1000000) (hr2 : len2 ≤ 1000000) (hb : sameL (obs l) (obs m) = b) {w : World} (hbl : ∀ x ∈ l, Bd x.o) (hbm : ∀ x ∈ m, Bd x.o) (h1 : Objs w a1 len1 c1 l) (h2 : Objs w a2 len2 c2 m) :
    Calls Tryz.prog 43 #[.slice a1 len1 c1, .slice a2 len2 c2] w (BoolP b w) := by
  have HE := Lib.hid (equalO_any a1 a2 len1 len2 c1 c2 l m hr1 hr2 hbl hbm w h1 h2)
  rw [hb] at HE
  clear h1 h2 hb hbl hbm
  go_enter Tryz.func43, Tryz.ntmps43
  go_wp2_with (go_at_call 62; refine HE.out.mono ?_)
  rintro e w1 ⟨rfl, hb1⟩
  have HB1 := Lib.hid hb1
  clear hb1
  go_wp2
  go_ret
  exact ⟨rfl, HB1.out⟩

end Go.Proofs.YtlafcplcjpcikaaGreatDoor

/- cut, long, Few: the first objects, cut. -/
namespace Go.Proofs.Spc
open Go.Proofs.Rng
def fewO (o : Ob) : Ob := ⟨o.n.take 50, o.k, o.d.take 1010, o.m, fewI o.l⟩
def fewS (l : List Ob) (k : Nat) : List Ob := (l.take k).map fewO
def fewL (l : List Ob) : List Ob := fewS l 22
theorem fewL_length (l : List Ob) : (fewL l).length ≤ 22 := by
  unfold fewL fewS
  rw [List.length_map, List.length_take]
  omega
theorem fewS_next {l : List Ob} {k : Nat} {x : Ob} (h : l[k]? = some x) : fewS l (k + 1) = fewS l k ++ [fewO x] := by
  unfold fewS
  rw [List.take_add_one, h, List.map_append]
  rfl
end Go.Proofs.Spc
namespace Go.Proofs.YtlafcplcjpcikaaGreatDoor
open Go.RowKit Go.Proofs.Fld Go.Proofs.Rng Go.Proofs.Spc Go.Shelf Go.Sort

theorem few_bd (o : Ob) : Bd (fewO o) := by
  refine ⟨?_, ?_, ?_⟩
  · have := fewI_takes o.l
    show takes (fewI o.l) ≤ 100000
    omega
  · show (o.n.take 50).length ≤ 100000
    rw [List.length_take]; omega
  · show (o.d.take 1010).length ≤ 100000
    rw [List.length_take]; omega
theorem fewL_bd {l : List Ob} {o : Ob} (h : o ∈ fewL l) : Bd o := by
  unfold fewL fewS at h
  obtain ⟨y, _, rfl⟩ := List.mem_map.1 h
  exact few_bd y

set_option maxHeartbeats 1000000 in
theorem cutN_any (x : It) (hx : x.length ≤ 9223372036854775807) (w : World) : Calls Tryz.prog 44 #[.string (bs x)] w (CutP (x.take 50) w) := by
  have hz := bs_size x
  by_cases h : x.length ≤ 50
  · have hs := str_upto x x.length (Nat.le_refl _)
    rw [List.take_of_length_le (Nat.le_refl _)] at hs
    rw [List.take_of_length_le h]
    have h1 : min (x.length : Int) 50 = x.length := by omega
    have h2 : ¬ ((50 : Int) < (x.length : Int)) := by omega
    go_enter Tryz.func44, Tryz.ntmps44
    go_wp2
    go_ret
    exact ⟨rfl, rfl⟩
  · have hs := str_upto x 50 (by omega)
    have h1 : min (x.length : Int) 50 = 50 := by omega
    have h2 : ((50 : Int) < (x.length : Int)) := by omega
    rw [show ((50 : Nat) : Int) = 50 from rfl] at hs
    go_enter Tryz.func44, Tryz.ntmps44
    go_wp2
    go_ret
    exact ⟨rfl, rfl⟩
set_option maxHeartbeats 1000000 in
theorem long_any (x : It) (hx : x.length ≤ 9223372036854775807) (w : World) : Calls Tryz.prog 45 #[.string (bs x)] w (CutP (x.take 1010) w) := by
  have hz := bs_size x
  by_cases h : x.length ≤ 1010
  · have hs := str_upto x x.length (Nat.le_refl _)
    rw [List.take_of_length_le (Nat.le_refl _)] at hs
    rw [List.take_of_length_le h]
    have h1 : min (x.length : Int) 1010 = x.length := by omega
    have h2 : ¬ ((1010 : Int) < (x.length : Int)) := by omega
    go_enter Tryz.func45, Tryz.ntmps45
    go_wp2
    go_ret
    exact ⟨rfl, rfl⟩
  · have hs := str_upto x 1010 (by omega)
    have h1 : min (x.length : Int) 1010 = 1010 := by omega
    have h2 : ((1010 : Int) < (x.length : Int)) := by omega
    rw [show ((1010 : Nat) : Int) = 1010 from rfl] at hs
    go_enter Tryz.func45, Tryz.ntmps45
    go_wp2
    go_ret
    exact ⟨rfl, rfl⟩




/-- The items of x lie in blocks from n0 on. -/
def newB (n0 : Nat) (x : Ov) : Prop := ∀ a, x.a = some a → x.o.l ≠ [] → n0 ≤ a.block
theorem newB_of {W : World} {x : Ov} {n0 n1 : Nat} (h : OwnT n0 W (.slice x.a x.o.l.length x.c) x.o.l) (hn : n1 ≤ n0) : newB n1 x := by
  intro a ea hz
  rcases h.2 with ⟨e, h0⟩ | ⟨g', cap, cur, e, hb, _⟩
  · exact absurd (List.eq_nil_of_length_eq_zero h0) hz
  · injection e with e1
    rw [ea] at e1
    obtain rfl := Option.some.inj e1
    exact Nat.le_trans hn hb
/-- .. and it is told that they are. -/
def SeqG (l : List Ob) (k : Nat) (w : World) (e : Ending) (w' : World) : Prop :=
  ∃ vs va vc, e = .returned (.slice va k vc) ∧ obs vs = l ∧ Objs w' va k vc vs ∧ OwnO w.heap.size w' (.slice va k vc) vs ∧ (∀ x ∈ vs, newB w.heap.size x) ∧ Below w.heap.size w w'
set_option maxRecDepth 100000 in
set_option maxHeartbeats 4000000 in
theorem FewO_g {ao : Option Addr} {len cap k0 : Nat} {zs : List Ov} {l' : List Ob} (hl' : fewL (obs zs) = l') (hk0 : l'.length = k0) {w : World} (hL : Objs w ao len cap zs) :
    Calls Tryz.prog 23 #[.slice ao len cap] w (SeqG l' k0 w) := by
  obtain ⟨i0, hi, hz0, hz1, hz2⟩ := info_parts infoO
  have hll := hL.hlen
  have hcm : cap ≤ 9223372036854775807 := by have := hL.hmax; unfold maxLen at this; exact this
  have hlc := hL.hle
  have HL := Lib.hid (And.intro hL (And.intro hl' hk0))
  clear hL hl' hk0
  go_enter Tryz.func23, Tryz.ntmps23
  go_wp2
  go_loopw [3, 4] (fun o v wr => ∃ (k : Nat) (va : Option Addr) (vc : Nat) (vs : List Ov), k ≤ len ∧ k ≤ 22 ∧ o = .slice va k vc ∧ v = .int .i64 k ∧ Hid (OutO w.heap.size w (.slice va k vc) k vs wr) ∧ Hid (obs vs = fewS (obs zs) k) ∧ Hid (∀ x ∈ vs, newB w.heap.size x)) (fun _ v _ => 22 - (intOf v).toNat)
  case atStart => exact ⟨0, none, 0, [], Nat.zero_le _, Nat.zero_le _, rfl, rfl, OutO.nil w, rfl, fun x hx => by cases hx⟩
  case round =>
    obtain ⟨k, va, vc, vs, hk, hk22, rfl, rfl, HO, HQ, HW⟩ := hrel
    by_cases hlt : k < len
    · by_cases hlt2 : k < 22
      · obtain ⟨x, hx⟩ : ∃ x, zs[k]? = some x := ⟨_, List.getElem?_eq_getElem (by rw [hll]; exact hlt)⟩
        obtain ⟨b, off, rfl, hb, hcs⟩ := HL.out.1.at (by omega)
        obtain ⟨q0, q1, q2, q3, q4⟩ := (hcs k x hx).of_block (HO.out.below.block b hb)
        have hd1 : decide ((k : Int) < (len : Int)) = true := decide_eq_true (by omega)
        have hd2 : decide ((k : Int) < 22) = true := decide_eq_true (by omega)
        have hN1 := Below.new wr (.cells #[.string (bs x.o.n), .int .i64 x.o.k, .string (bs x.o.d), .int .i64 x.o.m, .slice x.a x.o.l.length x.c] 51)
        have hD1 : Below wr.heap.size wr (wr.alloc (.cells #[.string (bs x.o.n), .int .i64 x.o.k, .string (bs x.o.d), .int .i64 x.o.m, .slice x.a x.o.l.length x.c] 51)).drew := hN1.drew
        have hLv := (HL.out.1.row hx).more (HO.out.below.mono HO.out.le)
        obtain ⟨y1, hy1⟩ : ∃ y, x.o.n.take 50 = y := ⟨_, rfl⟩
        obtain ⟨y2, hy2⟩ : ∃ y, x.o.d.take 1010 = y := ⟨_, rfl⟩
        obtain ⟨y4, hy4⟩ : ∃ y, fewI x.o.l = y := ⟨_, rfl⟩
        have HQ2 := Lib.hid (show fewS (obs zs) (k + 1) = fewS (obs zs) k ++ [⟨y1, x.o.k, y2, x.o.m, y4⟩] by rw [fewS_next (obs_get hx)]; unfold fewO; rw [hy1, hy2, hy4])
        have HC1 := Lib.hid (fun W => cutN_any x.o.n hLv.hn W)
        have HC2 := Lib.hid (fun W => long_any x.o.d hLv.hd W)
        have HC3 := Lib.hid (fun W (hb : Below wr.heap.size wr W) => Few_p (m := x.o.m) hy4 rfl (w := W) (hLv.more hb).t)
        rw [hy1] at HC1
        rw [hy2] at HC2
        have HY := Lib.hid (And.intro (show y1.length ≤ 9223372036854775807 by rw [← hy1, List.length_take]; omega) (show y2.length ≤ 9223372036854775807 by rw [← hy2, List.length_take]; omega))
        obtain ⟨u0, u1, u2, u3, u4⟩ := (ObAt.new wr x 51).var
        have HB := Lib.hid (And.intro hN1 hD1)
        have HR := Lib.hid (show ∀ g, (Value.slice va k vc).ownBlock = some g → g < wr.heap.size from fun g e => (World.ownsRow.lt HO.out.row g e).2)
        have hD : Below (wr.alloc (.cells #[.string (bs x.o.n), .int .i64 x.o.k, .string (bs x.o.d), .int .i64 x.o.m, .slice x.a x.o.l.length x.c] 51)).heap.size (wr.alloc (.cells #[.string (bs x.o.n), .int .i64 x.o.k, .string (bs x.o.d), .int .i64 x.o.m, .slice x.a x.o.l.length x.c] 51)) (wr.alloc (.cells #[.string (bs x.o.n), .int .i64 x.o.k, .string (bs x.o.d), .int .i64 x.o.m, .slice x.a x.o.l.length x.c] 51)).drew := (Below.refl _ _).drew
        have d0 := cell_later hD u0
        have d1 := cell_later hD u1
        have d2 := cell_later hD u2
        have d3 := cell_later hD u3
        have d4 := cell_later hD u4
        clear hN1 hD1 hLv hy1 hy2 hy4 hx hcs hD
        go_wp2
        go_region_held3 (fun w' => w'.cell? ⟨wr.heap.size, 0, none⟩ = some (.string (bs x.o.n)) ∧ w'.cell? ⟨wr.heap.size, 1, none⟩ = some (.int .i64 x.o.k) ∧ w'.cell? ⟨wr.heap.size, 2, none⟩ = some (.string (bs x.o.d)) ∧ w'.cell? ⟨wr.heap.size, 3, none⟩ = some (.int .i64 x.o.m) ∧ w'.cell? ⟨wr.heap.size, 4, none⟩ = some (.slice x.a x.o.l.length x.c))
          (first | (with_reducible exact ⟨d0, d1, d2, d3, d4⟩) | (with_reducible exact ⟨e0, e1, e2, e3, e4⟩) | (with_reducible exact ⟨f0, f1, f2, f3, f4⟩) | (with_reducible exact ⟨g0, g1, g2, g3, g4⟩))
          (first
            | (go_at_call 44; ((with_reducible refine (HC1.out _).mono ?_); rintro e w' ⟨rfl, rfl⟩))
            | (go_at_call 45; ((with_reducible refine (HC2.out _).mono ?_); rintro e w' ⟨rfl, rfl⟩))
            | (go_at_call 46; ((with_reducible refine (HC3.out _ HB.out.2).mono ?_); rintro e w3 ⟨va4, vc4, rfl, ⟨hT, hO⟩, hb3⟩; have e0 := cell_later hb3 d0; have e1 := cell_later hb3 d1; have e2 := cell_later hb3 d2; have e3 := cell_later hb3 d3; have e4 := cell_later hb3 d4; have hN3 := Below.new w3 (.cells #[.string (bs y1), .int .i64 x.o.k, .string (bs y2), .int .i64 x.o.m, .slice va4 y4.length vc4] 51); have f0 := cell_later hN3 e0; have f1 := cell_later hN3 e1; have f2 := cell_later hN3 e2; have f3 := cell_later hN3 e3; have f4 := cell_later hN3 e4; have hO3 := HO.out.more ((HB.out.2.trans (hb3.mono HB.out.2.size)).trans (hN3.mono (Nat.le_trans HB.out.2.size hb3.size)))))
            | (refine step_append_lies _ rfl _ _ 30 rfl w.heap.size 51 i0 (.agg #[.string { data := #[] }, .int .i64 0, .string { data := #[] }, .int .i64 0, .slice none 0 0]) 5 72 Tryz.underlying30 hi hz0 hz1 hz2 rfl (by decide) (.slice va k vc) k (ocl vs) (by simp [Act.eval]) hO3.row ⟨w3.heap.size, 0, none⟩ 1 1 (cells5 ⟨⟨y1, x.o.k, y2, x.o.m, y4⟩, va4, vc4⟩) (by simp [Act.eval]) rfl (ob_new w3 ⟨⟨y1, x.o.k, y2, x.o.m, y4⟩, va4, vc4⟩ 51) (by simp [cells5, Value.oneCell']) (by decide) (by unfold maxLen; omega) (by omega) hO3.size (w3.heap.size + 1) (by simp) ?_; intro g cap6 w6 hown hgrow hat hlt6; have hlt3 := World.block_lt_of_cell? _ _ f0; have hne3 : some wr.heap.size ≠ (Value.slice va k vc).ownBlock := (fun e => absurd (HR.out wr.heap.size e.symm) (Nat.lt_irrefl _)); have g0 := (World.cell?_of_block (a := ⟨wr.heap.size, 0, none⟩) (hgrow.block wr.heap.size hlt3 hne3)).trans f0; have g1 := (World.cell?_of_block (a := ⟨wr.heap.size, 1, none⟩) (hgrow.block wr.heap.size hlt3 hne3)).trans f1; have g2 := (World.cell?_of_block (a := ⟨wr.heap.size, 2, none⟩) (hgrow.block wr.heap.size hlt3 hne3)).trans f2; have g3 := (World.cell?_of_block (a := ⟨wr.heap.size, 3, none⟩) (hgrow.block wr.heap.size hlt3 hne3)).trans f3; have g4 := (World.cell?_of_block (a := ⟨wr.heap.size, 4, none⟩) (hgrow.block wr.heap.size hlt3 hne3)).trans f4))
        all_goals
          have HF := Lib.hid (hO3.snoc (x := (⟨⟨y1, x.o.k, y2, x.o.m, y4⟩, va4, vc4⟩ : Ov)) ⟨hT.more hN3, HY.out.1, HY.out.2⟩ (offB_new (W' := w3) hO (fun g hg => Nat.lt_of_lt_of_le (HR.out g hg) HB.out.2.size) rfl) (by simp) hown hgrow hat)
          have HW2 := Lib.hid (show ∀ z ∈ vs ++ [(⟨⟨y1, x.o.k, y2, x.o.m, y4⟩, va4, vc4⟩ : Ov)], newB w.heap.size z from fun z hz => by
            rcases List.mem_append.1 hz with q | q
            · exact HW.out z q
            · obtain rfl : z = (⟨⟨y1, x.o.k, y2, x.o.m, y4⟩, va4, vc4⟩ : Ov) := by simpa using q
              exact newB_of (x := (⟨⟨y1, x.o.k, y2, x.o.m, y4⟩, va4, vc4⟩ : Ov)) hO (Nat.le_trans HO.out.size HB.out.2.size))
          clear hT hO hb3 hN3 hO3 hown hgrow hat hlt3 hne3
          go_wp2
          go_roundw
          case rel => exact ⟨k + 1, some ⟨g, 0, none⟩, cap6, vs ++ [(⟨⟨y1, x.o.k, y2, x.o.m, y4⟩, va4, vc4⟩ : Ov)], by omega, by omega, rfl, by simp, HF.out, by rw [obs_append, HQ.out, HQ2.out]; rfl, HW2.out⟩
          case measure => simp [intOf]; omega
      · obtain rfl : k = 22 := by omega
        have hd1 : decide (((22 : Nat) : Int) < (len : Int)) = true := decide_eq_true (by omega)
        have hq : obs vs = l' := HQ.out.trans HL.out.2.1
        obtain rfl : 22 = k0 := by rw [← HL.out.2.2, ← hq, obs_length, HO.out.len]
        have HF := Lib.hid (And.intro (HO.out.own.objs HO.out.len (fun x hx => (HO.out.rows x hx).1)) (And.intro hq (And.intro HO.out.below HO.out.own)))
        clear hq
        go_wp2
        go_ret
        exact ⟨vs, va, vc, rfl, HF.out.2.1, HF.out.1, HF.out.2.2.2, HW.out, HF.out.2.2.1⟩
    · obtain rfl : k = len := by omega
      have hd1 : decide ((k : Int) < (k : Int)) = false := decide_eq_false (by omega)
      have hq : obs vs = l' := by rw [HQ.out, ← HL.out.2.1]; unfold fewL fewS; rw [List.take_of_length_le (by rw [obs_length]; omega), List.take_of_length_le (by rw [obs_length]; omega)]
      have hkk : k = k0 := by rw [← HL.out.2.2, ← hq, obs_length, HO.out.len]
      have HF := Lib.hid (And.intro (HO.out.own.objs HO.out.len (fun x hx => (HO.out.rows x hx).1)) (And.intro hq (And.intro HO.out.below (And.intro hkk HO.out.own))))
      clear hq hkk
      go_wp2
      go_ret
      obtain rfl := HF.out.2.2.2.1
      exact ⟨vs, va, vc, rfl, HF.out.2.1, HF.out.1, HF.out.2.2.2.2, HW.out, HF.out.2.2.1⟩







end Go.Proofs.YtlafcplcjpcikaaGreatDoor

/- What a law's walk carries; what is known: shown. -/
namespace Go.Proofs.Spc
open Go.Proofs.Rng






















end Go.Proofs.Spc
namespace Go.Proofs.YtlafcplcjpcikaaGreatDoor
open Go.RowKit Go.Proofs.Fld Go.Proofs.Rng Go.Proofs.Spc Go.Shelf Go.Sort

/-- Few objects, of some bound. -/
structure Small (l : List Ob) : Prop where
  n : l.length ≤ 22
  b : ∀ o ∈ l, Bd o
theorem small_nil : Small [] := ⟨by simp, fun o h => by cases h⟩
theorem small_few (l : List Ob) : Small (fewL l) := ⟨fewL_length l, fun _o h => fewL_bd h⟩
theorem small_right {l : List Ob} (h : rightB l = true) : Small l := by
  obtain ⟨h1, h2⟩ := rightB_iff.1 h
  refine ⟨by omega, fun o ho => ?_⟩
  obtain ⟨_, a1, a2, _, _, a3, _⟩ := isB_bounds (goodF_mem h2 o ho).1
  exact ⟨by omega, by omega, by omega⟩




/-- A law's world. -/
structure WE (s : Sn) (w0 w : World) : Prop where
  below : Below w0.heap.size w0 w
  ev : Ev s w
theorem WE.more {s : Sn} {w0 w w' : World} (h : WE s w0 w) (k : Below w.heap.size w w') : WE s w0 w' := ⟨below_more h.below k, h.ev.more k⟩
theorem WE.of {s : Sn} {w : World} (h : Ev s w) : WE s w w := ⟨Below.refl _ _, h⟩
/-- A slice of objects. -/
structure SO (W : World) (va : Option Addr) (k vc : Nat) (vs : List Ov) (l : List Ob) : Prop where
  e : obs vs = l
  o : Objs W va k vc vs
  s : Small l
theorem SO.more {A B : World} {va : Option Addr} {k vc : Nat} {vs : List Ov} {l : List Ob} (h : SO A va k vc vs l) (hb : Below A.heap.size A B) : SO B va k vc vs l := ⟨h.e, h.o.more hb, h.s⟩
theorem SO.bd {W : World} {va : Option Addr} {k vc : Nat} {vs : List Ov} {l : List Ob} (h : SO W va k vc vs l) : ∀ x ∈ vs, Bd x.o := fun _x hx => h.s.b _ (h.e ▸ mem_obs hx)
theorem SO.len {W : World} {va : Option Addr} {k vc : Nat} {vs : List Ov} {l : List Ob} (h : SO W va k vc vs l) : l.length = k := by rw [← h.e, obs_length, h.o.hlen]
theorem SO.le {W : World} {va : Option Addr} {k vc : Nat} {vs : List Ov} {l : List Ob} (h : SO W va k vc vs l) : k ≤ 22 := by rw [← h.len]; exact h.s.n

theorem SO.le2 {W : World} {va : Option Addr} {k vc : Nat} {vs : List Ov} {l : List Ob} (h : SO W va k vc vs l) : k ≤ 1000000 := Nat.le_trans h.le (by omega)
theorem SO.nil (W : World) : SO W none 0 0 [] [] := ⟨rfl, Objs.nil W, small_nil⟩






section
variable {s : Sn} {w0 w : World} {ao : Option Addr} {k0 cap : Nat} {zs : List Ov} {l : List Ob} {c : Int} {a : List Ob} {kr : Nat}

theorem Right_w {b : Bool} (hb : rightB l = b) (hL : SO w ao k0 cap zs l) (hs : WE s w0 w) : Calls Tryz.prog 60 #[.slice ao k0 cap] w (BoolP b w) := by
  obtain rfl := hL.e
  exact Right_s hb hL.le2 hs.ev hL.bd hL.o
theorem Cost_w (hc : costR l = c) (hL : SO w ao k0 cap zs l) (hs : WE s w0 w) : Calls Tryz.prog 40 #[.slice ao k0 cap] w (IntP c w) := by
  obtain rfl := hL.e
  exact Cost_s hc hL.le2 hs.ev hL.bd hL.o
theorem Same_w {bo : Option Addr} {k1 cap1 : Nat} {ys : List Ov} {m : List Ob} {b : Bool} (hb : sameL l m = b) (hL : SO w ao k0 cap zs l) (hM : SO w bo k1 cap1 ys m) : Calls Tryz.prog 43 #[.slice ao k0 cap, .slice bo k1 cap1] w (BoolP b w) := by
  obtain rfl := hL.e
  obtain rfl := hM.e
  exact Same_s hL.le2 hM.le2 hb hL.bd hM.bd hL.o hM.o
end







end Go.Proofs.YtlafcplcjpcikaaGreatDoor
