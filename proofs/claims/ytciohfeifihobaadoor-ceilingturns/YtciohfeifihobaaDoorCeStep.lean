/- step: where one is behind a label; steps. -/
import Derived.Test.YtciohfeifihobaaDoorCeFlo
import Derived.Test.YtciohfeifihobaaDoorCeRange
namespace Go.Proofs.Cel
open Go.Proofs.Cats Go.Proofs.YtciohfeifihobaaDoor
/-- Where one is behind a label, and whether one floated. -/
def upL (cur a high : Lab) : Lab × Bool := if (cur.join a).under high = true then (cur.join a, true) else (cur, false)
theorem upL_yes {cur a high : Lab} (h : (cur.join a).under high = true) : upL cur a high = (cur.join a, true) := by unfold upL; rw [if_pos h]
theorem upL_no {cur a high : Lab} (h : (cur.join a).under high = false) : upL cur a high = (cur, false) := by unfold upL; rw [if_neg (by simp [h])]
/-- What steps yields. -/
def ups (high : Lab) : Lab → List Lab → List (Lab × Bool)
  | _, [] => []
  | cur, a :: r => if (cur.join a).under high = true then (cur.join a, true) :: ups high (cur.join a) r else [(cur, false)]
theorem ups_yes {high cur a : Lab} {r : List Lab} (h : (cur.join a).under high = true) : ups high cur (a :: r) = (cur.join a, true) :: ups high (cur.join a) r := by
  rw [ups, if_pos h]
theorem ups_no {high cur a : Lab} {r : List Lab} (h : (cur.join a).under high = false) : ups high cur (a :: r) = [(cur, false)] := by
  rw [ups, if_neg (by simp [h])]
theorem ups_len (high : Lab) : ∀ (cur : Lab) (l : List Lab), (ups high cur l).length ≤ l.length
  | _, [] => Nat.le_refl _
  | cur, a :: r => by
    cases h : (cur.join a).under high with
    | true => rw [ups_yes h]; simpa using ups_len high (cur.join a) r
    | false => rw [ups_no h]; simp
/-- Where one is behind what came. -/
def atL (cur : Lab) (l : List (Lab × Bool)) : Lab := l.foldl (fun _ y => y.1) cur
theorem atL_snoc (cur : Lab) (l : List (Lab × Bool)) (y : Lab × Bool) : atL cur (l ++ [y]) = y.1 := by simp [atL]
theorem ups_path {high : Lab} : ∀ (l : List Lab) (cur : Lab) (n : Nat), (∀ y ∈ ups high cur l, y.2 = true) → pathGo high cur n l = (0, n + l.length, atL cur (ups high cur l))
  | [], cur, n, _ => rfl
  | a :: r, cur, n, h => by
    cases e : (cur.join a).under high with
    | true =>
      rw [pathGo_step e, ups_path r (cur.join a) (n + 1) (fun y hy => h y (by rw [ups_yes e]; exact List.mem_cons_of_mem _ hy)), ups_yes e]
      simp [atL, Nat.add_comm, Nat.add_left_comm]
    | false =>
      have := h (cur, false) (by rw [ups_no e]; simp)
      cases this
theorem ups_stop {high : Lab} : ∀ (l : List Lab) (cur : Lab) (n : Nat) (p : List (Lab × Bool)) (x : Lab), (∀ y ∈ p, y.2 = true) → p ++ [(x, false)] <+: ups high cur l → pathGo high cur n l = (120, n + p.length, atL cur p)
  | [], cur, n, p, x, _, hp => by
    rw [ups] at hp
    have := hp.length_le
    simp at this
  | a :: r, cur, n, p, x, h, hp => by
    cases e : (cur.join a).under high with
    | true =>
      rw [ups_yes e] at hp
      cases p with
      | nil =>
        have := (List.cons_prefix_cons.1 hp).1
        cases this
      | cons y p =>
        obtain ⟨rfl, hp2⟩ := List.cons_prefix_cons.1 hp
        rw [pathGo_step e, ups_stop r (cur.join a) (n + 1) p x (fun z hz => h z (List.mem_cons_of_mem _ hz)) hp2]
        simp [atL, Nat.add_comm, Nat.add_left_comm]
    | false =>
      rw [ups_no e] at hp
      rw [pathGo_stop e]
      cases p with
      | nil => rfl
      | cons y p =>
        have := hp.length_le
        simp at this
end Go.Proofs.Cel
namespace Go.Proofs.YtciohfeifihobaaDoor
open Go.RowKit Go.Proofs.Cats Go.Proofs.Cel Go.Shelf Go.Sort

/-- What step tells of whether one floated. -/
def errU (s : Sn) (b : Bool) : Value := if b = true then .nilIface else errV s.a
def StP (s : Sn) (b : Bool) (x : Lab) (w : World) (e : Ending) (w' : World) : Prop := e = .returned (.tuple #[.agg #[.int .i64 x.l, .int .u64 x.c, .int .i64 x.i], errU s b]) ∧ Below w.heap.size w w'
/-- A climber, a label, the answer's room. -/
structure St3 (w W : World) (cur high a : Lab) : Prop where
  b : Below w.heap.size w W
  c : BoxC W w.heap.size cur high
  a : BoxL W (w.heap.size + 1) a
  r : BoxF W (w.heap.size + 1 + 1) Lab.zero
theorem St3.more {w W W' : World} {cur high a : Lab} (k : St3 w W cur high a) (hb : Below W.heap.size W W') : St3 w W' cur high a := ⟨below_more k.b hb, k.c.more hb, k.a.more hb, k.r.more hb⟩
theorem St3.of (w : World) (cur high a : Lab) : St3 w (((w.alloc (.cells #[.int .i64 cur.l, .int .u64 cur.c, .int .i64 cur.i, .int .i64 high.l, .int .u64 high.c, .int .i64 high.i] 47)).alloc (.cells #[.int .i64 a.l, .int .u64 a.c, .int .i64 a.i] 24)).alloc (.cells #[.int .i64 0, .int .u64 0, .int .i64 0] 42)) cur high a := by
  refine ⟨((Below.new w _).alloc (by simp) _).alloc (by simp; omega) _, ((BoxC.new w cur high).more (Below.new _ _)).more (Below.new _ _), ?_, ?_⟩
  · have := (BoxL.new (w.alloc (.cells #[.int .i64 cur.l, .int .u64 cur.c, .int .i64 cur.i, .int .i64 high.l, .int .u64 high.c, .int .i64 high.i] 47)) a).more (Below.new _ (.cells #[.int .i64 0, .int .u64 0, .int .i64 0] 42))
    rwa [World.size_alloc] at this
  · have := boxF_zero ((w.alloc (.cells #[.int .i64 cur.l, .int .u64 cur.c, .int .i64 cur.i, .int .i64 high.l, .int .u64 high.c, .int .i64 high.i] 47)).alloc (.cells #[.int .i64 a.l, .int .u64 a.c, .int .i64 a.i] 24))
    rwa [World.size_alloc, World.size_alloc] at this
/-- What step's last region holds. -/
structure StS (s : Sn) (w : World) (cur : Lab) (W : World) : Prop where
  b : Below w.heap.size w W
  c : W.cell? ⟨w.heap.size, 0, none⟩ = some (.int .i64 cur.l) ∧ W.cell? ⟨w.heap.size, 1, none⟩ = some (.int .u64 cur.c) ∧ W.cell? ⟨w.heap.size, 2, none⟩ = some (.int .i64 cur.i)
  s : W.cell? ⟨1, 0, none⟩ = some (.iface 116 (.pointer (some s.a)))

theorem set3_other {A : World} {X b o : Nat} {u v t y : Value} (h : A.cell? ⟨b, o, none⟩ = some y) (hX : b ≠ X) : (((A.setCell ⟨X, 0, none⟩ u).setCell ⟨X, 1, none⟩ v).setCell ⟨X, 2, none⟩ t).cell? ⟨b, o, none⟩ = some y :=
  setO (setO (setO h (ne_blk (Ne.symm hX))) (ne_blk (Ne.symm hX))) (ne_blk (Ne.symm hX))
theorem StS.set {s : Sn} {w : World} {cur : Lab} {A : World} {u v t : Value} (h : StS s w cur A) (hg : 1 < w.heap.size) : StS s w cur (((A.setCell ⟨w.heap.size + 1 + 1, 0, none⟩ u).setCell ⟨w.heap.size + 1 + 1, 1, none⟩ v).setCell ⟨w.heap.size + 1 + 1, 2, none⟩ t) :=
  ⟨below_set3 h.b (by omega) u v t, ⟨set3_other h.c.1 (by omega), set3_other h.c.2.1 (by omega), set3_other h.c.2.2 (by omega)⟩, set3_other h.s (by omega)⟩
set_option maxRecDepth 100000 in
set_option maxHeartbeats 4000000 in
theorem step_y {s : Sn} {cur a high : Lab} {w : World} (hc : cur.fits) (ha : a.fits) (hh : high.fits) (hr : (cur.right && a.right) = true) (hu : (cur.join a).under high = true) (hs : Ce w) (hS : Sent s w) :
    Calls Tryd.prog 66 #[.agg #[.int .i64 cur.l, .int .u64 cur.c, .int .i64 cur.i, .int .i64 high.l, .int .u64 high.c, .int .i64 high.i], .agg #[.int .i64 a.l, .int .u64 a.c, .int .i64 a.i]] w (StP s true (cur.join a) w) := by
  have HB := Lib.hid (St3.of w cur high a)
  have HE := Lib.hid (And.intro (hs.more HB.out.b) (hS.more HB.out.b))
  have HJ := Lib.hid (And.intro (twoJ_yes hr) (twoE_yes hr))
  obtain ⟨y, hy⟩ : ∃ y, cur.join a = y := ⟨_, rfl⟩
  rw [hy] at HJ hu
  have HY := Lib.hid hy
  have HU := Lib.hid (fun W => Under_w (w := W) (show y.fits from hy ▸ hc.join ha) hh hu)
  have HF := Lib.hid (And.intro hc ha)
  clear hc ha hh hr hu hs hS hy
  go_enter Tryd.func66, Tryd.ntmps66
  go_wp2_with (go_at_call 26; refine (Join_w HF.out.1 HF.out.2 HJ.out.1 HJ.out.2 HE.out.1).mono ?_)
  rintro e w1 ⟨rfl, hb1⟩
  have hN := Below.new w1 (.cells #[.int .i64 y.l, .int .u64 y.c, .int .i64 y.i] 24)
  have HB1 := Lib.hid ((HB.out.more hb1).more hN)
  have HS1 := Lib.hid ((HE.out.2.more hb1).more hN)
  have HX := Lib.hid (BoxL.new w1 y)
  obtain ⟨-, h3, h4, h5⟩ := HB1.out.c.lab
  obtain ⟨x0, x1, x2⟩ := HX.out.lab
  clear hb1 hN
  go_wp2_with (go_at_call 24; refine (HU.out _).mono ?_)
  rintro e w2 ⟨rfl, hb2⟩
  have HB2 := Lib.hid (HB1.out.more hb2)
  have HS2 := Lib.hid (HS1.out.more hb2)
  have HX2 := Lib.hid (HX.out.more hb2)
  clear hb2 h3 h4 h5 x0 x1 x2
  obtain ⟨z0, z1, z2⟩ := HB2.out.r.lab
  obtain ⟨fz0, fz1, fz2⟩ := HB2.out.r.frozen
  obtain ⟨x0, x1, x2⟩ := HX2.out.lab
  go_wp2
  have HV := Lib.hid (show Below w.heap.size w (((w2.setCell ⟨w.heap.size + 1 + 1, 0, none⟩ (.int .i64 y.l)).setCell ⟨w.heap.size + 1 + 1, 1, none⟩ (.int .u64 (y.c : Int))).setCell ⟨w.heap.size + 1 + 1, 2, none⟩ (.int .i64 y.i)) ∧ BoxF (((w2.setCell ⟨w.heap.size + 1 + 1, 0, none⟩ (.int .i64 y.l)).setCell ⟨w.heap.size + 1 + 1, 1, none⟩ (.int .u64 (y.c : Int))).setCell ⟨w.heap.size + 1 + 1, 2, none⟩ (.int .i64 y.i)) (w.heap.size + 1 + 1) y from ⟨below_set3 HB2.out.b (by omega) _ _ _, HB2.out.r.set y⟩)
  obtain ⟨c0, c1, c2⟩ := HV.out.2.lab
  have hbf := HV.out.1
  clear HV z0 z1 z2 fz0 fz1 fz2 x0 x1 x2
  rw [HY.out]
  refine bodyPost_ret (v := .tuple #[.agg #[.int .i64 y.l, .int .u64 y.c, .int .i64 y.i], .nilIface]) ?_ rfl ⟨rfl, hbf⟩
  clear hbf
  generalize ((w2.setCell ⟨w.heap.size + 1 + 1, 0, none⟩ (.int .i64 y.l)).setCell ⟨w.heap.size + 1 + 1, 1, none⟩ (.int .u64 (y.c : Int))).setCell ⟨w.heap.size + 1 + 1, 2, none⟩ (.int .i64 y.i) = WF at c0 c1 c2 ⊢
  simp [results, Tryd.results66, go_sem, c0, c1, c2]

set_option maxRecDepth 100000 in
set_option maxHeartbeats 4000000 in
theorem step_n {s : Sn} {cur a high : Lab} {w : World} (hc : cur.fits) (ha : a.fits) (hh : high.fits) (hr : (cur.right && a.right) = true) (hu : (cur.join a).under high = false) (hs : Ce w) (hS : Sent s w) :
    Calls Tryd.prog 66 #[.agg #[.int .i64 cur.l, .int .u64 cur.c, .int .i64 cur.i, .int .i64 high.l, .int .u64 high.c, .int .i64 high.i], .agg #[.int .i64 a.l, .int .u64 a.c, .int .i64 a.i]] w (StP s false cur w) := by
  have HB := Lib.hid (St3.of w cur high a)
  have HE := Lib.hid (And.intro (hs.more HB.out.b) (hS.more HB.out.b))
  have HJ := Lib.hid (And.intro (twoJ_yes hr) (twoE_yes hr))
  obtain ⟨y, hy⟩ : ∃ y, cur.join a = y := ⟨_, rfl⟩
  rw [hy] at HJ hu
  have HY := Lib.hid hy
  have HU := Lib.hid (fun W => Under_w (w := W) (show y.fits from hy ▸ hc.join ha) hh hu)
  have HF := Lib.hid (And.intro hc ha)
  have HGL := Lib.hid (show 1 < w.heap.size from World.block_lt_of_cell? w _ hS.ca)
  clear hc ha hh hr hu hs hS hy
  go_enter Tryd.func66, Tryd.ntmps66
  go_wp2_with (go_at_call 26; refine (Join_w HF.out.1 HF.out.2 HJ.out.1 HJ.out.2 HE.out.1).mono ?_)
  rintro e w1 ⟨rfl, hb1⟩
  have hN := Below.new w1 (.cells #[.int .i64 y.l, .int .u64 y.c, .int .i64 y.i] 24)
  have HB1 := Lib.hid ((HB.out.more hb1).more hN)
  have HS1 := Lib.hid ((HE.out.2.more hb1).more hN)
  have HX := Lib.hid (BoxL.new w1 y)
  obtain ⟨-, h3, h4, h5⟩ := HB1.out.c.lab
  obtain ⟨x0, x1, x2⟩ := HX.out.lab
  clear hb1 hN
  go_wp2_with (go_at_call 24; refine (HU.out _).mono ?_)
  rintro e w2 ⟨rfl, hb2⟩
  have HB2 := Lib.hid (HB1.out.more hb2)
  have HS2 := Lib.hid (HS1.out.more hb2)
  have HX2 := Lib.hid (HX.out.more hb2)
  clear hb2 h3 h4 h5 x0 x1 x2
  obtain ⟨z0, z1, z2⟩ := HB2.out.r.lab
  obtain ⟨fz0, fz1, fz2⟩ := HB2.out.r.frozen
  have HZ := Lib.hid (show BoxF w2 (w.heap.size + 1 + 1) Lab.zero from HB2.out.r)
  clear z0 z1 z2 fz0 fz1 fz2
  go_wp2
  refine wp_region_held_drew (S := StS s w cur) (by kernel_rfl) (⟨HB2.out.b.drew, (HB2.out.c.more (Below.refl _ _).drew).lab.1, (HS2.out.more (Below.refl _ _).drew).ca⟩) (fun hS0 => ?_)
  refine wpAnyH_take (i := 0) (oi := { dst := some 21, op := Go.Op.fieldAddr 47 (Go.Operand.tmp 2) 0, type := 0, pos := "ceiling.go:110", after := #[], guard := none }) (v := ?_) rfl (by kernel_rfl) (by kernel_rfl) (by kernel_rfl) (fun _ _ _ h => h) (Or.inl ⟨by rfl, ?_⟩) hS0 ?_
  rotate_left
  · (intro wq hSw; obtain ⟨x0, x1, x2⟩ := StS.c hSw; have x3 := StS.s hSw; go_simp; try with_reducible rfl)
  try simp only [Act.put, List.setIfInBounds_toArray, List.set_cons_zero, List.set_cons_succ]
  refine wpAnyH_take (i := 1) (oi := { dst := some 22, op := Go.Op.load 42 (Go.Operand.tmp 21), type := 42, pos := "ceiling.go:110", after := #[{ on := 0, ground := Go.Ground.data }], guard := none }) (v := ?_) rfl (by kernel_rfl) (by kernel_rfl) (by kernel_rfl) (fun _ _ _ h => h) (Or.inl ⟨by rfl, ?_⟩) hS0 ?_
  rotate_left
  · (intro wq hSw; obtain ⟨x0, x1, x2⟩ := StS.c hSw; have x3 := StS.s hSw; go_simp; try with_reducible rfl)
  try simp only [Act.put, List.setIfInBounds_toArray, List.set_cons_zero, List.set_cons_succ]
  refine wpAnyH_take (i := 2) (oi := { dst := some 23, op := Go.Op.load 44 (Go.Operand.global 1), type := 44, pos := "ceiling.go:110", after := #[{ on := 3, ground := Go.Ground.gcOnly Go.Departure.lateStores }], guard := none }) (v := ?_) rfl (by kernel_rfl) (by kernel_rfl) (by kernel_rfl) (fun _ _ _ h => h) (Or.inl ⟨by rfl, ?_⟩) hS0 ?_
  rotate_left
  · (intro wq hSw; obtain ⟨x0, x1, x2⟩ := StS.c hSw; have x3 := StS.s hSw; go_simp; try with_reducible rfl)
  try simp only [Act.put, List.setIfInBounds_toArray, List.set_cons_zero, List.set_cons_succ]
  refine wpAnyH_ready (rs := [3]) (by kernel_rfl) (by simp) ?_
  refine AllReadyH.cons (o := { dst := none, op := Go.Op.store 42 (Go.Operand.tmp 4) (Go.Operand.tmp 22), type := 0, pos := "ceiling.go:110", after := #[{ on := 1, ground := Go.Ground.data }, { on := 0, ground := Go.Ground.phase }, { on := 1, ground := Go.Ground.phase }, { on := 2, ground := Go.Ground.textOnly Go.Departure.lateStores }], guard := none }) rfl (fun K hK => ?_) AllReadyH.nil
  obtain ⟨g0, g1, g2⟩ := HZ.out.lab
  obtain ⟨fg0, fg1, fg2⟩ := HZ.out.frozen
  have HZ2 := Lib.hid ((HZ.out.set cur).more (Below.refl _ _).drew)
  go_simp
  refine hK.out _ _ (show StS s w cur (((w2.setCell ⟨w.heap.size + 1 + 1, 0, none⟩ (.int .i64 cur.l)).setCell ⟨w.heap.size + 1 + 1, 1, none⟩ (.int .u64 (cur.c : Int))).setCell ⟨w.heap.size + 1 + 1, 2, none⟩ (.int .i64 cur.i)).drew from StS.set hS0 HGL.out) (fun hS1 => ?_)
  clear hK K
  clear g0 g1 g2 fg0 fg1 fg2
  try simp only [Act.put, List.setIfInBounds_toArray, List.set_cons_zero, List.set_cons_succ]
  refine wpAnyH_take (i := 4) (oi := { dst := some 5, op := Go.Op.assign (Go.Operand.tmp 23), type := 44, pos := "ceiling.go:110", after := #[{ on := 2, ground := Go.Ground.data }, { on := 3, ground := Go.Ground.chain }, { on := 0, ground := Go.Ground.phase }, { on := 1, ground := Go.Ground.phase }, { on := 2, ground := Go.Ground.phase }, { on := 3, ground := Go.Ground.phase }], guard := none }) (v := ?_) rfl (by kernel_rfl) (by kernel_rfl) (by kernel_rfl) (fun _ _ _ h => h) (Or.inl ⟨by rfl, ?_⟩) hS1 ?_
  rotate_left
  · (intro wq hSw; obtain ⟨x0, x1, x2⟩ := StS.c hSw; have x3 := StS.s hSw; go_simp; try with_reducible rfl)
  try simp only [Act.put, List.setIfInBounds_toArray, List.set_cons_zero, List.set_cons_succ]
  refine wpAnyH_done (by kernel_rfl) ?_ _
  obtain ⟨c0, c1, c2⟩ := HZ2.out.lab
  have hbf := hS1.b
  clear hS1 hS0
  go_wp2
  refine bodyPost_ret (v := .tuple #[.agg #[.int .i64 cur.l, .int .u64 cur.c, .int .i64 cur.i], .iface 116 (.pointer (some s.a))]) ?_ rfl ⟨rfl, hbf⟩
  clear hbf
  generalize (((w2.setCell ⟨w.heap.size + 1 + 1, 0, none⟩ (.int .i64 cur.l)).setCell ⟨w.heap.size + 1 + 1, 1, none⟩ (.int .u64 (cur.c : Int))).setCell ⟨w.heap.size + 1 + 1, 2, none⟩ (.int .i64 cur.i)).drew = WF at c0 c1 c2 ⊢
  simp [results, Tryd.results66, go_sem, c0, c1, c2]

theorem step_w {s : Sn} {cur a high x : Lab} {b : Bool} {w : World} (hc : cur.fits) (ha : a.fits) (hh : high.fits) (hr : (cur.right && a.right) = true) (h : upL cur a high = (x, b)) (hs : Ce w) (hS : Sent s w) :
    Calls Tryd.prog 66 #[.agg #[.int .i64 cur.l, .int .u64 cur.c, .int .i64 cur.i, .int .i64 high.l, .int .u64 high.c, .int .i64 high.i], .agg #[.int .i64 a.l, .int .u64 a.c, .int .i64 a.i]] w (StP s b x w) := by
  cases hu : (cur.join a).under high with
  | true =>
    rw [upL_yes hu] at h
    obtain ⟨rfl, rfl⟩ := Prod.mk.inj h
    exact step_y hc ha hh hr hu hs hS
  | false =>
    rw [upL_no hu] at h
    obtain ⟨rfl, rfl⟩ := Prod.mk.inj h
    exact step_n hc ha hh hr hu hs hS
/-- steps: the iterator, and its boxes. -/
def StepsP (cur high : Lab) (ao : Option Addr) (len cap : Nat) (w : World) (e : Ending) (w' : World) : Prop :=
  e = .returned (.func (.func 65) #[] #[.pointer (some ⟨w.heap.size, 0, none⟩), .pointer (some ⟨w.heap.size + 1, 0, none⟩)]) ∧ (w.alloc (.cells #[.int .i64 cur.l, .int .u64 cur.c, .int .i64 cur.i, .int .i64 high.l, .int .u64 high.c, .int .i64 high.i] 47)).alloc (.cells #[.slice ao len cap] 34) = w'
set_option maxHeartbeats 1000000 in
theorem steps_any (cur high : Lab) (ao : Option Addr) (len cap : Nat) (w : World) :
    Calls Tryd.prog 59 #[.agg #[.int .i64 cur.l, .int .u64 cur.c, .int .i64 cur.i, .int .i64 high.l, .int .u64 high.c, .int .i64 high.i], .slice ao len cap] w (StepsP cur high ao len cap w) := by
  go_enter Tryd.func59, Tryd.ntmps59
  go_wp2
  go_ret
  exact ⟨rfl, rfl⟩
end Go.Proofs.YtciohfeifihobaaDoor
