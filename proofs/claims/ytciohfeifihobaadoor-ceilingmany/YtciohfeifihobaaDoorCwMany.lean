/- CeilingMany: who floats by some labels is where the join of all is. -/
import Derived.Test.YtciohfeifihobaaDoorCwRises
import Derived.Test.YtciohfeifihobaaDoorCwRow
namespace Go.Proofs.YtciohfeifihobaaDoor
open Go.RowKit Go.Proofs.Cats Go.Proofs.Cel Go.Shelf Go.Sort

/-- What the region of the appends keeps. -/
structure MaS (w : World) (cur high x : Lab) (X : Nat) (W : World) : Prop where
  t : Tv2 w W cur high
  f : BoxL W X x
theorem MaS.more {w W W' : World} {cur high x : Lab} {X : Nat} (k : MaS w cur high x X W) (hb : Below W.heap.size W W') : MaS w cur high x X W' := ⟨k.t.more hb, k.f.more hb⟩
theorem one_new (W : World) (a : Lab) : ∀ ad, (some ⟨W.heap.size, 0, none⟩ : Option Addr) = some ad → ∀ j u, (labCells [a])[j]? = some u → (W.alloc (.cells #[.int .i64 a.l, .int .u64 a.c, .int .i64 a.i] 24)).cell? (ad.add j) = some u := by
  intro ad e
  obtain rfl := Option.some.inj e
  have h := BoxL.new W a
  obtain ⟨h0, h1, h2⟩ := h.lab
  intro j u hj
  rw [add_at]
  match j, hj with
  | 0, hj => simp [labCells, cells3L] at hj; subst hj; exact h0
  | 1, hj => simp [labCells, cells3L] at hj; subst hj; exact h1
  | 2, hj => simp [labCells, cells3L] at hj; subst hj; exact h2
  | j + 3, hj => simp [labCells, cells3L] at hj
set_option maxRecDepth 100000 in
set_option maxHeartbeats 4000000 in
theorem many_bad (H : Api) {cur high : Lab} {ao : Option Addr} {len cap : Nat} {zs : List Lab} (h1 : pathL cur (zs.take 30) high = (20, 0, Lab.zero)) (hc : cur.fits) (hh : high.fits) {w : World} (hI : LabsIn w ao len cap zs) (hs : Ce w) : Calls Tryd.prog 9 #[.agg #[.int .i64 cur.l, .int .u64 cur.c, .int .i64 cur.i], .slice ao len cap, .agg #[.int .i64 high.l, .int .u64 high.c, .int .i64 high.i]] w (BoolP true w) := by
  obtain ⟨hI1, hlen, hlc, hcm, hno⟩ := hI
  obtain ⟨ys, hys⟩ : ∃ ys, zs.take 30 = ys := ⟨_, rfl⟩
  have hyl : ys.length = min len 30 := by rw [← hys, List.length_take, hlen, Nat.min_comm]
  have hm : (if 30 < (len : Int) then 30 else (len : Int)) = (ys.length : Int) := by split <;> omega
  have hyc : ys.length ≤ cap := by omega
  have IL := Lib.hid (show Labs w.heap.size w (.slice ao ys.length cap) ys by rw [hyl, ← hys]; exact labs_take hI1 30)
  have hcm2 : cap ≤ 9223372036854775807 := by unfold maxLen at hcm; omega
  have HY := Lib.hid (And.intro (show ys.length ≤ 30 by omega) (And.intro hyc (And.intro hcm (show ∀ x ∈ ys, x.fits from IL.out.fits))))
  rw [hys] at h1
  have D := Lib.hid (Tv2.of w cur high)
  have HE := Lib.hid hs
  have HF := Lib.hid (And.intro hc hh)
  have HS1 := Lib.hid h1
  clear hs hc hh h1 hI1 hlen hys hyl hcm hlc hno
  go_enter Tryd.func9, Tryd.ntmps9
  go_wp2_with (go_at_call 11; refine (shown_w H _ (HE.out.more D.out.bel)).mono ?_)
  rintro e w1 ⟨rfl, hb⟩
  replace D := Lib.hid (D.out.more hb)
  clear hb
  obtain ⟨⟨p0, p1, p2⟩, ⟨q0, q1, q2⟩⟩ := D.out.cells
  go_wp2_with (go_at_call 22; refine (H.path HF.out.1 HF.out.2 ((IL.out.below D.out.bel).mono D.out.bel.size) (Nat.le_trans HY.out.1 (by decide)) HY.out.2.1 HY.out.2.2.1 HS1.out (HE.out.more D.out.bel)).mono ?_)
  rintro e w2 ⟨rfl, hb⟩
  replace D := Lib.hid (D.out.more hb)
  clear hb p0 p1 p2 q0 q1 q2
  have X := Lib.hid (BoxL.new w2 Lab.zero)
  replace D := Lib.hid (D.out.more (Below.new w2 (.cells #[.int .i64 Lab.zero.l, .int .u64 Lab.zero.c, .int .i64 Lab.zero.i] 24)))
  go_wp2
  go_ret
  exact ⟨rfl, D.out.bel⟩
set_option maxRecDepth 100000 in
set_option maxHeartbeats 4000000 in
theorem many_ze (H : Api) {cur high : Lab} {ao : Option Addr} {len cap : Nat} {zs : List Lab} {x : Lab} {n : Nat} {c : Int} (h1 : pathL cur (zs.take 30) high = (c, n, x)) (g1 : c ≠ 20) (g2 : n ≤ (zs.take 30).length) (g3 : toldE (cur :: (zs.take 30).take n) = 0) (g4 : toldJ Lab.bot (cur :: (zs.take 30).take n) = x) (k1 : n = 0) (k2 : c = 0) (k3 : n = (zs.take 30).length) (hc : cur.fits) (hh : high.fits) {w : World} (hI : LabsIn w ao len cap zs) (hs : Ce w) : Calls Tryd.prog 9 #[.agg #[.int .i64 cur.l, .int .u64 cur.c, .int .i64 cur.i], .slice ao len cap, .agg #[.int .i64 high.l, .int .u64 high.c, .int .i64 high.i]] w (BoolP true w) := by
  obtain ⟨hI1, hlen, hlc, hcm, hno⟩ := hI
  obtain ⟨ys, hys⟩ : ∃ ys, zs.take 30 = ys := ⟨_, rfl⟩
  have hyl : ys.length = min len 30 := by rw [← hys, List.length_take, hlen, Nat.min_comm]
  have hm : (if 30 < (len : Int) then 30 else (len : Int)) = (ys.length : Int) := by split <;> omega
  have hyc : ys.length ≤ cap := by omega
  have IL := Lib.hid (show Labs w.heap.size w (.slice ao ys.length cap) ys by rw [hyl, ← hys]; exact labs_take hI1 30)
  have hcm2 : cap ≤ 9223372036854775807 := by unfold maxLen at hcm; omega
  have HY := Lib.hid (And.intro (show ys.length ≤ 30 by omega) (And.intro hyc (And.intro hcm (show ∀ x ∈ ys, x.fits from IL.out.fits))))
  rw [hys] at h1 g2 g3 g4
  have hncap : n ≤ cap := Nat.le_trans g2 hyc
  have d0 : decide (c = 20) = false := decide_eq_false g1
  have d0b : (c == 20) = false := by simpa using g1
  have d1 : decide ((n : Int) < 0) = false := decide_eq_false (by omega)
  have d2 : decide ((ys.length : Int) < (n : Int)) = false := decide_eq_false (by omega)
  have d2n : decide (ys.length < n) = false := decide_eq_false (by omega)
  have d2p : ¬ (ys.length < n) := by omega
  have d2q : ¬ ((ys.length : Int) < (n : Int)) := by omega
  have d3 : (n : Int) ≤ (cap : Int) := by omega
  have hlt : (ys.take n).length = n := by rw [List.length_take]; omega
  obtain ⟨m, hm1⟩ : ∃ m, 0 + 1 + n = m := ⟨_, rfl⟩
  have IT : Labs w.heap.size w (.slice ao n cap) (ys.take n) := by have := labs_take IL.out n; rwa [Nat.min_eq_right g2] at this
  have HN := Lib.hid (And.intro (show (labCells (ys.take n)).length = n * 3 by rw [labCells_length, hlt]) (And.intro (show ao = none → n = 0 ∧ cap = 0 from fun e => by have := hno e; omega) (And.intro IT (And.intro hm1 (And.intro (show [] ++ labCells [cur] ++ labCells (ys.take n) = labCells (cur :: ys.take n) by simp [labCells]) (And.intro (show (cur :: ys.take n).length = m by rw [List.length_cons, hlt]; omega) (And.intro (show (cur :: ys.take n).length ≤ 1000 by rw [List.length_cons, hlt]; have := HY.out.1; omega) (show ∀ y ∈ cur :: ys.take n, y.fits from fun y hy => by
    rcases List.mem_cons.1 hy with rfl | hy
    · exact hc
    · exact IT.fits y hy))))))))
  have HL := Lib.hid (And.intro g4 g3)
  obtain ⟨i0, hi, hz0, hz1, hz2⟩ := info_parts infoLab
  have e1 := selfE x
  have e2 := selfEIn x
  rw [hys] at k3
  have f0 : ((n : Int) == 0) = true := by rw [beq_iff_eq]; omega
  have f1 : (n == 0) = true := by rw [beq_iff_eq]; exact k1
  have f2 : (c == 0) = true := by rw [beq_iff_eq]; exact k2
  have f3 : ((n : Int) == (ys.length : Int)) = true := by rw [beq_iff_eq]; omega
  have f4 : (n == ys.length) = true := by rw [beq_iff_eq]; exact k3
  have D := Lib.hid (Tv2.of w cur high)
  have HE := Lib.hid hs
  have HF := Lib.hid (And.intro hc hh)
  have HS1 := Lib.hid h1
  clear hs hc hh h1 hI1 hlen hys hyl hcm hlc hno g1 g2 g3 g4 hncap hlt IT hm1 k1 k2 k3
  go_enter Tryd.func9, Tryd.ntmps9
  go_wp2_with (go_at_call 11; refine (shown_w H _ (HE.out.more D.out.bel)).mono ?_)
  rintro e w1 ⟨rfl, hb⟩
  replace D := Lib.hid (D.out.more hb)
  clear hb
  obtain ⟨⟨p0, p1, p2⟩, ⟨q0, q1, q2⟩⟩ := D.out.cells
  go_wp2_with (go_at_call 22; refine (H.path HF.out.1 HF.out.2 ((IL.out.below D.out.bel).mono D.out.bel.size) (Nat.le_trans HY.out.1 (by decide)) HY.out.2.1 HY.out.2.2.1 HS1.out (HE.out.more D.out.bel)).mono ?_)
  rintro e w2 ⟨rfl, hb⟩
  replace D := Lib.hid (D.out.more hb)
  clear hb p0 p1 p2 q0 q1 q2
  have X := Lib.hid (BoxL.new w2 x)
  replace D := Lib.hid (D.out.more (Below.new w2 (.cells #[.int .i64 x.l, .int .u64 x.c, .int .i64 x.i] 24)))
  go_wp2
  obtain ⟨V, hV⟩ : ∃ V, w2.alloc (.cells #[.int .i64 x.l, .int .u64 x.c, .int .i64 x.i] 24) = V := ⟨_, rfl⟩
  rw [hV] at D X ⊢
  clear hV
  have HV := Lib.hid (show MaS w cur high x w2.heap.size V from ⟨D.out, X.out⟩)
  refine wp_region_held_drew (S := MaS w cur high x w2.heap.size) (by kernel_rfl) (HV.out.more ((Below.refl _ V).drew)) (fun hS0 => ?_)
  refine wpAnyH_take (i := 0) (oi := { dst := some 43, op := Go.Op.move (Go.Operand.tmp 11), type := 34, pos := "law.go:102", after := #[], guard := none }) (v := ?_) rfl (by kernel_rfl) (by kernel_rfl) (by kernel_rfl) (fun _ _ _ h => h) (Or.inl ⟨by rfl, ?_⟩) hS0 ?_
  rotate_left
  · (intro wq hSw; go_simp; try with_reducible rfl)
  try simp only [Act.put, List.setIfInBounds_toArray, List.set_cons_zero, List.set_cons_succ]
  refine wpAnyH_take (i := 1) (oi := { dst := some 44, op := Go.Op.load 24 (Go.Operand.tmp 3), type := 24, pos := "law.go:102", after := #[], guard := none }) (v := ?_) rfl (by kernel_rfl) (by kernel_rfl) (by kernel_rfl) (fun _ _ _ h => h) (Or.inl ⟨by rfl, ?_⟩) hS0 ?_
  rotate_left
  · (intro wq hSw; obtain ⟨y0, y1, y2⟩ := hSw.t.x0.lab; go_simp; try with_reducible rfl)
  try simp only [Act.put, List.setIfInBounds_toArray, List.set_cons_zero, List.set_cons_succ]
  refine wpAnyH_take (i := 4) (oi := { dst := some 47, op := Go.Op.move (Go.Operand.tmp 1), type := 34, pos := "law.go:102", after := #[], guard := none }) (v := ?_) rfl (by kernel_rfl) (by kernel_rfl) (by kernel_rfl) (fun _ _ _ h => h) (Or.inl ⟨by rfl, ?_⟩) hS0 ?_
  rotate_left
  · (intro wq hSw; go_simp; try with_reducible rfl)
  try simp only [Act.put, List.setIfInBounds_toArray, List.set_cons_zero, List.set_cons_succ]
  refine wpAnyH_take (i := 5) (oi := { dst := some 48, op := Go.Op.move (Go.Operand.tmp 9), type := 3, pos := "law.go:102", after := #[], guard := none }) (v := ?_) rfl (by kernel_rfl) (by kernel_rfl) (by kernel_rfl) (fun _ _ _ h => h) (Or.inl ⟨by rfl, ?_⟩) hS0 ?_
  rotate_left
  · (intro wq hSw; go_simp; try with_reducible rfl)
  try simp only [Act.put, List.setIfInBounds_toArray, List.set_cons_zero, List.set_cons_succ]
  refine wpAnyH_take (i := 6) (oi := { dst := some 49, op := Go.Op.slice 34 (Go.Operand.tmp 47) none (some (Go.Operand.tmp 48)) none, type := 34, pos := "law.go:102", after := #[{ on := 4, ground := Go.Ground.data }, { on := 5, ground := Go.Ground.data }], guard := none }) (v := ?_) rfl (by kernel_rfl) (by kernel_rfl) (by kernel_rfl) (fun _ _ _ h => h) (Or.inl ⟨by rfl, ?_⟩) hS0 ?_
  rotate_left
  · (intro wq hSw; go_simp; try with_reducible rfl)
  try simp only [Act.put, List.setIfInBounds_toArray, List.set_cons_zero, List.set_cons_succ]
  refine wpAnyH_ready (rs := [2]) (by kernel_rfl) (by simp) ?_
  refine AllReadyH.cons (o := { dst := some 45, op := Go.Op.buildSlice 34 1 #[(0, Go.Operand.tmp 44)], type := 34, pos := "law.go:102", after := #[{ on := 1, ground := Go.Ground.data }], guard := none }) rfl (fun K hK => ?_) AllReadyH.nil
  go_simp
  refine hK.out _ _ (MaS.more hS0 (Below.new _ _)) (fun hS1 => ?_)
  clear hK K
  try simp only [Act.put, List.setIfInBounds_toArray, List.set_cons_zero, List.set_cons_succ]
  have hB1 : Below V.heap.size V (V.alloc (.cells #[.int .i64 cur.l, .int .u64 cur.c, .int .i64 cur.i] 24)).drew := (Below.new V _).drew
  obtain ⟨WA, hWA⟩ : ∃ WA, (V.alloc (.cells #[.int .i64 cur.l, .int .u64 cur.c, .int .i64 cur.i] 24)).drew = WA := ⟨_, rfl⟩
  have hnew : ∀ ad, (some ⟨V.heap.size, 0, none⟩ : Option Addr) = some ad → ∀ j u, (labCells [cur])[j]? = some u → WA.cell? (ad.add j) = some u := hWA ▸ one_new V cur
  rw [hWA] at hB1 hS1 ⊢
  clear hWA
  refine wpAnyH_ready (rs := [3]) (by kernel_rfl) (by simp) ?_
  refine AllReadyH.cons (o := { dst := some 46, op := Go.Op.call { callee := Go.Callee.builtin Go.Builtin.append, args := #[Go.Operand.tmp 43, Go.Operand.tmp 45], argTypes := #[34, 34] }, type := 34, pos := "law.go:102", after := #[{ on := 0, ground := Go.Ground.data }, { on := 2, ground := Go.Ground.data }], guard := none }) rfl (fun K hK => ?_) AllReadyH.nil
  refine step_append_some rfl (.tmp 43) (.tmp 45) 34 rfl V.heap.size 24 i0 (.agg #[.int .i64 0, .int .u64 0, .int .i64 0]) 3 24 Tryd.underlying34 hi hz0 hz1 hz2 rfl (by decide) (.slice none 0 0) (0) ([]) (by simp [Act.eval]) (World.ownsRow_nil _ _ _ _) (some ⟨V.heap.size, 0, none⟩) (1) (1) (labCells [cur]) (by simp [Act.eval]) (rfl) (fun h => by cases h) (hnew) (labCells_one _) (by unfold maxLen; omega) (by omega) (hB1.size) ?_
  rintro v1 wB hA1
  have hB2 := app_below hB1 (World.ownsRow_nil _ _ _ _) hA1
  obtain ⟨v1a, v1c, rfl⟩ := rowG_slice hA1.1
  refine hK.out _ _ (HV.out.more hB2) (fun hS2 => ?_)
  clear hK K
  try simp only [Act.put, List.setIfInBounds_toArray, List.set_cons_zero, List.set_cons_succ]
  refine wpAnyH_ready (rs := [7]) (by kernel_rfl) (by simp) ?_
  refine AllReadyH.cons (o := { dst := some 50, op := Go.Op.call { callee := Go.Callee.builtin Go.Builtin.append, args := #[Go.Operand.tmp 46, Go.Operand.tmp 49], argTypes := #[34, 34] }, type := 34, pos := "law.go:102", after := #[{ on := 3, ground := Go.Ground.data }, { on := 6, ground := Go.Ground.data }, { on := 3, ground := Go.Ground.chain }], guard := none }) rfl (fun K hK => ?_) AllReadyH.nil
  refine step_append_some rfl (.tmp 46) (.tmp 49) 34 rfl V.heap.size 24 i0 (.agg #[.int .i64 0, .int .u64 0, .int .i64 0]) 3 24 Tryd.underlying34 hi hz0 hz1 hz2 rfl (by decide) (.slice v1a (0 + 1) v1c) (0 + 1) ([] ++ labCells [cur]) (by simp [Act.eval]) (hA1.1) (ao) (n) (cap) (labCells (ys.take n)) (by simp [Act.eval]) (HN.out.1) (HN.out.2.1) (labs_news (HN.out.2.2.1.below (below_more D.out.bel hB2))) (labCells_one _) (by have := HY.out.1; unfold maxLen; omega) (by have := HY.out.1; omega) (hB2.size) ?_
  rintro v2 wC hA2
  have hB3 := app_below hB2 hA1.1 hA2
  obtain ⟨v2a, v2c, rfl⟩ := rowG_slice hA2.1
  have hrow := hA2.1
  rw [HN.out.2.2.2.1, HN.out.2.2.2.2.1] at hrow
  rw [HN.out.2.2.2.1]
  have HR := Lib.hid (labs_row (zs := cur :: ys.take n) (by rw [HN.out.2.2.2.2.2.1]; exact hrow) HN.out.2.2.2.2.2.2.2)
  refine hK.out _ _ (HV.out.more hB3) (fun hS3 => ?_)
  clear hK K
  try simp only [Act.put, List.setIfInBounds_toArray, List.set_cons_zero, List.set_cons_succ]
  refine wpAnyH_take (i := 8) (oi := { dst := some 11, op := Go.Op.assign (Go.Operand.tmp 50), type := 34, pos := "law.go:102", after := #[{ on := 7, ground := Go.Ground.data }, { on := 7, ground := Go.Ground.chain }, { on := 0, ground := Go.Ground.phase }, { on := 1, ground := Go.Ground.phase }, { on := 2, ground := Go.Ground.phase }, { on := 3, ground := Go.Ground.phase }, { on := 4, ground := Go.Ground.phase }, { on := 5, ground := Go.Ground.phase }, { on := 6, ground := Go.Ground.phase }, { on := 7, ground := Go.Ground.phase }], guard := none }) (v := ?_) rfl (by kernel_rfl) (by kernel_rfl) (by kernel_rfl) (fun _ _ _ h => h) (Or.inl ⟨by rfl, ?_⟩) hS3 ?_
  rotate_left
  · (intro wq hSw; go_simp; try with_reducible rfl)
  try simp only [Act.put, List.setIfInBounds_toArray, List.set_cons_zero, List.set_cons_succ]
  refine wpAnyH_done (by kernel_rfl) ?_ _
  replace D := Lib.hid hS3.t
  replace X := Lib.hid hS3.f
  clear hS3 hS2 hS1 hS0 hA1 hA2 hB1 hB2 hB3 hnew hrow
  go_wp2_with (go_at_call 25; refine (Least_w HN.out.2.2.2.2.2.2.1 HR.out HL.out.1 HL.out.2 (HE.out.more D.out.bel)).mono ?_)
  rintro e w13 ⟨rfl, hb⟩
  replace D := Lib.hid (D.out.more hb)
  replace X := Lib.hid (X.out.more hb)
  clear hb HR
  have Y := Lib.hid (BoxL.new w13 x)
  replace D := Lib.hid (D.out.more (Below.new w13 (.cells #[.int .i64 x.l, .int .u64 x.c, .int .i64 x.i] 24)))
  replace X := Lib.hid (X.out.more (Below.new w13 (.cells #[.int .i64 x.l, .int .u64 x.c, .int .i64 x.i] 24)))
  obtain ⟨⟨p0, p1, p2⟩, ⟨q0, q1, q2⟩⟩ := D.out.cells
  obtain ⟨x0, x1, x2⟩ := X.out.lab
  obtain ⟨y0, y1, y2⟩ := Y.out.lab
  go_wp2
  go_ret
  exact ⟨rfl, D.out.bel⟩
set_option maxRecDepth 100000 in
set_option maxHeartbeats 4000000 in
theorem many_zn (H : Api) {cur high : Lab} {ao : Option Addr} {len cap : Nat} {zs : List Lab} {x : Lab} {n : Nat} {c : Int} (h1 : pathL cur (zs.take 30) high = (c, n, x)) (g1 : c ≠ 20) (g2 : n ≤ (zs.take 30).length) (g3 : toldE (cur :: (zs.take 30).take n) = 0) (g4 : toldJ Lab.bot (cur :: (zs.take 30).take n) = x) (k1 : n = 0) (k2 : c ≠ 0) (k3 : n ≠ (zs.take 30).length) (hc : cur.fits) (hh : high.fits) {w : World} (hI : LabsIn w ao len cap zs) (hs : Ce w) : Calls Tryd.prog 9 #[.agg #[.int .i64 cur.l, .int .u64 cur.c, .int .i64 cur.i], .slice ao len cap, .agg #[.int .i64 high.l, .int .u64 high.c, .int .i64 high.i]] w (BoolP true w) := by
  obtain ⟨hI1, hlen, hlc, hcm, hno⟩ := hI
  obtain ⟨ys, hys⟩ : ∃ ys, zs.take 30 = ys := ⟨_, rfl⟩
  have hyl : ys.length = min len 30 := by rw [← hys, List.length_take, hlen, Nat.min_comm]
  have hm : (if 30 < (len : Int) then 30 else (len : Int)) = (ys.length : Int) := by split <;> omega
  have hyc : ys.length ≤ cap := by omega
  have IL := Lib.hid (show Labs w.heap.size w (.slice ao ys.length cap) ys by rw [hyl, ← hys]; exact labs_take hI1 30)
  have hcm2 : cap ≤ 9223372036854775807 := by unfold maxLen at hcm; omega
  have HY := Lib.hid (And.intro (show ys.length ≤ 30 by omega) (And.intro hyc (And.intro hcm (show ∀ x ∈ ys, x.fits from IL.out.fits))))
  rw [hys] at h1 g2 g3 g4
  have hncap : n ≤ cap := Nat.le_trans g2 hyc
  have d0 : decide (c = 20) = false := decide_eq_false g1
  have d0b : (c == 20) = false := by simpa using g1
  have d1 : decide ((n : Int) < 0) = false := decide_eq_false (by omega)
  have d2 : decide ((ys.length : Int) < (n : Int)) = false := decide_eq_false (by omega)
  have d2n : decide (ys.length < n) = false := decide_eq_false (by omega)
  have d2p : ¬ (ys.length < n) := by omega
  have d2q : ¬ ((ys.length : Int) < (n : Int)) := by omega
  have d3 : (n : Int) ≤ (cap : Int) := by omega
  have hlt : (ys.take n).length = n := by rw [List.length_take]; omega
  obtain ⟨m, hm1⟩ : ∃ m, 0 + 1 + n = m := ⟨_, rfl⟩
  have IT : Labs w.heap.size w (.slice ao n cap) (ys.take n) := by have := labs_take IL.out n; rwa [Nat.min_eq_right g2] at this
  have HN := Lib.hid (And.intro (show (labCells (ys.take n)).length = n * 3 by rw [labCells_length, hlt]) (And.intro (show ao = none → n = 0 ∧ cap = 0 from fun e => by have := hno e; omega) (And.intro IT (And.intro hm1 (And.intro (show [] ++ labCells [cur] ++ labCells (ys.take n) = labCells (cur :: ys.take n) by simp [labCells]) (And.intro (show (cur :: ys.take n).length = m by rw [List.length_cons, hlt]; omega) (And.intro (show (cur :: ys.take n).length ≤ 1000 by rw [List.length_cons, hlt]; have := HY.out.1; omega) (show ∀ y ∈ cur :: ys.take n, y.fits from fun y hy => by
    rcases List.mem_cons.1 hy with rfl | hy
    · exact hc
    · exact IT.fits y hy))))))))
  have HL := Lib.hid (And.intro g4 g3)
  obtain ⟨i0, hi, hz0, hz1, hz2⟩ := info_parts infoLab
  have e1 := selfE x
  have e2 := selfEIn x
  rw [hys] at k3
  have f0 : ((n : Int) == 0) = true := by rw [beq_iff_eq]; omega
  have f1 : (n == 0) = true := by rw [beq_iff_eq]; exact k1
  have f2 : (c == 0) = false := by rw [beq_eq_false_iff_ne]; exact k2
  have f3 : ((n : Int) == (ys.length : Int)) = false := by rw [beq_eq_false_iff_ne]; omega
  have f4 : (n == ys.length) = false := by rw [beq_eq_false_iff_ne]; exact k3
  have D := Lib.hid (Tv2.of w cur high)
  have HE := Lib.hid hs
  have HF := Lib.hid (And.intro hc hh)
  have HS1 := Lib.hid h1
  clear hs hc hh h1 hI1 hlen hys hyl hcm hlc hno g1 g2 g3 g4 hncap hlt IT hm1 k1 k2 k3
  go_enter Tryd.func9, Tryd.ntmps9
  go_wp2_with (go_at_call 11; refine (shown_w H _ (HE.out.more D.out.bel)).mono ?_)
  rintro e w1 ⟨rfl, hb⟩
  replace D := Lib.hid (D.out.more hb)
  clear hb
  obtain ⟨⟨p0, p1, p2⟩, ⟨q0, q1, q2⟩⟩ := D.out.cells
  go_wp2_with (go_at_call 22; refine (H.path HF.out.1 HF.out.2 ((IL.out.below D.out.bel).mono D.out.bel.size) (Nat.le_trans HY.out.1 (by decide)) HY.out.2.1 HY.out.2.2.1 HS1.out (HE.out.more D.out.bel)).mono ?_)
  rintro e w2 ⟨rfl, hb⟩
  replace D := Lib.hid (D.out.more hb)
  clear hb p0 p1 p2 q0 q1 q2
  have X := Lib.hid (BoxL.new w2 x)
  replace D := Lib.hid (D.out.more (Below.new w2 (.cells #[.int .i64 x.l, .int .u64 x.c, .int .i64 x.i] 24)))
  go_wp2
  obtain ⟨V, hV⟩ : ∃ V, w2.alloc (.cells #[.int .i64 x.l, .int .u64 x.c, .int .i64 x.i] 24) = V := ⟨_, rfl⟩
  rw [hV] at D X ⊢
  clear hV
  have HV := Lib.hid (show MaS w cur high x w2.heap.size V from ⟨D.out, X.out⟩)
  refine wp_region_held_drew (S := MaS w cur high x w2.heap.size) (by kernel_rfl) (HV.out.more ((Below.refl _ V).drew)) (fun hS0 => ?_)
  refine wpAnyH_take (i := 0) (oi := { dst := some 43, op := Go.Op.move (Go.Operand.tmp 11), type := 34, pos := "law.go:102", after := #[], guard := none }) (v := ?_) rfl (by kernel_rfl) (by kernel_rfl) (by kernel_rfl) (fun _ _ _ h => h) (Or.inl ⟨by rfl, ?_⟩) hS0 ?_
  rotate_left
  · (intro wq hSw; go_simp; try with_reducible rfl)
  try simp only [Act.put, List.setIfInBounds_toArray, List.set_cons_zero, List.set_cons_succ]
  refine wpAnyH_take (i := 1) (oi := { dst := some 44, op := Go.Op.load 24 (Go.Operand.tmp 3), type := 24, pos := "law.go:102", after := #[], guard := none }) (v := ?_) rfl (by kernel_rfl) (by kernel_rfl) (by kernel_rfl) (fun _ _ _ h => h) (Or.inl ⟨by rfl, ?_⟩) hS0 ?_
  rotate_left
  · (intro wq hSw; obtain ⟨y0, y1, y2⟩ := hSw.t.x0.lab; go_simp; try with_reducible rfl)
  try simp only [Act.put, List.setIfInBounds_toArray, List.set_cons_zero, List.set_cons_succ]
  refine wpAnyH_take (i := 4) (oi := { dst := some 47, op := Go.Op.move (Go.Operand.tmp 1), type := 34, pos := "law.go:102", after := #[], guard := none }) (v := ?_) rfl (by kernel_rfl) (by kernel_rfl) (by kernel_rfl) (fun _ _ _ h => h) (Or.inl ⟨by rfl, ?_⟩) hS0 ?_
  rotate_left
  · (intro wq hSw; go_simp; try with_reducible rfl)
  try simp only [Act.put, List.setIfInBounds_toArray, List.set_cons_zero, List.set_cons_succ]
  refine wpAnyH_take (i := 5) (oi := { dst := some 48, op := Go.Op.move (Go.Operand.tmp 9), type := 3, pos := "law.go:102", after := #[], guard := none }) (v := ?_) rfl (by kernel_rfl) (by kernel_rfl) (by kernel_rfl) (fun _ _ _ h => h) (Or.inl ⟨by rfl, ?_⟩) hS0 ?_
  rotate_left
  · (intro wq hSw; go_simp; try with_reducible rfl)
  try simp only [Act.put, List.setIfInBounds_toArray, List.set_cons_zero, List.set_cons_succ]
  refine wpAnyH_take (i := 6) (oi := { dst := some 49, op := Go.Op.slice 34 (Go.Operand.tmp 47) none (some (Go.Operand.tmp 48)) none, type := 34, pos := "law.go:102", after := #[{ on := 4, ground := Go.Ground.data }, { on := 5, ground := Go.Ground.data }], guard := none }) (v := ?_) rfl (by kernel_rfl) (by kernel_rfl) (by kernel_rfl) (fun _ _ _ h => h) (Or.inl ⟨by rfl, ?_⟩) hS0 ?_
  rotate_left
  · (intro wq hSw; go_simp; try with_reducible rfl)
  try simp only [Act.put, List.setIfInBounds_toArray, List.set_cons_zero, List.set_cons_succ]
  refine wpAnyH_ready (rs := [2]) (by kernel_rfl) (by simp) ?_
  refine AllReadyH.cons (o := { dst := some 45, op := Go.Op.buildSlice 34 1 #[(0, Go.Operand.tmp 44)], type := 34, pos := "law.go:102", after := #[{ on := 1, ground := Go.Ground.data }], guard := none }) rfl (fun K hK => ?_) AllReadyH.nil
  go_simp
  refine hK.out _ _ (MaS.more hS0 (Below.new _ _)) (fun hS1 => ?_)
  clear hK K
  try simp only [Act.put, List.setIfInBounds_toArray, List.set_cons_zero, List.set_cons_succ]
  have hB1 : Below V.heap.size V (V.alloc (.cells #[.int .i64 cur.l, .int .u64 cur.c, .int .i64 cur.i] 24)).drew := (Below.new V _).drew
  obtain ⟨WA, hWA⟩ : ∃ WA, (V.alloc (.cells #[.int .i64 cur.l, .int .u64 cur.c, .int .i64 cur.i] 24)).drew = WA := ⟨_, rfl⟩
  have hnew : ∀ ad, (some ⟨V.heap.size, 0, none⟩ : Option Addr) = some ad → ∀ j u, (labCells [cur])[j]? = some u → WA.cell? (ad.add j) = some u := hWA ▸ one_new V cur
  rw [hWA] at hB1 hS1 ⊢
  clear hWA
  refine wpAnyH_ready (rs := [3]) (by kernel_rfl) (by simp) ?_
  refine AllReadyH.cons (o := { dst := some 46, op := Go.Op.call { callee := Go.Callee.builtin Go.Builtin.append, args := #[Go.Operand.tmp 43, Go.Operand.tmp 45], argTypes := #[34, 34] }, type := 34, pos := "law.go:102", after := #[{ on := 0, ground := Go.Ground.data }, { on := 2, ground := Go.Ground.data }], guard := none }) rfl (fun K hK => ?_) AllReadyH.nil
  refine step_append_some rfl (.tmp 43) (.tmp 45) 34 rfl V.heap.size 24 i0 (.agg #[.int .i64 0, .int .u64 0, .int .i64 0]) 3 24 Tryd.underlying34 hi hz0 hz1 hz2 rfl (by decide) (.slice none 0 0) (0) ([]) (by simp [Act.eval]) (World.ownsRow_nil _ _ _ _) (some ⟨V.heap.size, 0, none⟩) (1) (1) (labCells [cur]) (by simp [Act.eval]) (rfl) (fun h => by cases h) (hnew) (labCells_one _) (by unfold maxLen; omega) (by omega) (hB1.size) ?_
  rintro v1 wB hA1
  have hB2 := app_below hB1 (World.ownsRow_nil _ _ _ _) hA1
  obtain ⟨v1a, v1c, rfl⟩ := rowG_slice hA1.1
  refine hK.out _ _ (HV.out.more hB2) (fun hS2 => ?_)
  clear hK K
  try simp only [Act.put, List.setIfInBounds_toArray, List.set_cons_zero, List.set_cons_succ]
  refine wpAnyH_ready (rs := [7]) (by kernel_rfl) (by simp) ?_
  refine AllReadyH.cons (o := { dst := some 50, op := Go.Op.call { callee := Go.Callee.builtin Go.Builtin.append, args := #[Go.Operand.tmp 46, Go.Operand.tmp 49], argTypes := #[34, 34] }, type := 34, pos := "law.go:102", after := #[{ on := 3, ground := Go.Ground.data }, { on := 6, ground := Go.Ground.data }, { on := 3, ground := Go.Ground.chain }], guard := none }) rfl (fun K hK => ?_) AllReadyH.nil
  refine step_append_some rfl (.tmp 46) (.tmp 49) 34 rfl V.heap.size 24 i0 (.agg #[.int .i64 0, .int .u64 0, .int .i64 0]) 3 24 Tryd.underlying34 hi hz0 hz1 hz2 rfl (by decide) (.slice v1a (0 + 1) v1c) (0 + 1) ([] ++ labCells [cur]) (by simp [Act.eval]) (hA1.1) (ao) (n) (cap) (labCells (ys.take n)) (by simp [Act.eval]) (HN.out.1) (HN.out.2.1) (labs_news (HN.out.2.2.1.below (below_more D.out.bel hB2))) (labCells_one _) (by have := HY.out.1; unfold maxLen; omega) (by have := HY.out.1; omega) (hB2.size) ?_
  rintro v2 wC hA2
  have hB3 := app_below hB2 hA1.1 hA2
  obtain ⟨v2a, v2c, rfl⟩ := rowG_slice hA2.1
  have hrow := hA2.1
  rw [HN.out.2.2.2.1, HN.out.2.2.2.2.1] at hrow
  rw [HN.out.2.2.2.1]
  have HR := Lib.hid (labs_row (zs := cur :: ys.take n) (by rw [HN.out.2.2.2.2.2.1]; exact hrow) HN.out.2.2.2.2.2.2.2)
  refine hK.out _ _ (HV.out.more hB3) (fun hS3 => ?_)
  clear hK K
  try simp only [Act.put, List.setIfInBounds_toArray, List.set_cons_zero, List.set_cons_succ]
  refine wpAnyH_take (i := 8) (oi := { dst := some 11, op := Go.Op.assign (Go.Operand.tmp 50), type := 34, pos := "law.go:102", after := #[{ on := 7, ground := Go.Ground.data }, { on := 7, ground := Go.Ground.chain }, { on := 0, ground := Go.Ground.phase }, { on := 1, ground := Go.Ground.phase }, { on := 2, ground := Go.Ground.phase }, { on := 3, ground := Go.Ground.phase }, { on := 4, ground := Go.Ground.phase }, { on := 5, ground := Go.Ground.phase }, { on := 6, ground := Go.Ground.phase }, { on := 7, ground := Go.Ground.phase }], guard := none }) (v := ?_) rfl (by kernel_rfl) (by kernel_rfl) (by kernel_rfl) (fun _ _ _ h => h) (Or.inl ⟨by rfl, ?_⟩) hS3 ?_
  rotate_left
  · (intro wq hSw; go_simp; try with_reducible rfl)
  try simp only [Act.put, List.setIfInBounds_toArray, List.set_cons_zero, List.set_cons_succ]
  refine wpAnyH_done (by kernel_rfl) ?_ _
  replace D := Lib.hid hS3.t
  replace X := Lib.hid hS3.f
  clear hS3 hS2 hS1 hS0 hA1 hA2 hB1 hB2 hB3 hnew hrow
  go_wp2_with (go_at_call 25; refine (Least_w HN.out.2.2.2.2.2.2.1 HR.out HL.out.1 HL.out.2 (HE.out.more D.out.bel)).mono ?_)
  rintro e w13 ⟨rfl, hb⟩
  replace D := Lib.hid (D.out.more hb)
  replace X := Lib.hid (X.out.more hb)
  clear hb HR
  have Y := Lib.hid (BoxL.new w13 x)
  replace D := Lib.hid (D.out.more (Below.new w13 (.cells #[.int .i64 x.l, .int .u64 x.c, .int .i64 x.i] 24)))
  replace X := Lib.hid (X.out.more (Below.new w13 (.cells #[.int .i64 x.l, .int .u64 x.c, .int .i64 x.i] 24)))
  obtain ⟨⟨p0, p1, p2⟩, ⟨q0, q1, q2⟩⟩ := D.out.cells
  obtain ⟨x0, x1, x2⟩ := X.out.lab
  obtain ⟨y0, y1, y2⟩ := Y.out.lab
  go_wp2
  go_ret
  exact ⟨rfl, D.out.bel⟩
set_option maxRecDepth 100000 in
set_option maxHeartbeats 4000000 in
theorem many_pe (H : Api) {cur high : Lab} {ao : Option Addr} {len cap : Nat} {zs : List Lab} {x : Lab} {n : Nat} {c : Int} (h1 : pathL cur (zs.take 30) high = (c, n, x)) (g1 : c ≠ 20) (g2 : n ≤ (zs.take 30).length) (g3 : toldE (cur :: (zs.take 30).take n) = 0) (g4 : toldJ Lab.bot (cur :: (zs.take 30).take n) = x) (k1 : n ≠ 0) (hu : x.under high = true) (k2 : c = 0) (k3 : n = (zs.take 30).length) (hc : cur.fits) (hh : high.fits) {w : World} (hI : LabsIn w ao len cap zs) (hs : Ce w) : Calls Tryd.prog 9 #[.agg #[.int .i64 cur.l, .int .u64 cur.c, .int .i64 cur.i], .slice ao len cap, .agg #[.int .i64 high.l, .int .u64 high.c, .int .i64 high.i]] w (BoolP true w) := by
  obtain ⟨hI1, hlen, hlc, hcm, hno⟩ := hI
  obtain ⟨ys, hys⟩ : ∃ ys, zs.take 30 = ys := ⟨_, rfl⟩
  have hyl : ys.length = min len 30 := by rw [← hys, List.length_take, hlen, Nat.min_comm]
  have hm : (if 30 < (len : Int) then 30 else (len : Int)) = (ys.length : Int) := by split <;> omega
  have hyc : ys.length ≤ cap := by omega
  have IL := Lib.hid (show Labs w.heap.size w (.slice ao ys.length cap) ys by rw [hyl, ← hys]; exact labs_take hI1 30)
  have hcm2 : cap ≤ 9223372036854775807 := by unfold maxLen at hcm; omega
  have HY := Lib.hid (And.intro (show ys.length ≤ 30 by omega) (And.intro hyc (And.intro hcm (show ∀ x ∈ ys, x.fits from IL.out.fits))))
  rw [hys] at h1 g2 g3 g4
  have hncap : n ≤ cap := Nat.le_trans g2 hyc
  have d0 : decide (c = 20) = false := decide_eq_false g1
  have d0b : (c == 20) = false := by simpa using g1
  have d1 : decide ((n : Int) < 0) = false := decide_eq_false (by omega)
  have d2 : decide ((ys.length : Int) < (n : Int)) = false := decide_eq_false (by omega)
  have d2n : decide (ys.length < n) = false := decide_eq_false (by omega)
  have d2p : ¬ (ys.length < n) := by omega
  have d2q : ¬ ((ys.length : Int) < (n : Int)) := by omega
  have d3 : (n : Int) ≤ (cap : Int) := by omega
  have hlt : (ys.take n).length = n := by rw [List.length_take]; omega
  obtain ⟨m, hm1⟩ : ∃ m, 0 + 1 + n = m := ⟨_, rfl⟩
  have IT : Labs w.heap.size w (.slice ao n cap) (ys.take n) := by have := labs_take IL.out n; rwa [Nat.min_eq_right g2] at this
  have HN := Lib.hid (And.intro (show (labCells (ys.take n)).length = n * 3 by rw [labCells_length, hlt]) (And.intro (show ao = none → n = 0 ∧ cap = 0 from fun e => by have := hno e; omega) (And.intro IT (And.intro hm1 (And.intro (show [] ++ labCells [cur] ++ labCells (ys.take n) = labCells (cur :: ys.take n) by simp [labCells]) (And.intro (show (cur :: ys.take n).length = m by rw [List.length_cons, hlt]; omega) (And.intro (show (cur :: ys.take n).length ≤ 1000 by rw [List.length_cons, hlt]; have := HY.out.1; omega) (show ∀ y ∈ cur :: ys.take n, y.fits from fun y hy => by
    rcases List.mem_cons.1 hy with rfl | hy
    · exact hc
    · exact IT.fits y hy))))))))
  have HL := Lib.hid (And.intro g4 g3)
  obtain ⟨i0, hi, hz0, hz1, hz2⟩ := info_parts infoLab
  have e1 := selfE x
  have e2 := selfEIn x
  rw [hys] at k3
  have f0 : ((n : Int) == 0) = false := by rw [beq_eq_false_iff_ne]; omega
  have f1 : (n == 0) = false := by rw [beq_eq_false_iff_ne]; exact k1
  have f2 : (c == 0) = true := by rw [beq_iff_eq]; exact k2
  have f3 : ((n : Int) == (ys.length : Int)) = true := by rw [beq_iff_eq]; omega
  have f4 : (n == ys.length) = true := by rw [beq_iff_eq]; exact k3
  have HU := Lib.hid hu
  have HX := Lib.hid (path_fits h1 hc IL.out.fits)
  have D := Lib.hid (Tv2.of w cur high)
  have HE := Lib.hid hs
  have HF := Lib.hid (And.intro hc hh)
  have HS1 := Lib.hid h1
  clear hs hc hh h1 hI1 hlen hys hyl hcm hlc hno g1 g2 g3 g4 hncap hlt IT hm1 k1 k2 k3 hu
  go_enter Tryd.func9, Tryd.ntmps9
  go_wp2_with (go_at_call 11; refine (shown_w H _ (HE.out.more D.out.bel)).mono ?_)
  rintro e w1 ⟨rfl, hb⟩
  replace D := Lib.hid (D.out.more hb)
  clear hb
  obtain ⟨⟨p0, p1, p2⟩, ⟨q0, q1, q2⟩⟩ := D.out.cells
  go_wp2_with (go_at_call 22; refine (H.path HF.out.1 HF.out.2 ((IL.out.below D.out.bel).mono D.out.bel.size) (Nat.le_trans HY.out.1 (by decide)) HY.out.2.1 HY.out.2.2.1 HS1.out (HE.out.more D.out.bel)).mono ?_)
  rintro e w2 ⟨rfl, hb⟩
  replace D := Lib.hid (D.out.more hb)
  clear hb p0 p1 p2 q0 q1 q2
  have X := Lib.hid (BoxL.new w2 x)
  replace D := Lib.hid (D.out.more (Below.new w2 (.cells #[.int .i64 x.l, .int .u64 x.c, .int .i64 x.i] 24)))
  go_wp2
  obtain ⟨V, hV⟩ : ∃ V, w2.alloc (.cells #[.int .i64 x.l, .int .u64 x.c, .int .i64 x.i] 24) = V := ⟨_, rfl⟩
  rw [hV] at D X ⊢
  clear hV
  have HV := Lib.hid (show MaS w cur high x w2.heap.size V from ⟨D.out, X.out⟩)
  refine wp_region_held_drew (S := MaS w cur high x w2.heap.size) (by kernel_rfl) (HV.out.more ((Below.refl _ V).drew)) (fun hS0 => ?_)
  refine wpAnyH_take (i := 0) (oi := { dst := some 43, op := Go.Op.move (Go.Operand.tmp 11), type := 34, pos := "law.go:102", after := #[], guard := none }) (v := ?_) rfl (by kernel_rfl) (by kernel_rfl) (by kernel_rfl) (fun _ _ _ h => h) (Or.inl ⟨by rfl, ?_⟩) hS0 ?_
  rotate_left
  · (intro wq hSw; go_simp; try with_reducible rfl)
  try simp only [Act.put, List.setIfInBounds_toArray, List.set_cons_zero, List.set_cons_succ]
  refine wpAnyH_take (i := 1) (oi := { dst := some 44, op := Go.Op.load 24 (Go.Operand.tmp 3), type := 24, pos := "law.go:102", after := #[], guard := none }) (v := ?_) rfl (by kernel_rfl) (by kernel_rfl) (by kernel_rfl) (fun _ _ _ h => h) (Or.inl ⟨by rfl, ?_⟩) hS0 ?_
  rotate_left
  · (intro wq hSw; obtain ⟨y0, y1, y2⟩ := hSw.t.x0.lab; go_simp; try with_reducible rfl)
  try simp only [Act.put, List.setIfInBounds_toArray, List.set_cons_zero, List.set_cons_succ]
  refine wpAnyH_take (i := 4) (oi := { dst := some 47, op := Go.Op.move (Go.Operand.tmp 1), type := 34, pos := "law.go:102", after := #[], guard := none }) (v := ?_) rfl (by kernel_rfl) (by kernel_rfl) (by kernel_rfl) (fun _ _ _ h => h) (Or.inl ⟨by rfl, ?_⟩) hS0 ?_
  rotate_left
  · (intro wq hSw; go_simp; try with_reducible rfl)
  try simp only [Act.put, List.setIfInBounds_toArray, List.set_cons_zero, List.set_cons_succ]
  refine wpAnyH_take (i := 5) (oi := { dst := some 48, op := Go.Op.move (Go.Operand.tmp 9), type := 3, pos := "law.go:102", after := #[], guard := none }) (v := ?_) rfl (by kernel_rfl) (by kernel_rfl) (by kernel_rfl) (fun _ _ _ h => h) (Or.inl ⟨by rfl, ?_⟩) hS0 ?_
  rotate_left
  · (intro wq hSw; go_simp; try with_reducible rfl)
  try simp only [Act.put, List.setIfInBounds_toArray, List.set_cons_zero, List.set_cons_succ]
  refine wpAnyH_take (i := 6) (oi := { dst := some 49, op := Go.Op.slice 34 (Go.Operand.tmp 47) none (some (Go.Operand.tmp 48)) none, type := 34, pos := "law.go:102", after := #[{ on := 4, ground := Go.Ground.data }, { on := 5, ground := Go.Ground.data }], guard := none }) (v := ?_) rfl (by kernel_rfl) (by kernel_rfl) (by kernel_rfl) (fun _ _ _ h => h) (Or.inl ⟨by rfl, ?_⟩) hS0 ?_
  rotate_left
  · (intro wq hSw; go_simp; try with_reducible rfl)
  try simp only [Act.put, List.setIfInBounds_toArray, List.set_cons_zero, List.set_cons_succ]
  refine wpAnyH_ready (rs := [2]) (by kernel_rfl) (by simp) ?_
  refine AllReadyH.cons (o := { dst := some 45, op := Go.Op.buildSlice 34 1 #[(0, Go.Operand.tmp 44)], type := 34, pos := "law.go:102", after := #[{ on := 1, ground := Go.Ground.data }], guard := none }) rfl (fun K hK => ?_) AllReadyH.nil
  go_simp
  refine hK.out _ _ (MaS.more hS0 (Below.new _ _)) (fun hS1 => ?_)
  clear hK K
  try simp only [Act.put, List.setIfInBounds_toArray, List.set_cons_zero, List.set_cons_succ]
  have hB1 : Below V.heap.size V (V.alloc (.cells #[.int .i64 cur.l, .int .u64 cur.c, .int .i64 cur.i] 24)).drew := (Below.new V _).drew
  obtain ⟨WA, hWA⟩ : ∃ WA, (V.alloc (.cells #[.int .i64 cur.l, .int .u64 cur.c, .int .i64 cur.i] 24)).drew = WA := ⟨_, rfl⟩
  have hnew : ∀ ad, (some ⟨V.heap.size, 0, none⟩ : Option Addr) = some ad → ∀ j u, (labCells [cur])[j]? = some u → WA.cell? (ad.add j) = some u := hWA ▸ one_new V cur
  rw [hWA] at hB1 hS1 ⊢
  clear hWA
  refine wpAnyH_ready (rs := [3]) (by kernel_rfl) (by simp) ?_
  refine AllReadyH.cons (o := { dst := some 46, op := Go.Op.call { callee := Go.Callee.builtin Go.Builtin.append, args := #[Go.Operand.tmp 43, Go.Operand.tmp 45], argTypes := #[34, 34] }, type := 34, pos := "law.go:102", after := #[{ on := 0, ground := Go.Ground.data }, { on := 2, ground := Go.Ground.data }], guard := none }) rfl (fun K hK => ?_) AllReadyH.nil
  refine step_append_some rfl (.tmp 43) (.tmp 45) 34 rfl V.heap.size 24 i0 (.agg #[.int .i64 0, .int .u64 0, .int .i64 0]) 3 24 Tryd.underlying34 hi hz0 hz1 hz2 rfl (by decide) (.slice none 0 0) (0) ([]) (by simp [Act.eval]) (World.ownsRow_nil _ _ _ _) (some ⟨V.heap.size, 0, none⟩) (1) (1) (labCells [cur]) (by simp [Act.eval]) (rfl) (fun h => by cases h) (hnew) (labCells_one _) (by unfold maxLen; omega) (by omega) (hB1.size) ?_
  rintro v1 wB hA1
  have hB2 := app_below hB1 (World.ownsRow_nil _ _ _ _) hA1
  obtain ⟨v1a, v1c, rfl⟩ := rowG_slice hA1.1
  refine hK.out _ _ (HV.out.more hB2) (fun hS2 => ?_)
  clear hK K
  try simp only [Act.put, List.setIfInBounds_toArray, List.set_cons_zero, List.set_cons_succ]
  refine wpAnyH_ready (rs := [7]) (by kernel_rfl) (by simp) ?_
  refine AllReadyH.cons (o := { dst := some 50, op := Go.Op.call { callee := Go.Callee.builtin Go.Builtin.append, args := #[Go.Operand.tmp 46, Go.Operand.tmp 49], argTypes := #[34, 34] }, type := 34, pos := "law.go:102", after := #[{ on := 3, ground := Go.Ground.data }, { on := 6, ground := Go.Ground.data }, { on := 3, ground := Go.Ground.chain }], guard := none }) rfl (fun K hK => ?_) AllReadyH.nil
  refine step_append_some rfl (.tmp 46) (.tmp 49) 34 rfl V.heap.size 24 i0 (.agg #[.int .i64 0, .int .u64 0, .int .i64 0]) 3 24 Tryd.underlying34 hi hz0 hz1 hz2 rfl (by decide) (.slice v1a (0 + 1) v1c) (0 + 1) ([] ++ labCells [cur]) (by simp [Act.eval]) (hA1.1) (ao) (n) (cap) (labCells (ys.take n)) (by simp [Act.eval]) (HN.out.1) (HN.out.2.1) (labs_news (HN.out.2.2.1.below (below_more D.out.bel hB2))) (labCells_one _) (by have := HY.out.1; unfold maxLen; omega) (by have := HY.out.1; omega) (hB2.size) ?_
  rintro v2 wC hA2
  have hB3 := app_below hB2 hA1.1 hA2
  obtain ⟨v2a, v2c, rfl⟩ := rowG_slice hA2.1
  have hrow := hA2.1
  rw [HN.out.2.2.2.1, HN.out.2.2.2.2.1] at hrow
  rw [HN.out.2.2.2.1]
  have HR := Lib.hid (labs_row (zs := cur :: ys.take n) (by rw [HN.out.2.2.2.2.2.1]; exact hrow) HN.out.2.2.2.2.2.2.2)
  refine hK.out _ _ (HV.out.more hB3) (fun hS3 => ?_)
  clear hK K
  try simp only [Act.put, List.setIfInBounds_toArray, List.set_cons_zero, List.set_cons_succ]
  refine wpAnyH_take (i := 8) (oi := { dst := some 11, op := Go.Op.assign (Go.Operand.tmp 50), type := 34, pos := "law.go:102", after := #[{ on := 7, ground := Go.Ground.data }, { on := 7, ground := Go.Ground.chain }, { on := 0, ground := Go.Ground.phase }, { on := 1, ground := Go.Ground.phase }, { on := 2, ground := Go.Ground.phase }, { on := 3, ground := Go.Ground.phase }, { on := 4, ground := Go.Ground.phase }, { on := 5, ground := Go.Ground.phase }, { on := 6, ground := Go.Ground.phase }, { on := 7, ground := Go.Ground.phase }], guard := none }) (v := ?_) rfl (by kernel_rfl) (by kernel_rfl) (by kernel_rfl) (fun _ _ _ h => h) (Or.inl ⟨by rfl, ?_⟩) hS3 ?_
  rotate_left
  · (intro wq hSw; go_simp; try with_reducible rfl)
  try simp only [Act.put, List.setIfInBounds_toArray, List.set_cons_zero, List.set_cons_succ]
  refine wpAnyH_done (by kernel_rfl) ?_ _
  replace D := Lib.hid hS3.t
  replace X := Lib.hid hS3.f
  clear hS3 hS2 hS1 hS0 hA1 hA2 hB1 hB2 hB3 hnew hrow
  go_wp2_with (go_at_call 25; refine (Least_w HN.out.2.2.2.2.2.2.1 HR.out HL.out.1 HL.out.2 (HE.out.more D.out.bel)).mono ?_)
  rintro e w13 ⟨rfl, hb⟩
  replace D := Lib.hid (D.out.more hb)
  replace X := Lib.hid (X.out.more hb)
  clear hb HR
  have Y := Lib.hid (BoxL.new w13 x)
  replace D := Lib.hid (D.out.more (Below.new w13 (.cells #[.int .i64 x.l, .int .u64 x.c, .int .i64 x.i] 24)))
  replace X := Lib.hid (X.out.more (Below.new w13 (.cells #[.int .i64 x.l, .int .u64 x.c, .int .i64 x.i] 24)))
  obtain ⟨⟨p0, p1, p2⟩, ⟨q0, q1, q2⟩⟩ := D.out.cells
  obtain ⟨x0, x1, x2⟩ := X.out.lab
  obtain ⟨y0, y1, y2⟩ := Y.out.lab
  go_wp2_with (go_at_call 24; refine (Under_w HX.out HF.out.2 HU.out).mono ?_)
  rintro e w14 ⟨rfl, hb⟩
  replace D := Lib.hid (D.out.more hb)
  clear hb p0 p1 p2 q0 q1 q2 x0 x1 x2 y0 y1 y2
  go_wp2
  go_ret
  exact ⟨rfl, D.out.bel⟩
set_option maxRecDepth 100000 in
set_option maxHeartbeats 4000000 in
theorem many_pn (H : Api) {cur high : Lab} {ao : Option Addr} {len cap : Nat} {zs : List Lab} {x : Lab} {n : Nat} {c : Int} (h1 : pathL cur (zs.take 30) high = (c, n, x)) (g1 : c ≠ 20) (g2 : n ≤ (zs.take 30).length) (g3 : toldE (cur :: (zs.take 30).take n) = 0) (g4 : toldJ Lab.bot (cur :: (zs.take 30).take n) = x) (k1 : n ≠ 0) (hu : x.under high = true) (k2 : c ≠ 0) (k3 : n ≠ (zs.take 30).length) (hc : cur.fits) (hh : high.fits) {w : World} (hI : LabsIn w ao len cap zs) (hs : Ce w) : Calls Tryd.prog 9 #[.agg #[.int .i64 cur.l, .int .u64 cur.c, .int .i64 cur.i], .slice ao len cap, .agg #[.int .i64 high.l, .int .u64 high.c, .int .i64 high.i]] w (BoolP true w) := by
  obtain ⟨hI1, hlen, hlc, hcm, hno⟩ := hI
  obtain ⟨ys, hys⟩ : ∃ ys, zs.take 30 = ys := ⟨_, rfl⟩
  have hyl : ys.length = min len 30 := by rw [← hys, List.length_take, hlen, Nat.min_comm]
  have hm : (if 30 < (len : Int) then 30 else (len : Int)) = (ys.length : Int) := by split <;> omega
  have hyc : ys.length ≤ cap := by omega
  have IL := Lib.hid (show Labs w.heap.size w (.slice ao ys.length cap) ys by rw [hyl, ← hys]; exact labs_take hI1 30)
  have hcm2 : cap ≤ 9223372036854775807 := by unfold maxLen at hcm; omega
  have HY := Lib.hid (And.intro (show ys.length ≤ 30 by omega) (And.intro hyc (And.intro hcm (show ∀ x ∈ ys, x.fits from IL.out.fits))))
  rw [hys] at h1 g2 g3 g4
  have hncap : n ≤ cap := Nat.le_trans g2 hyc
  have d0 : decide (c = 20) = false := decide_eq_false g1
  have d0b : (c == 20) = false := by simpa using g1
  have d1 : decide ((n : Int) < 0) = false := decide_eq_false (by omega)
  have d2 : decide ((ys.length : Int) < (n : Int)) = false := decide_eq_false (by omega)
  have d2n : decide (ys.length < n) = false := decide_eq_false (by omega)
  have d2p : ¬ (ys.length < n) := by omega
  have d2q : ¬ ((ys.length : Int) < (n : Int)) := by omega
  have d3 : (n : Int) ≤ (cap : Int) := by omega
  have hlt : (ys.take n).length = n := by rw [List.length_take]; omega
  obtain ⟨m, hm1⟩ : ∃ m, 0 + 1 + n = m := ⟨_, rfl⟩
  have IT : Labs w.heap.size w (.slice ao n cap) (ys.take n) := by have := labs_take IL.out n; rwa [Nat.min_eq_right g2] at this
  have HN := Lib.hid (And.intro (show (labCells (ys.take n)).length = n * 3 by rw [labCells_length, hlt]) (And.intro (show ao = none → n = 0 ∧ cap = 0 from fun e => by have := hno e; omega) (And.intro IT (And.intro hm1 (And.intro (show [] ++ labCells [cur] ++ labCells (ys.take n) = labCells (cur :: ys.take n) by simp [labCells]) (And.intro (show (cur :: ys.take n).length = m by rw [List.length_cons, hlt]; omega) (And.intro (show (cur :: ys.take n).length ≤ 1000 by rw [List.length_cons, hlt]; have := HY.out.1; omega) (show ∀ y ∈ cur :: ys.take n, y.fits from fun y hy => by
    rcases List.mem_cons.1 hy with rfl | hy
    · exact hc
    · exact IT.fits y hy))))))))
  have HL := Lib.hid (And.intro g4 g3)
  obtain ⟨i0, hi, hz0, hz1, hz2⟩ := info_parts infoLab
  have e1 := selfE x
  have e2 := selfEIn x
  rw [hys] at k3
  have f0 : ((n : Int) == 0) = false := by rw [beq_eq_false_iff_ne]; omega
  have f1 : (n == 0) = false := by rw [beq_eq_false_iff_ne]; exact k1
  have f2 : (c == 0) = false := by rw [beq_eq_false_iff_ne]; exact k2
  have f3 : ((n : Int) == (ys.length : Int)) = false := by rw [beq_eq_false_iff_ne]; omega
  have f4 : (n == ys.length) = false := by rw [beq_eq_false_iff_ne]; exact k3
  have HU := Lib.hid hu
  have HX := Lib.hid (path_fits h1 hc IL.out.fits)
  have D := Lib.hid (Tv2.of w cur high)
  have HE := Lib.hid hs
  have HF := Lib.hid (And.intro hc hh)
  have HS1 := Lib.hid h1
  clear hs hc hh h1 hI1 hlen hys hyl hcm hlc hno g1 g2 g3 g4 hncap hlt IT hm1 k1 k2 k3 hu
  go_enter Tryd.func9, Tryd.ntmps9
  go_wp2_with (go_at_call 11; refine (shown_w H _ (HE.out.more D.out.bel)).mono ?_)
  rintro e w1 ⟨rfl, hb⟩
  replace D := Lib.hid (D.out.more hb)
  clear hb
  obtain ⟨⟨p0, p1, p2⟩, ⟨q0, q1, q2⟩⟩ := D.out.cells
  go_wp2_with (go_at_call 22; refine (H.path HF.out.1 HF.out.2 ((IL.out.below D.out.bel).mono D.out.bel.size) (Nat.le_trans HY.out.1 (by decide)) HY.out.2.1 HY.out.2.2.1 HS1.out (HE.out.more D.out.bel)).mono ?_)
  rintro e w2 ⟨rfl, hb⟩
  replace D := Lib.hid (D.out.more hb)
  clear hb p0 p1 p2 q0 q1 q2
  have X := Lib.hid (BoxL.new w2 x)
  replace D := Lib.hid (D.out.more (Below.new w2 (.cells #[.int .i64 x.l, .int .u64 x.c, .int .i64 x.i] 24)))
  go_wp2
  obtain ⟨V, hV⟩ : ∃ V, w2.alloc (.cells #[.int .i64 x.l, .int .u64 x.c, .int .i64 x.i] 24) = V := ⟨_, rfl⟩
  rw [hV] at D X ⊢
  clear hV
  have HV := Lib.hid (show MaS w cur high x w2.heap.size V from ⟨D.out, X.out⟩)
  refine wp_region_held_drew (S := MaS w cur high x w2.heap.size) (by kernel_rfl) (HV.out.more ((Below.refl _ V).drew)) (fun hS0 => ?_)
  refine wpAnyH_take (i := 0) (oi := { dst := some 43, op := Go.Op.move (Go.Operand.tmp 11), type := 34, pos := "law.go:102", after := #[], guard := none }) (v := ?_) rfl (by kernel_rfl) (by kernel_rfl) (by kernel_rfl) (fun _ _ _ h => h) (Or.inl ⟨by rfl, ?_⟩) hS0 ?_
  rotate_left
  · (intro wq hSw; go_simp; try with_reducible rfl)
  try simp only [Act.put, List.setIfInBounds_toArray, List.set_cons_zero, List.set_cons_succ]
  refine wpAnyH_take (i := 1) (oi := { dst := some 44, op := Go.Op.load 24 (Go.Operand.tmp 3), type := 24, pos := "law.go:102", after := #[], guard := none }) (v := ?_) rfl (by kernel_rfl) (by kernel_rfl) (by kernel_rfl) (fun _ _ _ h => h) (Or.inl ⟨by rfl, ?_⟩) hS0 ?_
  rotate_left
  · (intro wq hSw; obtain ⟨y0, y1, y2⟩ := hSw.t.x0.lab; go_simp; try with_reducible rfl)
  try simp only [Act.put, List.setIfInBounds_toArray, List.set_cons_zero, List.set_cons_succ]
  refine wpAnyH_take (i := 4) (oi := { dst := some 47, op := Go.Op.move (Go.Operand.tmp 1), type := 34, pos := "law.go:102", after := #[], guard := none }) (v := ?_) rfl (by kernel_rfl) (by kernel_rfl) (by kernel_rfl) (fun _ _ _ h => h) (Or.inl ⟨by rfl, ?_⟩) hS0 ?_
  rotate_left
  · (intro wq hSw; go_simp; try with_reducible rfl)
  try simp only [Act.put, List.setIfInBounds_toArray, List.set_cons_zero, List.set_cons_succ]
  refine wpAnyH_take (i := 5) (oi := { dst := some 48, op := Go.Op.move (Go.Operand.tmp 9), type := 3, pos := "law.go:102", after := #[], guard := none }) (v := ?_) rfl (by kernel_rfl) (by kernel_rfl) (by kernel_rfl) (fun _ _ _ h => h) (Or.inl ⟨by rfl, ?_⟩) hS0 ?_
  rotate_left
  · (intro wq hSw; go_simp; try with_reducible rfl)
  try simp only [Act.put, List.setIfInBounds_toArray, List.set_cons_zero, List.set_cons_succ]
  refine wpAnyH_take (i := 6) (oi := { dst := some 49, op := Go.Op.slice 34 (Go.Operand.tmp 47) none (some (Go.Operand.tmp 48)) none, type := 34, pos := "law.go:102", after := #[{ on := 4, ground := Go.Ground.data }, { on := 5, ground := Go.Ground.data }], guard := none }) (v := ?_) rfl (by kernel_rfl) (by kernel_rfl) (by kernel_rfl) (fun _ _ _ h => h) (Or.inl ⟨by rfl, ?_⟩) hS0 ?_
  rotate_left
  · (intro wq hSw; go_simp; try with_reducible rfl)
  try simp only [Act.put, List.setIfInBounds_toArray, List.set_cons_zero, List.set_cons_succ]
  refine wpAnyH_ready (rs := [2]) (by kernel_rfl) (by simp) ?_
  refine AllReadyH.cons (o := { dst := some 45, op := Go.Op.buildSlice 34 1 #[(0, Go.Operand.tmp 44)], type := 34, pos := "law.go:102", after := #[{ on := 1, ground := Go.Ground.data }], guard := none }) rfl (fun K hK => ?_) AllReadyH.nil
  go_simp
  refine hK.out _ _ (MaS.more hS0 (Below.new _ _)) (fun hS1 => ?_)
  clear hK K
  try simp only [Act.put, List.setIfInBounds_toArray, List.set_cons_zero, List.set_cons_succ]
  have hB1 : Below V.heap.size V (V.alloc (.cells #[.int .i64 cur.l, .int .u64 cur.c, .int .i64 cur.i] 24)).drew := (Below.new V _).drew
  obtain ⟨WA, hWA⟩ : ∃ WA, (V.alloc (.cells #[.int .i64 cur.l, .int .u64 cur.c, .int .i64 cur.i] 24)).drew = WA := ⟨_, rfl⟩
  have hnew : ∀ ad, (some ⟨V.heap.size, 0, none⟩ : Option Addr) = some ad → ∀ j u, (labCells [cur])[j]? = some u → WA.cell? (ad.add j) = some u := hWA ▸ one_new V cur
  rw [hWA] at hB1 hS1 ⊢
  clear hWA
  refine wpAnyH_ready (rs := [3]) (by kernel_rfl) (by simp) ?_
  refine AllReadyH.cons (o := { dst := some 46, op := Go.Op.call { callee := Go.Callee.builtin Go.Builtin.append, args := #[Go.Operand.tmp 43, Go.Operand.tmp 45], argTypes := #[34, 34] }, type := 34, pos := "law.go:102", after := #[{ on := 0, ground := Go.Ground.data }, { on := 2, ground := Go.Ground.data }], guard := none }) rfl (fun K hK => ?_) AllReadyH.nil
  refine step_append_some rfl (.tmp 43) (.tmp 45) 34 rfl V.heap.size 24 i0 (.agg #[.int .i64 0, .int .u64 0, .int .i64 0]) 3 24 Tryd.underlying34 hi hz0 hz1 hz2 rfl (by decide) (.slice none 0 0) (0) ([]) (by simp [Act.eval]) (World.ownsRow_nil _ _ _ _) (some ⟨V.heap.size, 0, none⟩) (1) (1) (labCells [cur]) (by simp [Act.eval]) (rfl) (fun h => by cases h) (hnew) (labCells_one _) (by unfold maxLen; omega) (by omega) (hB1.size) ?_
  rintro v1 wB hA1
  have hB2 := app_below hB1 (World.ownsRow_nil _ _ _ _) hA1
  obtain ⟨v1a, v1c, rfl⟩ := rowG_slice hA1.1
  refine hK.out _ _ (HV.out.more hB2) (fun hS2 => ?_)
  clear hK K
  try simp only [Act.put, List.setIfInBounds_toArray, List.set_cons_zero, List.set_cons_succ]
  refine wpAnyH_ready (rs := [7]) (by kernel_rfl) (by simp) ?_
  refine AllReadyH.cons (o := { dst := some 50, op := Go.Op.call { callee := Go.Callee.builtin Go.Builtin.append, args := #[Go.Operand.tmp 46, Go.Operand.tmp 49], argTypes := #[34, 34] }, type := 34, pos := "law.go:102", after := #[{ on := 3, ground := Go.Ground.data }, { on := 6, ground := Go.Ground.data }, { on := 3, ground := Go.Ground.chain }], guard := none }) rfl (fun K hK => ?_) AllReadyH.nil
  refine step_append_some rfl (.tmp 46) (.tmp 49) 34 rfl V.heap.size 24 i0 (.agg #[.int .i64 0, .int .u64 0, .int .i64 0]) 3 24 Tryd.underlying34 hi hz0 hz1 hz2 rfl (by decide) (.slice v1a (0 + 1) v1c) (0 + 1) ([] ++ labCells [cur]) (by simp [Act.eval]) (hA1.1) (ao) (n) (cap) (labCells (ys.take n)) (by simp [Act.eval]) (HN.out.1) (HN.out.2.1) (labs_news (HN.out.2.2.1.below (below_more D.out.bel hB2))) (labCells_one _) (by have := HY.out.1; unfold maxLen; omega) (by have := HY.out.1; omega) (hB2.size) ?_
  rintro v2 wC hA2
  have hB3 := app_below hB2 hA1.1 hA2
  obtain ⟨v2a, v2c, rfl⟩ := rowG_slice hA2.1
  have hrow := hA2.1
  rw [HN.out.2.2.2.1, HN.out.2.2.2.2.1] at hrow
  rw [HN.out.2.2.2.1]
  have HR := Lib.hid (labs_row (zs := cur :: ys.take n) (by rw [HN.out.2.2.2.2.2.1]; exact hrow) HN.out.2.2.2.2.2.2.2)
  refine hK.out _ _ (HV.out.more hB3) (fun hS3 => ?_)
  clear hK K
  try simp only [Act.put, List.setIfInBounds_toArray, List.set_cons_zero, List.set_cons_succ]
  refine wpAnyH_take (i := 8) (oi := { dst := some 11, op := Go.Op.assign (Go.Operand.tmp 50), type := 34, pos := "law.go:102", after := #[{ on := 7, ground := Go.Ground.data }, { on := 7, ground := Go.Ground.chain }, { on := 0, ground := Go.Ground.phase }, { on := 1, ground := Go.Ground.phase }, { on := 2, ground := Go.Ground.phase }, { on := 3, ground := Go.Ground.phase }, { on := 4, ground := Go.Ground.phase }, { on := 5, ground := Go.Ground.phase }, { on := 6, ground := Go.Ground.phase }, { on := 7, ground := Go.Ground.phase }], guard := none }) (v := ?_) rfl (by kernel_rfl) (by kernel_rfl) (by kernel_rfl) (fun _ _ _ h => h) (Or.inl ⟨by rfl, ?_⟩) hS3 ?_
  rotate_left
  · (intro wq hSw; go_simp; try with_reducible rfl)
  try simp only [Act.put, List.setIfInBounds_toArray, List.set_cons_zero, List.set_cons_succ]
  refine wpAnyH_done (by kernel_rfl) ?_ _
  replace D := Lib.hid hS3.t
  replace X := Lib.hid hS3.f
  clear hS3 hS2 hS1 hS0 hA1 hA2 hB1 hB2 hB3 hnew hrow
  go_wp2_with (go_at_call 25; refine (Least_w HN.out.2.2.2.2.2.2.1 HR.out HL.out.1 HL.out.2 (HE.out.more D.out.bel)).mono ?_)
  rintro e w13 ⟨rfl, hb⟩
  replace D := Lib.hid (D.out.more hb)
  replace X := Lib.hid (X.out.more hb)
  clear hb HR
  have Y := Lib.hid (BoxL.new w13 x)
  replace D := Lib.hid (D.out.more (Below.new w13 (.cells #[.int .i64 x.l, .int .u64 x.c, .int .i64 x.i] 24)))
  replace X := Lib.hid (X.out.more (Below.new w13 (.cells #[.int .i64 x.l, .int .u64 x.c, .int .i64 x.i] 24)))
  obtain ⟨⟨p0, p1, p2⟩, ⟨q0, q1, q2⟩⟩ := D.out.cells
  obtain ⟨x0, x1, x2⟩ := X.out.lab
  obtain ⟨y0, y1, y2⟩ := Y.out.lab
  go_wp2_with (go_at_call 24; refine (Under_w HX.out HF.out.2 HU.out).mono ?_)
  rintro e w14 ⟨rfl, hb⟩
  replace D := Lib.hid (D.out.more hb)
  clear hb p0 p1 p2 q0 q1 q2 x0 x1 x2 y0 y1 y2
  go_wp2
  go_ret
  exact ⟨rfl, D.out.bel⟩
theorem ceilingMany_w (H : Api) (cur high : Lab) {ao : Option Addr} {len cap : Nat} {zs : List Lab} (hc : cur.fits) (hh : high.fits) (w : World) (hI : LabsIn w ao len cap zs) (hs : Ce w) : Calls Tryd.prog 9 #[.agg #[.int .i64 cur.l, .int .u64 cur.c, .int .i64 cur.i], .slice ao len cap, .agg #[.int .i64 high.l, .int .u64 high.c, .int .i64 high.i]] w (BoolP true w) := by
  obtain ⟨⟨c, n, x⟩, h1⟩ : ∃ x, pathL cur (zs.take 30) high = x := ⟨_, rfl⟩
  rcases path_says h1 with ⟨rfl, rfl, rfl⟩ | ⟨g1, g2, g3, g4, g5, g6⟩
  · exact many_bad H h1 hc hh hI hs
  · by_cases k1 : n = 0
    · by_cases k2 : c = 0
      · exact many_ze H h1 g1 g2 g3 g4 k1 k2 (g6.1 k2) hc hh hI hs
      · exact many_zn H h1 g1 g2 g3 g4 k1 k2 (fun e => k2 (g6.2 e)) hc hh hI hs
    · have hu : x.under high = true := g5.resolve_left k1
      by_cases k2 : c = 0
      · exact many_pe H h1 g1 g2 g3 g4 k1 hu k2 (g6.1 k2) hc hh hI hs
      · exact many_pn H h1 g1 g2 g3 g4 k1 hu k2 (fun e => k2 (g6.2 e)) hc hh hI hs

end Go.Proofs.YtciohfeifihobaaDoor
