/- CeilingGains: what is missing is the least label whose join is that. -/
import Derived.Test.YtciohfeifihobaaDoorCwRises
namespace Go.Proofs.YtciohfeifihobaaDoor
open Go.RowKit Go.Proofs.Cats Go.Proofs.Cel Go.Shelf Go.Sort

/-- What the last region reads. -/
structure GwS (w : World) (cur a b g x z : Lab) (G X Y Z : Nat) (W : World) : Prop where
  t : Tv3 w W cur a b
  f1 : BoxL W G g
  f2 : BoxL W X x
  f3 : BoxL W Y x
  f4 : BoxL W Z z
theorem GwS.more {w W W' : World} {cur a b g x z : Lab} {G X Y Z : Nat} (k : GwS w cur a b g x z G X Y Z W) (hb : Below W.heap.size W W') : GwS w cur a b g x z G X Y Z W' := ⟨k.t.more hb, k.f1.more hb, k.f2.more hb, k.f3.more hb, k.f4.more hb⟩
set_option maxRecDepth 100000 in
set_option maxHeartbeats 8000000 in
theorem gains_bad (H : Api) {cur a b x : Lab} (h1 : gainL cur a = (20, Lab.zero)) (j1 : twoJ cur a = x) (j2 : twoE cur a = 20) (hc : cur.fits) (ha : a.fits) (hb : b.fits) {w : World} (hs : Ce w) : Calls Tryd.prog 8 #[.agg #[.int .i64 cur.l, .int .u64 cur.c, .int .i64 cur.i], .agg #[.int .i64 a.l, .int .u64 a.c, .int .i64 a.i], .agg #[.int .i64 b.l, .int .u64 b.c, .int .i64 b.i]] w (BoolP true w) := by
  have D := Lib.hid (Tv3.of w cur a b)
  have HE := Lib.hid hs
  have HF := Lib.hid (And.intro hc (And.intro ha hb))
  have HS1 := Lib.hid h1
  have HJ := Lib.hid (And.intro j1 j2)
  have e1 := zeroE
  have e2 := zeroEIn
  clear hs hc ha hb h1 j1 j2
  go_enter Tryd.func8, Tryd.ntmps8
  go_wp2_with (go_at_call 11; refine (shown_w H _ (HE.out.more D.out.bel)).mono ?_)
  rintro e w1 ⟨rfl, hb⟩
  replace D := Lib.hid (D.out.more hb)
  clear hb
  obtain ⟨⟨p0, p1, p2⟩, ⟨q0, q1, q2⟩, ⟨r0, r1, r2⟩⟩ := D.out.cells
  go_wp2_with (go_at_call 16; refine (H.gain HF.out.1 HF.out.2.1 HS1.out (HE.out.more D.out.bel)).mono ?_)
  rintro e w2 ⟨rfl, hb⟩
  replace D := Lib.hid (D.out.more hb)
  have G := Lib.hid (BoxL.new w2 Lab.zero)
  replace D := Lib.hid (D.out.more (Below.new w2 (.cells #[.int .i64 Lab.zero.l, .int .u64 Lab.zero.c, .int .i64 Lab.zero.i] 24)))
  clear hb p0 p1 p2 q0 q1 q2 r0 r1 r2
  obtain ⟨⟨p0, p1, p2⟩, ⟨q0, q1, q2⟩, ⟨r0, r1, r2⟩⟩ := D.out.cells
  go_wp2_with (go_at_call 26; refine (Join_w HF.out.1 HF.out.2.1 HJ.out.1 HJ.out.2 (HE.out.more D.out.bel)).mono ?_)
  rintro e w3 ⟨rfl, hb⟩
  replace D := Lib.hid (D.out.more hb)
  replace G := Lib.hid ((G.out.more hb).more (Below.new w3 (.cells #[.int .i64 x.l, .int .u64 x.c, .int .i64 x.i] 24)))
  have X := Lib.hid (BoxL.new w3 x)
  replace D := Lib.hid (D.out.more (Below.new w3 (.cells #[.int .i64 x.l, .int .u64 x.c, .int .i64 x.i] 24)))
  clear hb p0 p1 p2 q0 q1 q2 r0 r1 r2
  obtain ⟨g0, g1, g2⟩ := G.out.lab
  go_wp2
  go_ret
  exact ⟨rfl, D.out.bel⟩
theorem eqBot (g : Lab) {u : Bool} (h : g.same Lab.bot = u) (w : World) : (binOp .eql 24 (.agg #[.int .i64 g.l, .int .u64 g.c, .int .i64 g.i]) (.agg #[.int .i64 0, .int .u64 0, .int .i64 7])).run Tryd.prog w = .ok (.bool u) w := h ▸ eqL g Lab.bot w
theorem eqBotIn (g : Lab) {u : Bool} (h : g.same Lab.bot = u) (w : World) : (Op.equalIn 10000 24 (.agg #[.int .i64 g.l, .int .u64 g.c, .int .i64 g.i]) (.agg #[.int .i64 0, .int .u64 0, .int .i64 7])).run Tryd.prog w = .ok u w := h ▸ eqInL g Lab.bot w
theorem neB {a b : Lab} {u : Bool} (h : a.same b = u) (w : World) : (binOp .neq 24 (.agg #[.int .i64 a.l, .int .u64 a.c, .int .i64 a.i]) (.agg #[.int .i64 b.l, .int .u64 b.c, .int .i64 b.i])).run Tryd.prog w = .ok (.bool (!u)) w := h ▸ neqW a b w
theorem neBIn {a b : Lab} {u : Bool} (h : a.same b = u) (w : World) : (Op.equalIn 10000 24 (.agg #[.int .i64 a.l, .int .u64 a.c, .int .i64 a.i]) (.agg #[.int .i64 b.l, .int .u64 b.c, .int .i64 b.i])).run Tryd.prog w = .ok u w := h ▸ eqInL a b w
set_option maxRecDepth 100000 in
set_option maxHeartbeats 8000000 in
theorem gains_i (H : Api) {cur a b g x z : Lab} {u : Bool} {i : Int} (h1 : gainL cur a = (0, g)) (hg : g.fits) (j1 : twoJ cur a = x) (j2 : twoE cur a = 0) (j3 : twoJ cur g = x) (j4 : twoE cur g = 0) (j5 : twoJ cur b = z) (j6 : twoE cur b = i) (hv : a.under cur = u) (hgb : g.same Lab.bot = u) (hi : i ≠ 0) (hc : cur.fits) (ha : a.fits) (hb : b.fits) {w : World} (hs : Ce w) : Calls Tryd.prog 8 #[.agg #[.int .i64 cur.l, .int .u64 cur.c, .int .i64 cur.i], .agg #[.int .i64 a.l, .int .u64 a.c, .int .i64 a.i], .agg #[.int .i64 b.l, .int .u64 b.c, .int .i64 b.i]] w (BoolP true w) := by
  have D := Lib.hid (Tv3.of w cur a b)
  have HE := Lib.hid hs
  have HF := Lib.hid (And.intro hc (And.intro ha (And.intro hb (And.intro hg True.intro))))
  have HS1 := Lib.hid h1
  have HJ := Lib.hid (And.intro j1 j2)
  have HJ2 := Lib.hid (And.intro j3 j4)
  have HJ3 := Lib.hid (And.intro j5 j6)
  have HV := Lib.hid hv
  have e1 := selfE x
  have e2 := selfEIn x
  have e3 := eqBot g hgb
  have e4 := eqBotIn g hgb
  have hd : decide (i = 0) = false := decide_eq_false hi
  have hd2 : (i != 0) = true := by simpa using hi
  clear hs hc ha hb hg h1 j1 j2 j3 j4 j5 j6 hv hgb
  go_enter Tryd.func8, Tryd.ntmps8
  go_wp2_with (go_at_call 11; refine (shown_w H _ (HE.out.more D.out.bel)).mono ?_)
  rintro e w1 ⟨rfl, hb⟩
  replace D := Lib.hid (D.out.more hb)
  clear hb
  obtain ⟨⟨p0, p1, p2⟩, ⟨q0, q1, q2⟩, ⟨r0, r1, r2⟩⟩ := D.out.cells
  go_wp2_with (go_at_call 16; refine (H.gain HF.out.1 HF.out.2.1 HS1.out (HE.out.more D.out.bel)).mono ?_)
  rintro e w2 ⟨rfl, hb⟩
  replace D := Lib.hid (D.out.more hb)
  have G := Lib.hid (BoxL.new w2 g)
  replace D := Lib.hid (D.out.more (Below.new w2 (.cells #[.int .i64 g.l, .int .u64 g.c, .int .i64 g.i] 24)))
  clear hb p0 p1 p2 q0 q1 q2 r0 r1 r2
  obtain ⟨⟨p0, p1, p2⟩, ⟨q0, q1, q2⟩, ⟨r0, r1, r2⟩⟩ := D.out.cells
  go_wp2_with (go_at_call 26; refine (Join_w HF.out.1 HF.out.2.1 HJ.out.1 HJ.out.2 (HE.out.more D.out.bel)).mono ?_)
  rintro e w3 ⟨rfl, hb⟩
  replace D := Lib.hid (D.out.more hb)
  replace G := Lib.hid ((G.out.more hb).more (Below.new w3 (.cells #[.int .i64 x.l, .int .u64 x.c, .int .i64 x.i] 24)))
  have X := Lib.hid (BoxL.new w3 x)
  replace D := Lib.hid (D.out.more (Below.new w3 (.cells #[.int .i64 x.l, .int .u64 x.c, .int .i64 x.i] 24)))
  clear hb p0 p1 p2 q0 q1 q2 r0 r1 r2
  obtain ⟨⟨p0, p1, p2⟩, ⟨q0, q1, q2⟩, ⟨r0, r1, r2⟩⟩ := D.out.cells
  obtain ⟨g0, g1, g2⟩ := G.out.lab
  go_wp2_with (go_at_call 26; refine (Join_w HF.out.1 HF.out.2.2.2.1 HJ2.out.1 HJ2.out.2 (HE.out.more D.out.bel)).mono ?_)
  rintro e w4 ⟨rfl, hb⟩
  replace D := Lib.hid (D.out.more hb)
  replace G := Lib.hid ((G.out.more hb).more (Below.new w4 (.cells #[.int .i64 x.l, .int .u64 x.c, .int .i64 x.i] 24)))
  replace X := Lib.hid ((X.out.more hb).more (Below.new w4 (.cells #[.int .i64 x.l, .int .u64 x.c, .int .i64 x.i] 24)))
  have Y := Lib.hid (BoxL.new w4 x)
  replace D := Lib.hid (D.out.more (Below.new w4 (.cells #[.int .i64 x.l, .int .u64 x.c, .int .i64 x.i] 24)))
  clear hb p0 p1 p2 q0 q1 q2 r0 r1 r2 g0 g1 g2
  obtain ⟨⟨p0, p1, p2⟩, ⟨q0, q1, q2⟩, ⟨r0, r1, r2⟩⟩ := D.out.cells
  go_wp2_with (go_at_call 26; refine (Join_w HF.out.1 HF.out.2.2.1 HJ3.out.1 HJ3.out.2 (HE.out.more D.out.bel)).mono ?_)
  rintro e w5 ⟨rfl, hb⟩
  replace D := Lib.hid (D.out.more hb)
  replace G := Lib.hid ((G.out.more hb).more (Below.new w5 (.cells #[.int .i64 z.l, .int .u64 z.c, .int .i64 z.i] 24)))
  replace X := Lib.hid ((X.out.more hb).more (Below.new w5 (.cells #[.int .i64 z.l, .int .u64 z.c, .int .i64 z.i] 24)))
  replace Y := Lib.hid ((Y.out.more hb).more (Below.new w5 (.cells #[.int .i64 z.l, .int .u64 z.c, .int .i64 z.i] 24)))
  have Z := Lib.hid (BoxL.new w5 z)
  replace D := Lib.hid (D.out.more (Below.new w5 (.cells #[.int .i64 z.l, .int .u64 z.c, .int .i64 z.i] 24)))
  clear hb p0 p1 p2 q0 q1 q2 r0 r1 r2
  go_wp2
  obtain ⟨V, hV⟩ : ∃ V, w5.alloc (.cells #[.int .i64 z.l, .int .u64 z.c, .int .i64 z.i] 24) = V := ⟨_, rfl⟩
  rw [hV] at D G X Y Z ⊢
  clear hV
  refine wp_region_held_drew (S := GwS w cur a b g x z w2.heap.size w3.heap.size w4.heap.size w5.heap.size) (by kernel_rfl) (GwS.more ⟨D.out, G.out, X.out, Y.out, Z.out⟩ ((Below.refl _ V).drew)) (fun hS0 => ?_)
  refine wpAnyH_take (i := 0) (oi := { dst := some 54, op := Go.Op.move (Go.Operand.tmp 7), type := 4, pos := "law.go:87", after := #[], guard := none }) (v := ?_) rfl (by kernel_rfl) (by kernel_rfl) (by kernel_rfl) (fun _ _ _ h => h) (Or.inl ⟨by rfl, ?_⟩) hS0 ?_
  rotate_left
  · (intro wq hSw; go_simp; try with_reducible rfl)
  try simp only [Act.put, List.setIfInBounds_toArray, List.set_cons_zero, List.set_cons_succ]
  refine wpAnyH_take (i := 1) (oi := { dst := some 55, op := Go.Op.move (Go.Operand.tmp 54), type := 4, pos := "law.go:87", after := #[{ on := 0, ground := Go.Ground.data }], guard := none }) (v := ?_) rfl (by kernel_rfl) (by kernel_rfl) (by kernel_rfl) (fun _ _ _ h => h) (Or.inl ⟨by rfl, ?_⟩) hS0 ?_
  rotate_left
  · (intro wq hSw; go_simp; try with_reducible rfl)
  try simp only [Act.put, List.setIfInBounds_toArray, List.set_cons_zero, List.set_cons_succ]
  refine wpAnyH_take (i := 2) (oi := { dst := some 56, op := Go.Op.move (Go.Operand.tmp 11), type := 26, pos := "law.go:87", after := #[{ on := 1, ground := Go.Ground.guard }], guard := some (1, true) }) (v := ?_) rfl (by kernel_rfl) (by kernel_rfl) (by kernel_rfl) (fun _ _ _ h => h) (Or.inl ⟨by rfl, ?_⟩) hS0 ?_
  rotate_left
  · (intro wq hSw; go_simp; try with_reducible rfl)
  try simp only [Act.put, List.setIfInBounds_toArray, List.set_cons_zero, List.set_cons_succ]
  refine wpAnyH_take (i := 3) (oi := { dst := some 57, op := Go.Op.binOp Go.BinOp.eql 26 (Go.Operand.tmp 56) (Go.Operand.const (Go.Value.int Go.IntKind.i64 0)) 26, type := 4, pos := "law.go:87", after := #[{ on := 2, ground := Go.Ground.data }, { on := 1, ground := Go.Ground.guard }], guard := some (1, true) }) (v := ?_) rfl (by kernel_rfl) (by kernel_rfl) (by kernel_rfl) (fun _ _ _ h => h) (Or.inl ⟨by rfl, ?_⟩) hS0 ?_
  rotate_left
  · (intro wq hSw; go_simp; try with_reducible rfl)
  try simp only [Act.put, List.setIfInBounds_toArray, List.set_cons_zero, List.set_cons_succ]
  refine wpAnyH_take (i := 4) (oi := { dst := some 58, op := Go.Op.pick (Go.Operand.tmp 55) (Go.Operand.tmp 57) (Go.Operand.const (Go.Value.bool false)), type := 4, pos := "law.go:87", after := #[{ on := 1, ground := Go.Ground.data }, { on := 3, ground := Go.Ground.data }], guard := none }) (v := ?_) rfl (by kernel_rfl) (by kernel_rfl) (by kernel_rfl) (fun _ _ _ h => h) (Or.inl ⟨by rfl, ?_⟩) hS0 ?_
  rotate_left
  · (intro wq hSw; go_simp; try with_reducible rfl)
  try simp only [Act.put, List.setIfInBounds_toArray, List.set_cons_zero, List.set_cons_succ]
  refine wpAnyH_take (i := 5) (oi := { dst := some 59, op := Go.Op.move (Go.Operand.tmp 58), type := 4, pos := "law.go:87", after := #[{ on := 4, ground := Go.Ground.data }, { on := 1, ground := Go.Ground.chain }], guard := none }) (v := ?_) rfl (by kernel_rfl) (by kernel_rfl) (by kernel_rfl) (fun _ _ _ h => h) (Or.inl ⟨by rfl, ?_⟩) hS0 ?_
  rotate_left
  · (intro wq hSw; go_simp; try with_reducible rfl)
  try simp only [Act.put, List.setIfInBounds_toArray, List.set_cons_zero, List.set_cons_succ]
  refine wpAnyH_take (i := 6) (oi := { dst := some 60, op := Go.Op.move (Go.Operand.tmp 13), type := 26, pos := "law.go:87", after := #[{ on := 5, ground := Go.Ground.guard }], guard := some (5, true) }) (v := ?_) rfl (by kernel_rfl) (by kernel_rfl) (by kernel_rfl) (fun _ _ _ h => h) (Or.inl ⟨by rfl, ?_⟩) hS0 ?_
  rotate_left
  · (intro wq hSw; go_simp; try with_reducible rfl)
  try simp only [Act.put, List.setIfInBounds_toArray, List.set_cons_zero, List.set_cons_succ]
  refine wpAnyH_take (i := 7) (oi := { dst := some 61, op := Go.Op.binOp Go.BinOp.eql 26 (Go.Operand.tmp 60) (Go.Operand.const (Go.Value.int Go.IntKind.i64 0)) 26, type := 4, pos := "law.go:87", after := #[{ on := 6, ground := Go.Ground.data }, { on := 5, ground := Go.Ground.guard }], guard := some (5, true) }) (v := ?_) rfl (by kernel_rfl) (by kernel_rfl) (by kernel_rfl) (fun _ _ _ h => h) (Or.inl ⟨by rfl, ?_⟩) hS0 ?_
  rotate_left
  · (intro wq hSw; go_simp; try with_reducible rfl)
  try simp only [Act.put, List.setIfInBounds_toArray, List.set_cons_zero, List.set_cons_succ]
  refine wpAnyH_take (i := 8) (oi := { dst := some 62, op := Go.Op.pick (Go.Operand.tmp 59) (Go.Operand.tmp 61) (Go.Operand.const (Go.Value.bool false)), type := 4, pos := "law.go:87", after := #[{ on := 5, ground := Go.Ground.data }, { on := 7, ground := Go.Ground.data }], guard := none }) (v := ?_) rfl (by kernel_rfl) (by kernel_rfl) (by kernel_rfl) (fun _ _ _ h => h) (Or.inl ⟨by rfl, ?_⟩) hS0 ?_
  rotate_left
  · (intro wq hSw; go_simp; try with_reducible rfl)
  try simp only [Act.put, List.setIfInBounds_toArray, List.set_cons_zero, List.set_cons_succ]
  refine wpAnyH_take (i := 9) (oi := { dst := some 63, op := Go.Op.move (Go.Operand.tmp 62), type := 4, pos := "law.go:87", after := #[{ on := 8, ground := Go.Ground.data }, { on := 5, ground := Go.Ground.chain }], guard := none }) (v := ?_) rfl (by kernel_rfl) (by kernel_rfl) (by kernel_rfl) (fun _ _ _ h => h) (Or.inl ⟨by rfl, ?_⟩) hS0 ?_
  rotate_left
  · (intro wq hSw; go_simp; try with_reducible rfl)
  try simp only [Act.put, List.setIfInBounds_toArray, List.set_cons_zero, List.set_cons_succ]
  refine wpAnyH_take (i := 10) (oi := { dst := some 64, op := Go.Op.load 24 (Go.Operand.tmp 12), type := 24, pos := "law.go:87", after := #[{ on := 9, ground := Go.Ground.guard }], guard := some (9, true) }) (v := ?_) rfl (by kernel_rfl) (by kernel_rfl) (by kernel_rfl) (fun _ _ _ h => h) (Or.inl ⟨by rfl, ?_⟩) hS0 ?_
  rotate_left
  · (intro wq hSw; obtain ⟨y0, y1, y2⟩ := hSw.f3.lab; go_simp; try with_reducible rfl)
  try simp only [Act.put, List.setIfInBounds_toArray, List.set_cons_zero, List.set_cons_succ]
  refine wpAnyH_take (i := 11) (oi := { dst := some 65, op := Go.Op.load 24 (Go.Operand.tmp 10), type := 24, pos := "law.go:87", after := #[{ on := 9, ground := Go.Ground.guard }], guard := some (9, true) }) (v := ?_) rfl (by kernel_rfl) (by kernel_rfl) (by kernel_rfl) (fun _ _ _ h => h) (Or.inl ⟨by rfl, ?_⟩) hS0 ?_
  rotate_left
  · (intro wq hSw; obtain ⟨y0, y1, y2⟩ := hSw.f2.lab; go_simp; try with_reducible rfl)
  try simp only [Act.put, List.setIfInBounds_toArray, List.set_cons_zero, List.set_cons_succ]
  refine wpAnyH_take (i := 12) (oi := { dst := some 66, op := Go.Op.binOp Go.BinOp.eql 24 (Go.Operand.tmp 64) (Go.Operand.tmp 65) 24, type := 4, pos := "law.go:87", after := #[{ on := 10, ground := Go.Ground.data }, { on := 11, ground := Go.Ground.data }, { on := 9, ground := Go.Ground.guard }], guard := some (9, true) }) (v := ?_) rfl (by kernel_rfl) (by kernel_rfl) (by kernel_rfl) (fun _ _ _ h => h) (Or.inl ⟨by rfl, ?_⟩) hS0 ?_
  rotate_left
  · (intro wq hSw; go_simp; try with_reducible rfl)
  try simp only [Act.put, List.setIfInBounds_toArray, List.set_cons_zero, List.set_cons_succ]
  refine wpAnyH_take (i := 13) (oi := { dst := some 67, op := Go.Op.pick (Go.Operand.tmp 63) (Go.Operand.tmp 66) (Go.Operand.const (Go.Value.bool false)), type := 4, pos := "law.go:87", after := #[{ on := 9, ground := Go.Ground.data }, { on := 12, ground := Go.Ground.data }], guard := none }) (v := ?_) rfl (by kernel_rfl) (by kernel_rfl) (by kernel_rfl) (fun _ _ _ h => h) (Or.inl ⟨by rfl, ?_⟩) hS0 ?_
  rotate_left
  · (intro wq hSw; go_simp; try with_reducible rfl)
  try simp only [Act.put, List.setIfInBounds_toArray, List.set_cons_zero, List.set_cons_succ]
  refine wpAnyH_take (i := 14) (oi := { dst := some 68, op := Go.Op.move (Go.Operand.tmp 67), type := 4, pos := "law.go:87", after := #[{ on := 13, ground := Go.Ground.data }, { on := 9, ground := Go.Ground.chain }], guard := none }) (v := ?_) rfl (by kernel_rfl) (by kernel_rfl) (by kernel_rfl) (fun _ _ _ h => h) (Or.inl ⟨by rfl, ?_⟩) hS0 ?_
  rotate_left
  · (intro wq hSw; go_simp; try with_reducible rfl)
  try simp only [Act.put, List.setIfInBounds_toArray, List.set_cons_zero, List.set_cons_succ]
  refine wpAnyH_take (i := 15) (oi := { dst := some 69, op := Go.Op.move (Go.Operand.tmp 15), type := 26, pos := "law.go:87", after := #[{ on := 14, ground := Go.Ground.guard }], guard := some (14, true) }) (v := ?_) rfl (by kernel_rfl) (by kernel_rfl) (by kernel_rfl) (fun _ _ _ h => h) (Or.inl ⟨by rfl, ?_⟩) hS0 ?_
  rotate_left
  · (intro wq hSw; go_simp; try with_reducible rfl)
  try simp only [Act.put, List.setIfInBounds_toArray, List.set_cons_zero, List.set_cons_succ]
  refine wpAnyH_take (i := 16) (oi := { dst := some 70, op := Go.Op.binOp Go.BinOp.neq 26 (Go.Operand.tmp 69) (Go.Operand.const (Go.Value.int Go.IntKind.i64 0)) 26, type := 4, pos := "law.go:87", after := #[{ on := 15, ground := Go.Ground.data }, { on := 14, ground := Go.Ground.guard }], guard := some (14, true) }) (v := ?_) rfl (by kernel_rfl) (by kernel_rfl) (by kernel_rfl) (fun _ _ _ h => h) (Or.inl ⟨by rfl, ?_⟩) hS0 ?_
  rotate_left
  · (intro wq hSw; go_simp; try with_reducible rfl)
  try simp only [Act.put, List.setIfInBounds_toArray, List.set_cons_zero, List.set_cons_succ]
  refine wpAnyH_take (i := 17) (oi := { dst := some 71, op := Go.Op.move (Go.Operand.tmp 70), type := 4, pos := "law.go:87", after := #[{ on := 16, ground := Go.Ground.data }, { on := 14, ground := Go.Ground.chain }, { on := 14, ground := Go.Ground.guard }], guard := some (14, true) }) (v := ?_) rfl (by kernel_rfl) (by kernel_rfl) (by kernel_rfl) (fun _ _ _ h => h) (Or.inl ⟨by rfl, ?_⟩) hS0 ?_
  rotate_left
  · (intro wq hSw; go_simp; try with_reducible rfl)
  try simp only [Act.put, List.setIfInBounds_toArray, List.set_cons_zero, List.set_cons_succ]
  refine wpAnyH_take (i := 18) (oi := { dst := some 72, op := Go.Op.load 24 (Go.Operand.tmp 14), type := 24, pos := "law.go:87", after := #[{ on := 17, ground := Go.Ground.guard }], guard := some (17, false) }) (v := undef) rfl (by kernel_rfl) (by kernel_rfl) (by kernel_rfl) (fun _ _ _ h => h) (Or.inr ⟨by rfl, rfl⟩) hS0 ?_
  try simp only [Act.put, List.setIfInBounds_toArray, List.set_cons_zero, List.set_cons_succ]
  refine wpAnyH_take (i := 19) (oi := { dst := some 73, op := Go.Op.load 24 (Go.Operand.tmp 10), type := 24, pos := "law.go:87", after := #[{ on := 17, ground := Go.Ground.guard }], guard := some (17, false) }) (v := undef) rfl (by kernel_rfl) (by kernel_rfl) (by kernel_rfl) (fun _ _ _ h => h) (Or.inr ⟨by rfl, rfl⟩) hS0 ?_
  try simp only [Act.put, List.setIfInBounds_toArray, List.set_cons_zero, List.set_cons_succ]
  refine wpAnyH_take (i := 20) (oi := { dst := some 74, op := Go.Op.binOp Go.BinOp.neq 24 (Go.Operand.tmp 72) (Go.Operand.tmp 73) 24, type := 4, pos := "law.go:87", after := #[{ on := 18, ground := Go.Ground.data }, { on := 19, ground := Go.Ground.data }, { on := 17, ground := Go.Ground.guard }], guard := some (17, false) }) (v := undef) rfl (by kernel_rfl) (by kernel_rfl) (by kernel_rfl) (fun _ _ _ h => h) (Or.inr ⟨by rfl, rfl⟩) hS0 ?_
  try simp only [Act.put, List.setIfInBounds_toArray, List.set_cons_zero, List.set_cons_succ]
  refine wpAnyH_take (i := 21) (oi := { dst := some 75, op := Go.Op.pick (Go.Operand.tmp 71) (Go.Operand.const (Go.Value.bool true)) (Go.Operand.tmp 74), type := 4, pos := "law.go:87", after := #[{ on := 17, ground := Go.Ground.data }, { on := 20, ground := Go.Ground.data }, { on := 14, ground := Go.Ground.guard }], guard := some (14, true) }) (v := ?_) rfl (by kernel_rfl) (by kernel_rfl) (by kernel_rfl) (fun _ _ _ h => h) (Or.inl ⟨by rfl, ?_⟩) hS0 ?_
  rotate_left
  · (intro wq hSw; go_simp; try with_reducible rfl)
  try simp only [Act.put, List.setIfInBounds_toArray, List.set_cons_zero, List.set_cons_succ]
  refine wpAnyH_take (i := 22) (oi := { dst := some 76, op := Go.Op.move (Go.Operand.tmp 75), type := 4, pos := "law.go:87", after := #[{ on := 21, ground := Go.Ground.data }, { on := 17, ground := Go.Ground.chain }, { on := 14, ground := Go.Ground.guard }], guard := some (14, true) }) (v := ?_) rfl (by kernel_rfl) (by kernel_rfl) (by kernel_rfl) (fun _ _ _ h => h) (Or.inl ⟨by rfl, ?_⟩) hS0 ?_
  rotate_left
  · (intro wq hSw; go_simp; try with_reducible rfl)
  try simp only [Act.put, List.setIfInBounds_toArray, List.set_cons_zero, List.set_cons_succ]
  refine wpAnyH_take (i := 23) (oi := { dst := some 77, op := Go.Op.load 24 (Go.Operand.tmp 8), type := 24, pos := "law.go:87", after := #[{ on := 22, ground := Go.Ground.guard }], guard := some (22, false) }) (v := undef) rfl (by kernel_rfl) (by kernel_rfl) (by kernel_rfl) (fun _ _ _ h => h) (Or.inr ⟨by rfl, rfl⟩) hS0 ?_
  try simp only [Act.put, List.setIfInBounds_toArray, List.set_cons_zero, List.set_cons_succ]
  refine wpAnyH_take (i := 24) (oi := { dst := some 78, op := Go.Op.load 24 (Go.Operand.tmp 5), type := 24, pos := "law.go:87", after := #[{ on := 22, ground := Go.Ground.guard }], guard := some (22, false) }) (v := undef) rfl (by kernel_rfl) (by kernel_rfl) (by kernel_rfl) (fun _ _ _ h => h) (Or.inr ⟨by rfl, rfl⟩) hS0 ?_
  try simp only [Act.put, List.setIfInBounds_toArray, List.set_cons_zero, List.set_cons_succ]
  refine wpAnyH_ready (rs := [25]) (by kernel_rfl) (by simp) ?_
  refine AllReadyH.cons (o := { dst := some 79, op := Go.Op.call { callee := Go.Callee.value (Go.Operand.func 24), args := #[Go.Operand.tmp 77, Go.Operand.tmp 78], argTypes := #[24, 24] }, type := 4, pos := "law.go:87", after := #[{ on := 23, ground := Go.Ground.data }, { on := 24, ground := Go.Ground.data }, { on := 22, ground := Go.Ground.chain }, { on := 22, ground := Go.Ground.guard }], guard := some (22, false) }) rfl (fun K hK => ?_) AllReadyH.nil
  rw [if_neg (by intro h; cases h)]
  refine hK.out _ _ hS0 (fun hS1 => ?_)
  clear hK K
  try simp only [Act.put, List.setIfInBounds_toArray, List.set_cons_zero, List.set_cons_succ]
  refine wpAnyH_take (i := 26) (oi := { dst := some 80, op := Go.Op.pick (Go.Operand.tmp 76) (Go.Operand.const (Go.Value.bool true)) (Go.Operand.tmp 79), type := 4, pos := "law.go:87", after := #[{ on := 22, ground := Go.Ground.data }, { on := 25, ground := Go.Ground.data }, { on := 14, ground := Go.Ground.guard }], guard := some (14, true) }) (v := ?_) rfl (by kernel_rfl) (by kernel_rfl) (by kernel_rfl) (fun _ _ _ h => h) (Or.inl ⟨by rfl, ?_⟩) hS1 ?_
  rotate_left
  · (intro wq hSw; go_simp; try with_reducible rfl)
  try simp only [Act.put, List.setIfInBounds_toArray, List.set_cons_zero, List.set_cons_succ]
  refine wpAnyH_take (i := 27) (oi := { dst := some 81, op := Go.Op.pick (Go.Operand.tmp 68) (Go.Operand.tmp 80) (Go.Operand.const (Go.Value.bool false)), type := 4, pos := "law.go:87", after := #[{ on := 14, ground := Go.Ground.data }, { on := 26, ground := Go.Ground.data }], guard := none }) (v := ?_) rfl (by kernel_rfl) (by kernel_rfl) (by kernel_rfl) (fun _ _ _ h => h) (Or.inl ⟨by rfl, ?_⟩) hS1 ?_
  rotate_left
  · (intro wq hSw; go_simp; try with_reducible rfl)
  try simp only [Act.put, List.setIfInBounds_toArray, List.set_cons_zero, List.set_cons_succ]
  refine wpAnyH_take (i := 28) (oi := { dst := some 82, op := Go.Op.move (Go.Operand.tmp 81), type := 4, pos := "law.go:87", after := #[{ on := 27, ground := Go.Ground.data }, { on := 25, ground := Go.Ground.chain }], guard := none }) (v := ?_) rfl (by kernel_rfl) (by kernel_rfl) (by kernel_rfl) (fun _ _ _ h => h) (Or.inl ⟨by rfl, ?_⟩) hS1 ?_
  rotate_left
  · (intro wq hSw; go_simp; try with_reducible rfl)
  try simp only [Act.put, List.setIfInBounds_toArray, List.set_cons_zero, List.set_cons_succ]
  refine wpAnyH_take (i := 29) (oi := { dst := some 83, op := Go.Op.load 24 (Go.Operand.tmp 4), type := 24, pos := "law.go:87", after := #[{ on := 28, ground := Go.Ground.guard }], guard := some (28, true) }) (v := ?_) rfl (by kernel_rfl) (by kernel_rfl) (by kernel_rfl) (fun _ _ _ h => h) (Or.inl ⟨by rfl, ?_⟩) hS1 ?_
  rotate_left
  · (intro wq hSw; obtain ⟨y0, y1, y2⟩ := hSw.t.x1.lab; go_simp; try with_reducible rfl)
  try simp only [Act.put, List.setIfInBounds_toArray, List.set_cons_zero, List.set_cons_succ]
  refine wpAnyH_take (i := 30) (oi := { dst := some 84, op := Go.Op.load 24 (Go.Operand.tmp 3), type := 24, pos := "law.go:87", after := #[{ on := 28, ground := Go.Ground.guard }], guard := some (28, true) }) (v := ?_) rfl (by kernel_rfl) (by kernel_rfl) (by kernel_rfl) (fun _ _ _ h => h) (Or.inl ⟨by rfl, ?_⟩) hS1 ?_
  rotate_left
  · (intro wq hSw; obtain ⟨y0, y1, y2⟩ := hSw.t.x0.lab; go_simp; try with_reducible rfl)
  try simp only [Act.put, List.setIfInBounds_toArray, List.set_cons_zero, List.set_cons_succ]
  refine wpAnyH_take (i := 32) (oi := { dst := some 86, op := Go.Op.load 24 (Go.Operand.tmp 8), type := 24, pos := "law.go:87", after := #[{ on := 28, ground := Go.Ground.guard }], guard := some (28, true) }) (v := ?_) rfl (by kernel_rfl) (by kernel_rfl) (by kernel_rfl) (fun _ _ _ h => h) (Or.inl ⟨by rfl, ?_⟩) hS1 ?_
  rotate_left
  · (intro wq hSw; obtain ⟨y0, y1, y2⟩ := hSw.f1.lab; go_simp; try with_reducible rfl)
  try simp only [Act.put, List.setIfInBounds_toArray, List.set_cons_zero, List.set_cons_succ]
  refine wpAnyH_ready (rs := [31]) (by kernel_rfl) (by simp) ?_
  refine AllReadyH.cons (o := { dst := some 85, op := Go.Op.call { callee := Go.Callee.value (Go.Operand.func 24), args := #[Go.Operand.tmp 83, Go.Operand.tmp 84], argTypes := #[24, 24] }, type := 4, pos := "law.go:87", after := #[{ on := 29, ground := Go.Ground.data }, { on := 30, ground := Go.Ground.data }, { on := 28, ground := Go.Ground.chain }, { on := 28, ground := Go.Ground.guard }], guard := some (28, true) }) rfl (fun K hK => ?_) AllReadyH.nil
  go_simp
  refine (Under_w HF.out.2.1 HF.out.1 HV.out).mono ?_
  rintro e v2 ⟨rfl, hb⟩
  refine hK.out _ _ (GwS.more hS1 hb) (fun hS2 => ?_)
  clear hK K hb
  try simp only [Act.put, List.setIfInBounds_toArray, List.set_cons_zero, List.set_cons_succ]
  refine wpAnyH_ready (rs := [33]) (by kernel_rfl) (by simp) ?_
  refine AllReadyH.cons (o := { dst := some 87, op := Go.Op.call { callee := Go.Callee.value (Go.Operand.func 27), args := #[], argTypes := #[] }, type := 24, pos := "law.go:87", after := #[{ on := 31, ground := Go.Ground.chain }, { on := 28, ground := Go.Ground.guard }], guard := some (28, true) }) rfl (fun K hK => ?_) AllReadyH.nil
  go_simp
  refine (bottom_any _).mono ?_
  rintro e v3 ⟨rfl, hb⟩
  refine hK.out _ _ (GwS.more hS2 hb) (fun hS3 => ?_)
  clear hK K hb
  try simp only [Act.put, List.setIfInBounds_toArray, List.set_cons_zero, List.set_cons_succ]
  refine wpAnyH_take (i := 34) (oi := { dst := some 88, op := Go.Op.binOp Go.BinOp.eql 24 (Go.Operand.tmp 86) (Go.Operand.tmp 87) 24, type := 4, pos := "law.go:87", after := #[{ on := 32, ground := Go.Ground.data }, { on := 33, ground := Go.Ground.data }, { on := 28, ground := Go.Ground.guard }], guard := some (28, true) }) (v := ?_) rfl (by kernel_rfl) (by kernel_rfl) (by kernel_rfl) (fun _ _ _ h => h) (Or.inl ⟨by rfl, ?_⟩) hS3 ?_
  rotate_left
  · (intro wq hSw; go_simp; try with_reducible rfl)
  try simp only [Act.put, List.setIfInBounds_toArray, List.set_cons_zero, List.set_cons_succ]
  refine wpAnyH_take (i := 35) (oi := { dst := some 89, op := Go.Op.binOp Go.BinOp.eql 4 (Go.Operand.tmp 85) (Go.Operand.tmp 88) 4, type := 4, pos := "law.go:87", after := #[{ on := 31, ground := Go.Ground.data }, { on := 34, ground := Go.Ground.data }, { on := 28, ground := Go.Ground.guard }], guard := some (28, true) }) (v := ?_) rfl (by kernel_rfl) (by kernel_rfl) (by kernel_rfl) (fun _ _ _ h => h) (Or.inl ⟨by rfl, ?_⟩) hS3 ?_
  rotate_left
  · (intro wq hSw; go_simp; try with_reducible rfl)
  try simp only [Act.put, List.setIfInBounds_toArray, List.set_cons_zero, List.set_cons_succ]
  refine wpAnyH_take (i := 36) (oi := { dst := some 90, op := Go.Op.pick (Go.Operand.tmp 82) (Go.Operand.tmp 89) (Go.Operand.const (Go.Value.bool false)), type := 4, pos := "law.go:87", after := #[{ on := 28, ground := Go.Ground.data }, { on := 35, ground := Go.Ground.data }], guard := none }) (v := ?_) rfl (by kernel_rfl) (by kernel_rfl) (by kernel_rfl) (fun _ _ _ h => h) (Or.inl ⟨by rfl, ?_⟩) hS3 ?_
  rotate_left
  · (intro wq hSw; go_simp; try with_reducible rfl)
  try simp only [Act.put, List.setIfInBounds_toArray, List.set_cons_zero, List.set_cons_succ]
  refine wpAnyH_take (i := 37) (oi := { dst := some 6, op := Go.Op.assign (Go.Operand.tmp 90), type := 4, pos := "law.go:87", after := #[{ on := 36, ground := Go.Ground.data }, { on := 33, ground := Go.Ground.chain }, { on := 0, ground := Go.Ground.phase }, { on := 1, ground := Go.Ground.phase }, { on := 2, ground := Go.Ground.phase }, { on := 3, ground := Go.Ground.phase }, { on := 4, ground := Go.Ground.phase }, { on := 5, ground := Go.Ground.phase }, { on := 6, ground := Go.Ground.phase }, { on := 7, ground := Go.Ground.phase }, { on := 8, ground := Go.Ground.phase }, { on := 9, ground := Go.Ground.phase }, { on := 10, ground := Go.Ground.phase }, { on := 11, ground := Go.Ground.phase }, { on := 12, ground := Go.Ground.phase }, { on := 13, ground := Go.Ground.phase }, { on := 14, ground := Go.Ground.phase }, { on := 15, ground := Go.Ground.phase }, { on := 16, ground := Go.Ground.phase }, { on := 17, ground := Go.Ground.phase }, { on := 18, ground := Go.Ground.phase }, { on := 19, ground := Go.Ground.phase }, { on := 20, ground := Go.Ground.phase }, { on := 21, ground := Go.Ground.phase }, { on := 22, ground := Go.Ground.phase }, { on := 23, ground := Go.Ground.phase }, { on := 24, ground := Go.Ground.phase }, { on := 25, ground := Go.Ground.phase }, { on := 26, ground := Go.Ground.phase }, { on := 27, ground := Go.Ground.phase }, { on := 28, ground := Go.Ground.phase }, { on := 29, ground := Go.Ground.phase }, { on := 30, ground := Go.Ground.phase }, { on := 31, ground := Go.Ground.phase }, { on := 32, ground := Go.Ground.phase }, { on := 33, ground := Go.Ground.phase }, { on := 34, ground := Go.Ground.phase }, { on := 35, ground := Go.Ground.phase }, { on := 36, ground := Go.Ground.phase }], guard := none }) (v := ?_) rfl (by kernel_rfl) (by kernel_rfl) (by kernel_rfl) (fun _ _ _ h => h) (Or.inl ⟨by rfl, ?_⟩) hS3 ?_
  rotate_left
  · (intro wq hSw; go_simp; try with_reducible rfl)
  try simp only [Act.put, List.setIfInBounds_toArray, List.set_cons_zero, List.set_cons_succ]
  refine wpAnyH_done (by kernel_rfl) ?_ _
  have DD := Lib.hid hS3.t.bel
  go_wp2
  go_ret
  exact ⟨rfl, DD.out⟩
set_option maxRecDepth 100000 in
set_option maxHeartbeats 8000000 in
theorem gains_z (H : Api) {cur a b g x z : Lab} {u : Bool} (h1 : gainL cur a = (0, g)) (hg : g.fits) (j1 : twoJ cur a = x) (j2 : twoE cur a = 0) (j3 : twoJ cur g = x) (j4 : twoE cur g = 0) (j5 : twoJ cur b = z) (j6 : twoE cur b = 0) (hv : a.under cur = u) (hgb : g.same Lab.bot = u) (hz : z.same x = false) (hc : cur.fits) (ha : a.fits) (hb : b.fits) {w : World} (hs : Ce w) : Calls Tryd.prog 8 #[.agg #[.int .i64 cur.l, .int .u64 cur.c, .int .i64 cur.i], .agg #[.int .i64 a.l, .int .u64 a.c, .int .i64 a.i], .agg #[.int .i64 b.l, .int .u64 b.c, .int .i64 b.i]] w (BoolP true w) := by
  have D := Lib.hid (Tv3.of w cur a b)
  have HE := Lib.hid hs
  have HF := Lib.hid (And.intro hc (And.intro ha (And.intro hb (And.intro hg True.intro))))
  have HS1 := Lib.hid h1
  have HJ := Lib.hid (And.intro j1 j2)
  have HJ2 := Lib.hid (And.intro j3 j4)
  have HJ3 := Lib.hid (And.intro j5 j6)
  have HV := Lib.hid hv
  have e1 := selfE x
  have e2 := selfEIn x
  have e3 := eqBot g hgb
  have e4 := eqBotIn g hgb
  have e5 := neB hz
  have e6 := neBIn hz
  clear hs hc ha hb hg h1 j1 j2 j3 j4 j5 j6 hv hgb hz
  go_enter Tryd.func8, Tryd.ntmps8
  go_wp2_with (go_at_call 11; refine (shown_w H _ (HE.out.more D.out.bel)).mono ?_)
  rintro e w1 ⟨rfl, hb⟩
  replace D := Lib.hid (D.out.more hb)
  clear hb
  obtain ⟨⟨p0, p1, p2⟩, ⟨q0, q1, q2⟩, ⟨r0, r1, r2⟩⟩ := D.out.cells
  go_wp2_with (go_at_call 16; refine (H.gain HF.out.1 HF.out.2.1 HS1.out (HE.out.more D.out.bel)).mono ?_)
  rintro e w2 ⟨rfl, hb⟩
  replace D := Lib.hid (D.out.more hb)
  have G := Lib.hid (BoxL.new w2 g)
  replace D := Lib.hid (D.out.more (Below.new w2 (.cells #[.int .i64 g.l, .int .u64 g.c, .int .i64 g.i] 24)))
  clear hb p0 p1 p2 q0 q1 q2 r0 r1 r2
  obtain ⟨⟨p0, p1, p2⟩, ⟨q0, q1, q2⟩, ⟨r0, r1, r2⟩⟩ := D.out.cells
  go_wp2_with (go_at_call 26; refine (Join_w HF.out.1 HF.out.2.1 HJ.out.1 HJ.out.2 (HE.out.more D.out.bel)).mono ?_)
  rintro e w3 ⟨rfl, hb⟩
  replace D := Lib.hid (D.out.more hb)
  replace G := Lib.hid ((G.out.more hb).more (Below.new w3 (.cells #[.int .i64 x.l, .int .u64 x.c, .int .i64 x.i] 24)))
  have X := Lib.hid (BoxL.new w3 x)
  replace D := Lib.hid (D.out.more (Below.new w3 (.cells #[.int .i64 x.l, .int .u64 x.c, .int .i64 x.i] 24)))
  clear hb p0 p1 p2 q0 q1 q2 r0 r1 r2
  obtain ⟨⟨p0, p1, p2⟩, ⟨q0, q1, q2⟩, ⟨r0, r1, r2⟩⟩ := D.out.cells
  obtain ⟨g0, g1, g2⟩ := G.out.lab
  go_wp2_with (go_at_call 26; refine (Join_w HF.out.1 HF.out.2.2.2.1 HJ2.out.1 HJ2.out.2 (HE.out.more D.out.bel)).mono ?_)
  rintro e w4 ⟨rfl, hb⟩
  replace D := Lib.hid (D.out.more hb)
  replace G := Lib.hid ((G.out.more hb).more (Below.new w4 (.cells #[.int .i64 x.l, .int .u64 x.c, .int .i64 x.i] 24)))
  replace X := Lib.hid ((X.out.more hb).more (Below.new w4 (.cells #[.int .i64 x.l, .int .u64 x.c, .int .i64 x.i] 24)))
  have Y := Lib.hid (BoxL.new w4 x)
  replace D := Lib.hid (D.out.more (Below.new w4 (.cells #[.int .i64 x.l, .int .u64 x.c, .int .i64 x.i] 24)))
  clear hb p0 p1 p2 q0 q1 q2 r0 r1 r2 g0 g1 g2
  obtain ⟨⟨p0, p1, p2⟩, ⟨q0, q1, q2⟩, ⟨r0, r1, r2⟩⟩ := D.out.cells
  go_wp2_with (go_at_call 26; refine (Join_w HF.out.1 HF.out.2.2.1 HJ3.out.1 HJ3.out.2 (HE.out.more D.out.bel)).mono ?_)
  rintro e w5 ⟨rfl, hb⟩
  replace D := Lib.hid (D.out.more hb)
  replace G := Lib.hid ((G.out.more hb).more (Below.new w5 (.cells #[.int .i64 z.l, .int .u64 z.c, .int .i64 z.i] 24)))
  replace X := Lib.hid ((X.out.more hb).more (Below.new w5 (.cells #[.int .i64 z.l, .int .u64 z.c, .int .i64 z.i] 24)))
  replace Y := Lib.hid ((Y.out.more hb).more (Below.new w5 (.cells #[.int .i64 z.l, .int .u64 z.c, .int .i64 z.i] 24)))
  have Z := Lib.hid (BoxL.new w5 z)
  replace D := Lib.hid (D.out.more (Below.new w5 (.cells #[.int .i64 z.l, .int .u64 z.c, .int .i64 z.i] 24)))
  clear hb p0 p1 p2 q0 q1 q2 r0 r1 r2
  go_wp2
  obtain ⟨V, hV⟩ : ∃ V, w5.alloc (.cells #[.int .i64 z.l, .int .u64 z.c, .int .i64 z.i] 24) = V := ⟨_, rfl⟩
  rw [hV] at D G X Y Z ⊢
  clear hV
  refine wp_region_held_drew (S := GwS w cur a b g x z w2.heap.size w3.heap.size w4.heap.size w5.heap.size) (by kernel_rfl) (GwS.more ⟨D.out, G.out, X.out, Y.out, Z.out⟩ ((Below.refl _ V).drew)) (fun hS0 => ?_)
  refine wpAnyH_take (i := 0) (oi := { dst := some 54, op := Go.Op.move (Go.Operand.tmp 7), type := 4, pos := "law.go:87", after := #[], guard := none }) (v := ?_) rfl (by kernel_rfl) (by kernel_rfl) (by kernel_rfl) (fun _ _ _ h => h) (Or.inl ⟨by rfl, ?_⟩) hS0 ?_
  rotate_left
  · (intro wq hSw; go_simp; try with_reducible rfl)
  try simp only [Act.put, List.setIfInBounds_toArray, List.set_cons_zero, List.set_cons_succ]
  refine wpAnyH_take (i := 1) (oi := { dst := some 55, op := Go.Op.move (Go.Operand.tmp 54), type := 4, pos := "law.go:87", after := #[{ on := 0, ground := Go.Ground.data }], guard := none }) (v := ?_) rfl (by kernel_rfl) (by kernel_rfl) (by kernel_rfl) (fun _ _ _ h => h) (Or.inl ⟨by rfl, ?_⟩) hS0 ?_
  rotate_left
  · (intro wq hSw; go_simp; try with_reducible rfl)
  try simp only [Act.put, List.setIfInBounds_toArray, List.set_cons_zero, List.set_cons_succ]
  refine wpAnyH_take (i := 2) (oi := { dst := some 56, op := Go.Op.move (Go.Operand.tmp 11), type := 26, pos := "law.go:87", after := #[{ on := 1, ground := Go.Ground.guard }], guard := some (1, true) }) (v := ?_) rfl (by kernel_rfl) (by kernel_rfl) (by kernel_rfl) (fun _ _ _ h => h) (Or.inl ⟨by rfl, ?_⟩) hS0 ?_
  rotate_left
  · (intro wq hSw; go_simp; try with_reducible rfl)
  try simp only [Act.put, List.setIfInBounds_toArray, List.set_cons_zero, List.set_cons_succ]
  refine wpAnyH_take (i := 3) (oi := { dst := some 57, op := Go.Op.binOp Go.BinOp.eql 26 (Go.Operand.tmp 56) (Go.Operand.const (Go.Value.int Go.IntKind.i64 0)) 26, type := 4, pos := "law.go:87", after := #[{ on := 2, ground := Go.Ground.data }, { on := 1, ground := Go.Ground.guard }], guard := some (1, true) }) (v := ?_) rfl (by kernel_rfl) (by kernel_rfl) (by kernel_rfl) (fun _ _ _ h => h) (Or.inl ⟨by rfl, ?_⟩) hS0 ?_
  rotate_left
  · (intro wq hSw; go_simp; try with_reducible rfl)
  try simp only [Act.put, List.setIfInBounds_toArray, List.set_cons_zero, List.set_cons_succ]
  refine wpAnyH_take (i := 4) (oi := { dst := some 58, op := Go.Op.pick (Go.Operand.tmp 55) (Go.Operand.tmp 57) (Go.Operand.const (Go.Value.bool false)), type := 4, pos := "law.go:87", after := #[{ on := 1, ground := Go.Ground.data }, { on := 3, ground := Go.Ground.data }], guard := none }) (v := ?_) rfl (by kernel_rfl) (by kernel_rfl) (by kernel_rfl) (fun _ _ _ h => h) (Or.inl ⟨by rfl, ?_⟩) hS0 ?_
  rotate_left
  · (intro wq hSw; go_simp; try with_reducible rfl)
  try simp only [Act.put, List.setIfInBounds_toArray, List.set_cons_zero, List.set_cons_succ]
  refine wpAnyH_take (i := 5) (oi := { dst := some 59, op := Go.Op.move (Go.Operand.tmp 58), type := 4, pos := "law.go:87", after := #[{ on := 4, ground := Go.Ground.data }, { on := 1, ground := Go.Ground.chain }], guard := none }) (v := ?_) rfl (by kernel_rfl) (by kernel_rfl) (by kernel_rfl) (fun _ _ _ h => h) (Or.inl ⟨by rfl, ?_⟩) hS0 ?_
  rotate_left
  · (intro wq hSw; go_simp; try with_reducible rfl)
  try simp only [Act.put, List.setIfInBounds_toArray, List.set_cons_zero, List.set_cons_succ]
  refine wpAnyH_take (i := 6) (oi := { dst := some 60, op := Go.Op.move (Go.Operand.tmp 13), type := 26, pos := "law.go:87", after := #[{ on := 5, ground := Go.Ground.guard }], guard := some (5, true) }) (v := ?_) rfl (by kernel_rfl) (by kernel_rfl) (by kernel_rfl) (fun _ _ _ h => h) (Or.inl ⟨by rfl, ?_⟩) hS0 ?_
  rotate_left
  · (intro wq hSw; go_simp; try with_reducible rfl)
  try simp only [Act.put, List.setIfInBounds_toArray, List.set_cons_zero, List.set_cons_succ]
  refine wpAnyH_take (i := 7) (oi := { dst := some 61, op := Go.Op.binOp Go.BinOp.eql 26 (Go.Operand.tmp 60) (Go.Operand.const (Go.Value.int Go.IntKind.i64 0)) 26, type := 4, pos := "law.go:87", after := #[{ on := 6, ground := Go.Ground.data }, { on := 5, ground := Go.Ground.guard }], guard := some (5, true) }) (v := ?_) rfl (by kernel_rfl) (by kernel_rfl) (by kernel_rfl) (fun _ _ _ h => h) (Or.inl ⟨by rfl, ?_⟩) hS0 ?_
  rotate_left
  · (intro wq hSw; go_simp; try with_reducible rfl)
  try simp only [Act.put, List.setIfInBounds_toArray, List.set_cons_zero, List.set_cons_succ]
  refine wpAnyH_take (i := 8) (oi := { dst := some 62, op := Go.Op.pick (Go.Operand.tmp 59) (Go.Operand.tmp 61) (Go.Operand.const (Go.Value.bool false)), type := 4, pos := "law.go:87", after := #[{ on := 5, ground := Go.Ground.data }, { on := 7, ground := Go.Ground.data }], guard := none }) (v := ?_) rfl (by kernel_rfl) (by kernel_rfl) (by kernel_rfl) (fun _ _ _ h => h) (Or.inl ⟨by rfl, ?_⟩) hS0 ?_
  rotate_left
  · (intro wq hSw; go_simp; try with_reducible rfl)
  try simp only [Act.put, List.setIfInBounds_toArray, List.set_cons_zero, List.set_cons_succ]
  refine wpAnyH_take (i := 9) (oi := { dst := some 63, op := Go.Op.move (Go.Operand.tmp 62), type := 4, pos := "law.go:87", after := #[{ on := 8, ground := Go.Ground.data }, { on := 5, ground := Go.Ground.chain }], guard := none }) (v := ?_) rfl (by kernel_rfl) (by kernel_rfl) (by kernel_rfl) (fun _ _ _ h => h) (Or.inl ⟨by rfl, ?_⟩) hS0 ?_
  rotate_left
  · (intro wq hSw; go_simp; try with_reducible rfl)
  try simp only [Act.put, List.setIfInBounds_toArray, List.set_cons_zero, List.set_cons_succ]
  refine wpAnyH_take (i := 10) (oi := { dst := some 64, op := Go.Op.load 24 (Go.Operand.tmp 12), type := 24, pos := "law.go:87", after := #[{ on := 9, ground := Go.Ground.guard }], guard := some (9, true) }) (v := ?_) rfl (by kernel_rfl) (by kernel_rfl) (by kernel_rfl) (fun _ _ _ h => h) (Or.inl ⟨by rfl, ?_⟩) hS0 ?_
  rotate_left
  · (intro wq hSw; obtain ⟨y0, y1, y2⟩ := hSw.f3.lab; go_simp; try with_reducible rfl)
  try simp only [Act.put, List.setIfInBounds_toArray, List.set_cons_zero, List.set_cons_succ]
  refine wpAnyH_take (i := 11) (oi := { dst := some 65, op := Go.Op.load 24 (Go.Operand.tmp 10), type := 24, pos := "law.go:87", after := #[{ on := 9, ground := Go.Ground.guard }], guard := some (9, true) }) (v := ?_) rfl (by kernel_rfl) (by kernel_rfl) (by kernel_rfl) (fun _ _ _ h => h) (Or.inl ⟨by rfl, ?_⟩) hS0 ?_
  rotate_left
  · (intro wq hSw; obtain ⟨y0, y1, y2⟩ := hSw.f2.lab; go_simp; try with_reducible rfl)
  try simp only [Act.put, List.setIfInBounds_toArray, List.set_cons_zero, List.set_cons_succ]
  refine wpAnyH_take (i := 12) (oi := { dst := some 66, op := Go.Op.binOp Go.BinOp.eql 24 (Go.Operand.tmp 64) (Go.Operand.tmp 65) 24, type := 4, pos := "law.go:87", after := #[{ on := 10, ground := Go.Ground.data }, { on := 11, ground := Go.Ground.data }, { on := 9, ground := Go.Ground.guard }], guard := some (9, true) }) (v := ?_) rfl (by kernel_rfl) (by kernel_rfl) (by kernel_rfl) (fun _ _ _ h => h) (Or.inl ⟨by rfl, ?_⟩) hS0 ?_
  rotate_left
  · (intro wq hSw; go_simp; try with_reducible rfl)
  try simp only [Act.put, List.setIfInBounds_toArray, List.set_cons_zero, List.set_cons_succ]
  refine wpAnyH_take (i := 13) (oi := { dst := some 67, op := Go.Op.pick (Go.Operand.tmp 63) (Go.Operand.tmp 66) (Go.Operand.const (Go.Value.bool false)), type := 4, pos := "law.go:87", after := #[{ on := 9, ground := Go.Ground.data }, { on := 12, ground := Go.Ground.data }], guard := none }) (v := ?_) rfl (by kernel_rfl) (by kernel_rfl) (by kernel_rfl) (fun _ _ _ h => h) (Or.inl ⟨by rfl, ?_⟩) hS0 ?_
  rotate_left
  · (intro wq hSw; go_simp; try with_reducible rfl)
  try simp only [Act.put, List.setIfInBounds_toArray, List.set_cons_zero, List.set_cons_succ]
  refine wpAnyH_take (i := 14) (oi := { dst := some 68, op := Go.Op.move (Go.Operand.tmp 67), type := 4, pos := "law.go:87", after := #[{ on := 13, ground := Go.Ground.data }, { on := 9, ground := Go.Ground.chain }], guard := none }) (v := ?_) rfl (by kernel_rfl) (by kernel_rfl) (by kernel_rfl) (fun _ _ _ h => h) (Or.inl ⟨by rfl, ?_⟩) hS0 ?_
  rotate_left
  · (intro wq hSw; go_simp; try with_reducible rfl)
  try simp only [Act.put, List.setIfInBounds_toArray, List.set_cons_zero, List.set_cons_succ]
  refine wpAnyH_take (i := 15) (oi := { dst := some 69, op := Go.Op.move (Go.Operand.tmp 15), type := 26, pos := "law.go:87", after := #[{ on := 14, ground := Go.Ground.guard }], guard := some (14, true) }) (v := ?_) rfl (by kernel_rfl) (by kernel_rfl) (by kernel_rfl) (fun _ _ _ h => h) (Or.inl ⟨by rfl, ?_⟩) hS0 ?_
  rotate_left
  · (intro wq hSw; go_simp; try with_reducible rfl)
  try simp only [Act.put, List.setIfInBounds_toArray, List.set_cons_zero, List.set_cons_succ]
  refine wpAnyH_take (i := 16) (oi := { dst := some 70, op := Go.Op.binOp Go.BinOp.neq 26 (Go.Operand.tmp 69) (Go.Operand.const (Go.Value.int Go.IntKind.i64 0)) 26, type := 4, pos := "law.go:87", after := #[{ on := 15, ground := Go.Ground.data }, { on := 14, ground := Go.Ground.guard }], guard := some (14, true) }) (v := ?_) rfl (by kernel_rfl) (by kernel_rfl) (by kernel_rfl) (fun _ _ _ h => h) (Or.inl ⟨by rfl, ?_⟩) hS0 ?_
  rotate_left
  · (intro wq hSw; go_simp; try with_reducible rfl)
  try simp only [Act.put, List.setIfInBounds_toArray, List.set_cons_zero, List.set_cons_succ]
  refine wpAnyH_take (i := 17) (oi := { dst := some 71, op := Go.Op.move (Go.Operand.tmp 70), type := 4, pos := "law.go:87", after := #[{ on := 16, ground := Go.Ground.data }, { on := 14, ground := Go.Ground.chain }, { on := 14, ground := Go.Ground.guard }], guard := some (14, true) }) (v := ?_) rfl (by kernel_rfl) (by kernel_rfl) (by kernel_rfl) (fun _ _ _ h => h) (Or.inl ⟨by rfl, ?_⟩) hS0 ?_
  rotate_left
  · (intro wq hSw; go_simp; try with_reducible rfl)
  try simp only [Act.put, List.setIfInBounds_toArray, List.set_cons_zero, List.set_cons_succ]
  refine wpAnyH_take (i := 18) (oi := { dst := some 72, op := Go.Op.load 24 (Go.Operand.tmp 14), type := 24, pos := "law.go:87", after := #[{ on := 17, ground := Go.Ground.guard }], guard := some (17, false) }) (v := ?_) rfl (by kernel_rfl) (by kernel_rfl) (by kernel_rfl) (fun _ _ _ h => h) (Or.inl ⟨by rfl, ?_⟩) hS0 ?_
  rotate_left
  · (intro wq hSw; obtain ⟨y0, y1, y2⟩ := hSw.f4.lab; go_simp; try with_reducible rfl)
  try simp only [Act.put, List.setIfInBounds_toArray, List.set_cons_zero, List.set_cons_succ]
  refine wpAnyH_take (i := 19) (oi := { dst := some 73, op := Go.Op.load 24 (Go.Operand.tmp 10), type := 24, pos := "law.go:87", after := #[{ on := 17, ground := Go.Ground.guard }], guard := some (17, false) }) (v := ?_) rfl (by kernel_rfl) (by kernel_rfl) (by kernel_rfl) (fun _ _ _ h => h) (Or.inl ⟨by rfl, ?_⟩) hS0 ?_
  rotate_left
  · (intro wq hSw; obtain ⟨y0, y1, y2⟩ := hSw.f2.lab; go_simp; try with_reducible rfl)
  try simp only [Act.put, List.setIfInBounds_toArray, List.set_cons_zero, List.set_cons_succ]
  refine wpAnyH_take (i := 20) (oi := { dst := some 74, op := Go.Op.binOp Go.BinOp.neq 24 (Go.Operand.tmp 72) (Go.Operand.tmp 73) 24, type := 4, pos := "law.go:87", after := #[{ on := 18, ground := Go.Ground.data }, { on := 19, ground := Go.Ground.data }, { on := 17, ground := Go.Ground.guard }], guard := some (17, false) }) (v := ?_) rfl (by kernel_rfl) (by kernel_rfl) (by kernel_rfl) (fun _ _ _ h => h) (Or.inl ⟨by rfl, ?_⟩) hS0 ?_
  rotate_left
  · (intro wq hSw; go_simp; try with_reducible rfl)
  try simp only [Act.put, List.setIfInBounds_toArray, List.set_cons_zero, List.set_cons_succ]
  refine wpAnyH_take (i := 21) (oi := { dst := some 75, op := Go.Op.pick (Go.Operand.tmp 71) (Go.Operand.const (Go.Value.bool true)) (Go.Operand.tmp 74), type := 4, pos := "law.go:87", after := #[{ on := 17, ground := Go.Ground.data }, { on := 20, ground := Go.Ground.data }, { on := 14, ground := Go.Ground.guard }], guard := some (14, true) }) (v := ?_) rfl (by kernel_rfl) (by kernel_rfl) (by kernel_rfl) (fun _ _ _ h => h) (Or.inl ⟨by rfl, ?_⟩) hS0 ?_
  rotate_left
  · (intro wq hSw; go_simp; try with_reducible rfl)
  try simp only [Act.put, List.setIfInBounds_toArray, List.set_cons_zero, List.set_cons_succ]
  refine wpAnyH_take (i := 22) (oi := { dst := some 76, op := Go.Op.move (Go.Operand.tmp 75), type := 4, pos := "law.go:87", after := #[{ on := 21, ground := Go.Ground.data }, { on := 17, ground := Go.Ground.chain }, { on := 14, ground := Go.Ground.guard }], guard := some (14, true) }) (v := ?_) rfl (by kernel_rfl) (by kernel_rfl) (by kernel_rfl) (fun _ _ _ h => h) (Or.inl ⟨by rfl, ?_⟩) hS0 ?_
  rotate_left
  · (intro wq hSw; go_simp; try with_reducible rfl)
  try simp only [Act.put, List.setIfInBounds_toArray, List.set_cons_zero, List.set_cons_succ]
  refine wpAnyH_take (i := 23) (oi := { dst := some 77, op := Go.Op.load 24 (Go.Operand.tmp 8), type := 24, pos := "law.go:87", after := #[{ on := 22, ground := Go.Ground.guard }], guard := some (22, false) }) (v := undef) rfl (by kernel_rfl) (by kernel_rfl) (by kernel_rfl) (fun _ _ _ h => h) (Or.inr ⟨by rfl, rfl⟩) hS0 ?_
  try simp only [Act.put, List.setIfInBounds_toArray, List.set_cons_zero, List.set_cons_succ]
  refine wpAnyH_take (i := 24) (oi := { dst := some 78, op := Go.Op.load 24 (Go.Operand.tmp 5), type := 24, pos := "law.go:87", after := #[{ on := 22, ground := Go.Ground.guard }], guard := some (22, false) }) (v := undef) rfl (by kernel_rfl) (by kernel_rfl) (by kernel_rfl) (fun _ _ _ h => h) (Or.inr ⟨by rfl, rfl⟩) hS0 ?_
  try simp only [Act.put, List.setIfInBounds_toArray, List.set_cons_zero, List.set_cons_succ]
  refine wpAnyH_ready (rs := [25]) (by kernel_rfl) (by simp) ?_
  refine AllReadyH.cons (o := { dst := some 79, op := Go.Op.call { callee := Go.Callee.value (Go.Operand.func 24), args := #[Go.Operand.tmp 77, Go.Operand.tmp 78], argTypes := #[24, 24] }, type := 4, pos := "law.go:87", after := #[{ on := 23, ground := Go.Ground.data }, { on := 24, ground := Go.Ground.data }, { on := 22, ground := Go.Ground.chain }, { on := 22, ground := Go.Ground.guard }], guard := some (22, false) }) rfl (fun K hK => ?_) AllReadyH.nil
  rw [if_neg (by intro h; cases h)]
  refine hK.out _ _ hS0 (fun hS1 => ?_)
  clear hK K
  try simp only [Act.put, List.setIfInBounds_toArray, List.set_cons_zero, List.set_cons_succ]
  refine wpAnyH_take (i := 26) (oi := { dst := some 80, op := Go.Op.pick (Go.Operand.tmp 76) (Go.Operand.const (Go.Value.bool true)) (Go.Operand.tmp 79), type := 4, pos := "law.go:87", after := #[{ on := 22, ground := Go.Ground.data }, { on := 25, ground := Go.Ground.data }, { on := 14, ground := Go.Ground.guard }], guard := some (14, true) }) (v := ?_) rfl (by kernel_rfl) (by kernel_rfl) (by kernel_rfl) (fun _ _ _ h => h) (Or.inl ⟨by rfl, ?_⟩) hS1 ?_
  rotate_left
  · (intro wq hSw; go_simp; try with_reducible rfl)
  try simp only [Act.put, List.setIfInBounds_toArray, List.set_cons_zero, List.set_cons_succ]
  refine wpAnyH_take (i := 27) (oi := { dst := some 81, op := Go.Op.pick (Go.Operand.tmp 68) (Go.Operand.tmp 80) (Go.Operand.const (Go.Value.bool false)), type := 4, pos := "law.go:87", after := #[{ on := 14, ground := Go.Ground.data }, { on := 26, ground := Go.Ground.data }], guard := none }) (v := ?_) rfl (by kernel_rfl) (by kernel_rfl) (by kernel_rfl) (fun _ _ _ h => h) (Or.inl ⟨by rfl, ?_⟩) hS1 ?_
  rotate_left
  · (intro wq hSw; go_simp; try with_reducible rfl)
  try simp only [Act.put, List.setIfInBounds_toArray, List.set_cons_zero, List.set_cons_succ]
  refine wpAnyH_take (i := 28) (oi := { dst := some 82, op := Go.Op.move (Go.Operand.tmp 81), type := 4, pos := "law.go:87", after := #[{ on := 27, ground := Go.Ground.data }, { on := 25, ground := Go.Ground.chain }], guard := none }) (v := ?_) rfl (by kernel_rfl) (by kernel_rfl) (by kernel_rfl) (fun _ _ _ h => h) (Or.inl ⟨by rfl, ?_⟩) hS1 ?_
  rotate_left
  · (intro wq hSw; go_simp; try with_reducible rfl)
  try simp only [Act.put, List.setIfInBounds_toArray, List.set_cons_zero, List.set_cons_succ]
  refine wpAnyH_take (i := 29) (oi := { dst := some 83, op := Go.Op.load 24 (Go.Operand.tmp 4), type := 24, pos := "law.go:87", after := #[{ on := 28, ground := Go.Ground.guard }], guard := some (28, true) }) (v := ?_) rfl (by kernel_rfl) (by kernel_rfl) (by kernel_rfl) (fun _ _ _ h => h) (Or.inl ⟨by rfl, ?_⟩) hS1 ?_
  rotate_left
  · (intro wq hSw; obtain ⟨y0, y1, y2⟩ := hSw.t.x1.lab; go_simp; try with_reducible rfl)
  try simp only [Act.put, List.setIfInBounds_toArray, List.set_cons_zero, List.set_cons_succ]
  refine wpAnyH_take (i := 30) (oi := { dst := some 84, op := Go.Op.load 24 (Go.Operand.tmp 3), type := 24, pos := "law.go:87", after := #[{ on := 28, ground := Go.Ground.guard }], guard := some (28, true) }) (v := ?_) rfl (by kernel_rfl) (by kernel_rfl) (by kernel_rfl) (fun _ _ _ h => h) (Or.inl ⟨by rfl, ?_⟩) hS1 ?_
  rotate_left
  · (intro wq hSw; obtain ⟨y0, y1, y2⟩ := hSw.t.x0.lab; go_simp; try with_reducible rfl)
  try simp only [Act.put, List.setIfInBounds_toArray, List.set_cons_zero, List.set_cons_succ]
  refine wpAnyH_take (i := 32) (oi := { dst := some 86, op := Go.Op.load 24 (Go.Operand.tmp 8), type := 24, pos := "law.go:87", after := #[{ on := 28, ground := Go.Ground.guard }], guard := some (28, true) }) (v := ?_) rfl (by kernel_rfl) (by kernel_rfl) (by kernel_rfl) (fun _ _ _ h => h) (Or.inl ⟨by rfl, ?_⟩) hS1 ?_
  rotate_left
  · (intro wq hSw; obtain ⟨y0, y1, y2⟩ := hSw.f1.lab; go_simp; try with_reducible rfl)
  try simp only [Act.put, List.setIfInBounds_toArray, List.set_cons_zero, List.set_cons_succ]
  refine wpAnyH_ready (rs := [31]) (by kernel_rfl) (by simp) ?_
  refine AllReadyH.cons (o := { dst := some 85, op := Go.Op.call { callee := Go.Callee.value (Go.Operand.func 24), args := #[Go.Operand.tmp 83, Go.Operand.tmp 84], argTypes := #[24, 24] }, type := 4, pos := "law.go:87", after := #[{ on := 29, ground := Go.Ground.data }, { on := 30, ground := Go.Ground.data }, { on := 28, ground := Go.Ground.chain }, { on := 28, ground := Go.Ground.guard }], guard := some (28, true) }) rfl (fun K hK => ?_) AllReadyH.nil
  go_simp
  refine (Under_w HF.out.2.1 HF.out.1 HV.out).mono ?_
  rintro e v2 ⟨rfl, hb⟩
  refine hK.out _ _ (GwS.more hS1 hb) (fun hS2 => ?_)
  clear hK K hb
  try simp only [Act.put, List.setIfInBounds_toArray, List.set_cons_zero, List.set_cons_succ]
  refine wpAnyH_ready (rs := [33]) (by kernel_rfl) (by simp) ?_
  refine AllReadyH.cons (o := { dst := some 87, op := Go.Op.call { callee := Go.Callee.value (Go.Operand.func 27), args := #[], argTypes := #[] }, type := 24, pos := "law.go:87", after := #[{ on := 31, ground := Go.Ground.chain }, { on := 28, ground := Go.Ground.guard }], guard := some (28, true) }) rfl (fun K hK => ?_) AllReadyH.nil
  go_simp
  refine (bottom_any _).mono ?_
  rintro e v3 ⟨rfl, hb⟩
  refine hK.out _ _ (GwS.more hS2 hb) (fun hS3 => ?_)
  clear hK K hb
  try simp only [Act.put, List.setIfInBounds_toArray, List.set_cons_zero, List.set_cons_succ]
  refine wpAnyH_take (i := 34) (oi := { dst := some 88, op := Go.Op.binOp Go.BinOp.eql 24 (Go.Operand.tmp 86) (Go.Operand.tmp 87) 24, type := 4, pos := "law.go:87", after := #[{ on := 32, ground := Go.Ground.data }, { on := 33, ground := Go.Ground.data }, { on := 28, ground := Go.Ground.guard }], guard := some (28, true) }) (v := ?_) rfl (by kernel_rfl) (by kernel_rfl) (by kernel_rfl) (fun _ _ _ h => h) (Or.inl ⟨by rfl, ?_⟩) hS3 ?_
  rotate_left
  · (intro wq hSw; go_simp; try with_reducible rfl)
  try simp only [Act.put, List.setIfInBounds_toArray, List.set_cons_zero, List.set_cons_succ]
  refine wpAnyH_take (i := 35) (oi := { dst := some 89, op := Go.Op.binOp Go.BinOp.eql 4 (Go.Operand.tmp 85) (Go.Operand.tmp 88) 4, type := 4, pos := "law.go:87", after := #[{ on := 31, ground := Go.Ground.data }, { on := 34, ground := Go.Ground.data }, { on := 28, ground := Go.Ground.guard }], guard := some (28, true) }) (v := ?_) rfl (by kernel_rfl) (by kernel_rfl) (by kernel_rfl) (fun _ _ _ h => h) (Or.inl ⟨by rfl, ?_⟩) hS3 ?_
  rotate_left
  · (intro wq hSw; go_simp; try with_reducible rfl)
  try simp only [Act.put, List.setIfInBounds_toArray, List.set_cons_zero, List.set_cons_succ]
  refine wpAnyH_take (i := 36) (oi := { dst := some 90, op := Go.Op.pick (Go.Operand.tmp 82) (Go.Operand.tmp 89) (Go.Operand.const (Go.Value.bool false)), type := 4, pos := "law.go:87", after := #[{ on := 28, ground := Go.Ground.data }, { on := 35, ground := Go.Ground.data }], guard := none }) (v := ?_) rfl (by kernel_rfl) (by kernel_rfl) (by kernel_rfl) (fun _ _ _ h => h) (Or.inl ⟨by rfl, ?_⟩) hS3 ?_
  rotate_left
  · (intro wq hSw; go_simp; try with_reducible rfl)
  try simp only [Act.put, List.setIfInBounds_toArray, List.set_cons_zero, List.set_cons_succ]
  refine wpAnyH_take (i := 37) (oi := { dst := some 6, op := Go.Op.assign (Go.Operand.tmp 90), type := 4, pos := "law.go:87", after := #[{ on := 36, ground := Go.Ground.data }, { on := 33, ground := Go.Ground.chain }, { on := 0, ground := Go.Ground.phase }, { on := 1, ground := Go.Ground.phase }, { on := 2, ground := Go.Ground.phase }, { on := 3, ground := Go.Ground.phase }, { on := 4, ground := Go.Ground.phase }, { on := 5, ground := Go.Ground.phase }, { on := 6, ground := Go.Ground.phase }, { on := 7, ground := Go.Ground.phase }, { on := 8, ground := Go.Ground.phase }, { on := 9, ground := Go.Ground.phase }, { on := 10, ground := Go.Ground.phase }, { on := 11, ground := Go.Ground.phase }, { on := 12, ground := Go.Ground.phase }, { on := 13, ground := Go.Ground.phase }, { on := 14, ground := Go.Ground.phase }, { on := 15, ground := Go.Ground.phase }, { on := 16, ground := Go.Ground.phase }, { on := 17, ground := Go.Ground.phase }, { on := 18, ground := Go.Ground.phase }, { on := 19, ground := Go.Ground.phase }, { on := 20, ground := Go.Ground.phase }, { on := 21, ground := Go.Ground.phase }, { on := 22, ground := Go.Ground.phase }, { on := 23, ground := Go.Ground.phase }, { on := 24, ground := Go.Ground.phase }, { on := 25, ground := Go.Ground.phase }, { on := 26, ground := Go.Ground.phase }, { on := 27, ground := Go.Ground.phase }, { on := 28, ground := Go.Ground.phase }, { on := 29, ground := Go.Ground.phase }, { on := 30, ground := Go.Ground.phase }, { on := 31, ground := Go.Ground.phase }, { on := 32, ground := Go.Ground.phase }, { on := 33, ground := Go.Ground.phase }, { on := 34, ground := Go.Ground.phase }, { on := 35, ground := Go.Ground.phase }, { on := 36, ground := Go.Ground.phase }], guard := none }) (v := ?_) rfl (by kernel_rfl) (by kernel_rfl) (by kernel_rfl) (fun _ _ _ h => h) (Or.inl ⟨by rfl, ?_⟩) hS3 ?_
  rotate_left
  · (intro wq hSw; go_simp; try with_reducible rfl)
  try simp only [Act.put, List.setIfInBounds_toArray, List.set_cons_zero, List.set_cons_succ]
  refine wpAnyH_done (by kernel_rfl) ?_ _
  have DD := Lib.hid hS3.t.bel
  go_wp2
  go_ret
  exact ⟨rfl, DD.out⟩
set_option maxRecDepth 100000 in
set_option maxHeartbeats 8000000 in
theorem gains_y (H : Api) {cur a b g x z : Lab} {u : Bool} (h1 : gainL cur a = (0, g)) (hg : g.fits) (j1 : twoJ cur a = x) (j2 : twoE cur a = 0) (j3 : twoJ cur g = x) (j4 : twoE cur g = 0) (j5 : twoJ cur b = z) (j6 : twoE cur b = 0) (hv : a.under cur = u) (hgb : g.same Lab.bot = u) (hz : z.same x = true) (hu : g.under b = true) (hc : cur.fits) (ha : a.fits) (hb : b.fits) {w : World} (hs : Ce w) : Calls Tryd.prog 8 #[.agg #[.int .i64 cur.l, .int .u64 cur.c, .int .i64 cur.i], .agg #[.int .i64 a.l, .int .u64 a.c, .int .i64 a.i], .agg #[.int .i64 b.l, .int .u64 b.c, .int .i64 b.i]] w (BoolP true w) := by
  have D := Lib.hid (Tv3.of w cur a b)
  have HE := Lib.hid hs
  have HF := Lib.hid (And.intro hc (And.intro ha (And.intro hb (And.intro hg True.intro))))
  have HS1 := Lib.hid h1
  have HJ := Lib.hid (And.intro j1 j2)
  have HJ2 := Lib.hid (And.intro j3 j4)
  have HJ3 := Lib.hid (And.intro j5 j6)
  have HV := Lib.hid hv
  have e1 := selfE x
  have e2 := selfEIn x
  have e3 := eqBot g hgb
  have e4 := eqBotIn g hgb
  have e5 := neB hz
  have e6 := neBIn hz
  have HU := Lib.hid hu
  clear hs hc ha hb hg h1 j1 j2 j3 j4 j5 j6 hv hgb hz hu
  go_enter Tryd.func8, Tryd.ntmps8
  go_wp2_with (go_at_call 11; refine (shown_w H _ (HE.out.more D.out.bel)).mono ?_)
  rintro e w1 ⟨rfl, hb⟩
  replace D := Lib.hid (D.out.more hb)
  clear hb
  obtain ⟨⟨p0, p1, p2⟩, ⟨q0, q1, q2⟩, ⟨r0, r1, r2⟩⟩ := D.out.cells
  go_wp2_with (go_at_call 16; refine (H.gain HF.out.1 HF.out.2.1 HS1.out (HE.out.more D.out.bel)).mono ?_)
  rintro e w2 ⟨rfl, hb⟩
  replace D := Lib.hid (D.out.more hb)
  have G := Lib.hid (BoxL.new w2 g)
  replace D := Lib.hid (D.out.more (Below.new w2 (.cells #[.int .i64 g.l, .int .u64 g.c, .int .i64 g.i] 24)))
  clear hb p0 p1 p2 q0 q1 q2 r0 r1 r2
  obtain ⟨⟨p0, p1, p2⟩, ⟨q0, q1, q2⟩, ⟨r0, r1, r2⟩⟩ := D.out.cells
  go_wp2_with (go_at_call 26; refine (Join_w HF.out.1 HF.out.2.1 HJ.out.1 HJ.out.2 (HE.out.more D.out.bel)).mono ?_)
  rintro e w3 ⟨rfl, hb⟩
  replace D := Lib.hid (D.out.more hb)
  replace G := Lib.hid ((G.out.more hb).more (Below.new w3 (.cells #[.int .i64 x.l, .int .u64 x.c, .int .i64 x.i] 24)))
  have X := Lib.hid (BoxL.new w3 x)
  replace D := Lib.hid (D.out.more (Below.new w3 (.cells #[.int .i64 x.l, .int .u64 x.c, .int .i64 x.i] 24)))
  clear hb p0 p1 p2 q0 q1 q2 r0 r1 r2
  obtain ⟨⟨p0, p1, p2⟩, ⟨q0, q1, q2⟩, ⟨r0, r1, r2⟩⟩ := D.out.cells
  obtain ⟨g0, g1, g2⟩ := G.out.lab
  go_wp2_with (go_at_call 26; refine (Join_w HF.out.1 HF.out.2.2.2.1 HJ2.out.1 HJ2.out.2 (HE.out.more D.out.bel)).mono ?_)
  rintro e w4 ⟨rfl, hb⟩
  replace D := Lib.hid (D.out.more hb)
  replace G := Lib.hid ((G.out.more hb).more (Below.new w4 (.cells #[.int .i64 x.l, .int .u64 x.c, .int .i64 x.i] 24)))
  replace X := Lib.hid ((X.out.more hb).more (Below.new w4 (.cells #[.int .i64 x.l, .int .u64 x.c, .int .i64 x.i] 24)))
  have Y := Lib.hid (BoxL.new w4 x)
  replace D := Lib.hid (D.out.more (Below.new w4 (.cells #[.int .i64 x.l, .int .u64 x.c, .int .i64 x.i] 24)))
  clear hb p0 p1 p2 q0 q1 q2 r0 r1 r2 g0 g1 g2
  obtain ⟨⟨p0, p1, p2⟩, ⟨q0, q1, q2⟩, ⟨r0, r1, r2⟩⟩ := D.out.cells
  go_wp2_with (go_at_call 26; refine (Join_w HF.out.1 HF.out.2.2.1 HJ3.out.1 HJ3.out.2 (HE.out.more D.out.bel)).mono ?_)
  rintro e w5 ⟨rfl, hb⟩
  replace D := Lib.hid (D.out.more hb)
  replace G := Lib.hid ((G.out.more hb).more (Below.new w5 (.cells #[.int .i64 z.l, .int .u64 z.c, .int .i64 z.i] 24)))
  replace X := Lib.hid ((X.out.more hb).more (Below.new w5 (.cells #[.int .i64 z.l, .int .u64 z.c, .int .i64 z.i] 24)))
  replace Y := Lib.hid ((Y.out.more hb).more (Below.new w5 (.cells #[.int .i64 z.l, .int .u64 z.c, .int .i64 z.i] 24)))
  have Z := Lib.hid (BoxL.new w5 z)
  replace D := Lib.hid (D.out.more (Below.new w5 (.cells #[.int .i64 z.l, .int .u64 z.c, .int .i64 z.i] 24)))
  clear hb p0 p1 p2 q0 q1 q2 r0 r1 r2
  go_wp2
  obtain ⟨V, hV⟩ : ∃ V, w5.alloc (.cells #[.int .i64 z.l, .int .u64 z.c, .int .i64 z.i] 24) = V := ⟨_, rfl⟩
  rw [hV] at D G X Y Z ⊢
  clear hV
  refine wp_region_held_drew (S := GwS w cur a b g x z w2.heap.size w3.heap.size w4.heap.size w5.heap.size) (by kernel_rfl) (GwS.more ⟨D.out, G.out, X.out, Y.out, Z.out⟩ ((Below.refl _ V).drew)) (fun hS0 => ?_)
  refine wpAnyH_take (i := 0) (oi := { dst := some 54, op := Go.Op.move (Go.Operand.tmp 7), type := 4, pos := "law.go:87", after := #[], guard := none }) (v := ?_) rfl (by kernel_rfl) (by kernel_rfl) (by kernel_rfl) (fun _ _ _ h => h) (Or.inl ⟨by rfl, ?_⟩) hS0 ?_
  rotate_left
  · (intro wq hSw; go_simp; try with_reducible rfl)
  try simp only [Act.put, List.setIfInBounds_toArray, List.set_cons_zero, List.set_cons_succ]
  refine wpAnyH_take (i := 1) (oi := { dst := some 55, op := Go.Op.move (Go.Operand.tmp 54), type := 4, pos := "law.go:87", after := #[{ on := 0, ground := Go.Ground.data }], guard := none }) (v := ?_) rfl (by kernel_rfl) (by kernel_rfl) (by kernel_rfl) (fun _ _ _ h => h) (Or.inl ⟨by rfl, ?_⟩) hS0 ?_
  rotate_left
  · (intro wq hSw; go_simp; try with_reducible rfl)
  try simp only [Act.put, List.setIfInBounds_toArray, List.set_cons_zero, List.set_cons_succ]
  refine wpAnyH_take (i := 2) (oi := { dst := some 56, op := Go.Op.move (Go.Operand.tmp 11), type := 26, pos := "law.go:87", after := #[{ on := 1, ground := Go.Ground.guard }], guard := some (1, true) }) (v := ?_) rfl (by kernel_rfl) (by kernel_rfl) (by kernel_rfl) (fun _ _ _ h => h) (Or.inl ⟨by rfl, ?_⟩) hS0 ?_
  rotate_left
  · (intro wq hSw; go_simp; try with_reducible rfl)
  try simp only [Act.put, List.setIfInBounds_toArray, List.set_cons_zero, List.set_cons_succ]
  refine wpAnyH_take (i := 3) (oi := { dst := some 57, op := Go.Op.binOp Go.BinOp.eql 26 (Go.Operand.tmp 56) (Go.Operand.const (Go.Value.int Go.IntKind.i64 0)) 26, type := 4, pos := "law.go:87", after := #[{ on := 2, ground := Go.Ground.data }, { on := 1, ground := Go.Ground.guard }], guard := some (1, true) }) (v := ?_) rfl (by kernel_rfl) (by kernel_rfl) (by kernel_rfl) (fun _ _ _ h => h) (Or.inl ⟨by rfl, ?_⟩) hS0 ?_
  rotate_left
  · (intro wq hSw; go_simp; try with_reducible rfl)
  try simp only [Act.put, List.setIfInBounds_toArray, List.set_cons_zero, List.set_cons_succ]
  refine wpAnyH_take (i := 4) (oi := { dst := some 58, op := Go.Op.pick (Go.Operand.tmp 55) (Go.Operand.tmp 57) (Go.Operand.const (Go.Value.bool false)), type := 4, pos := "law.go:87", after := #[{ on := 1, ground := Go.Ground.data }, { on := 3, ground := Go.Ground.data }], guard := none }) (v := ?_) rfl (by kernel_rfl) (by kernel_rfl) (by kernel_rfl) (fun _ _ _ h => h) (Or.inl ⟨by rfl, ?_⟩) hS0 ?_
  rotate_left
  · (intro wq hSw; go_simp; try with_reducible rfl)
  try simp only [Act.put, List.setIfInBounds_toArray, List.set_cons_zero, List.set_cons_succ]
  refine wpAnyH_take (i := 5) (oi := { dst := some 59, op := Go.Op.move (Go.Operand.tmp 58), type := 4, pos := "law.go:87", after := #[{ on := 4, ground := Go.Ground.data }, { on := 1, ground := Go.Ground.chain }], guard := none }) (v := ?_) rfl (by kernel_rfl) (by kernel_rfl) (by kernel_rfl) (fun _ _ _ h => h) (Or.inl ⟨by rfl, ?_⟩) hS0 ?_
  rotate_left
  · (intro wq hSw; go_simp; try with_reducible rfl)
  try simp only [Act.put, List.setIfInBounds_toArray, List.set_cons_zero, List.set_cons_succ]
  refine wpAnyH_take (i := 6) (oi := { dst := some 60, op := Go.Op.move (Go.Operand.tmp 13), type := 26, pos := "law.go:87", after := #[{ on := 5, ground := Go.Ground.guard }], guard := some (5, true) }) (v := ?_) rfl (by kernel_rfl) (by kernel_rfl) (by kernel_rfl) (fun _ _ _ h => h) (Or.inl ⟨by rfl, ?_⟩) hS0 ?_
  rotate_left
  · (intro wq hSw; go_simp; try with_reducible rfl)
  try simp only [Act.put, List.setIfInBounds_toArray, List.set_cons_zero, List.set_cons_succ]
  refine wpAnyH_take (i := 7) (oi := { dst := some 61, op := Go.Op.binOp Go.BinOp.eql 26 (Go.Operand.tmp 60) (Go.Operand.const (Go.Value.int Go.IntKind.i64 0)) 26, type := 4, pos := "law.go:87", after := #[{ on := 6, ground := Go.Ground.data }, { on := 5, ground := Go.Ground.guard }], guard := some (5, true) }) (v := ?_) rfl (by kernel_rfl) (by kernel_rfl) (by kernel_rfl) (fun _ _ _ h => h) (Or.inl ⟨by rfl, ?_⟩) hS0 ?_
  rotate_left
  · (intro wq hSw; go_simp; try with_reducible rfl)
  try simp only [Act.put, List.setIfInBounds_toArray, List.set_cons_zero, List.set_cons_succ]
  refine wpAnyH_take (i := 8) (oi := { dst := some 62, op := Go.Op.pick (Go.Operand.tmp 59) (Go.Operand.tmp 61) (Go.Operand.const (Go.Value.bool false)), type := 4, pos := "law.go:87", after := #[{ on := 5, ground := Go.Ground.data }, { on := 7, ground := Go.Ground.data }], guard := none }) (v := ?_) rfl (by kernel_rfl) (by kernel_rfl) (by kernel_rfl) (fun _ _ _ h => h) (Or.inl ⟨by rfl, ?_⟩) hS0 ?_
  rotate_left
  · (intro wq hSw; go_simp; try with_reducible rfl)
  try simp only [Act.put, List.setIfInBounds_toArray, List.set_cons_zero, List.set_cons_succ]
  refine wpAnyH_take (i := 9) (oi := { dst := some 63, op := Go.Op.move (Go.Operand.tmp 62), type := 4, pos := "law.go:87", after := #[{ on := 8, ground := Go.Ground.data }, { on := 5, ground := Go.Ground.chain }], guard := none }) (v := ?_) rfl (by kernel_rfl) (by kernel_rfl) (by kernel_rfl) (fun _ _ _ h => h) (Or.inl ⟨by rfl, ?_⟩) hS0 ?_
  rotate_left
  · (intro wq hSw; go_simp; try with_reducible rfl)
  try simp only [Act.put, List.setIfInBounds_toArray, List.set_cons_zero, List.set_cons_succ]
  refine wpAnyH_take (i := 10) (oi := { dst := some 64, op := Go.Op.load 24 (Go.Operand.tmp 12), type := 24, pos := "law.go:87", after := #[{ on := 9, ground := Go.Ground.guard }], guard := some (9, true) }) (v := ?_) rfl (by kernel_rfl) (by kernel_rfl) (by kernel_rfl) (fun _ _ _ h => h) (Or.inl ⟨by rfl, ?_⟩) hS0 ?_
  rotate_left
  · (intro wq hSw; obtain ⟨y0, y1, y2⟩ := hSw.f3.lab; go_simp; try with_reducible rfl)
  try simp only [Act.put, List.setIfInBounds_toArray, List.set_cons_zero, List.set_cons_succ]
  refine wpAnyH_take (i := 11) (oi := { dst := some 65, op := Go.Op.load 24 (Go.Operand.tmp 10), type := 24, pos := "law.go:87", after := #[{ on := 9, ground := Go.Ground.guard }], guard := some (9, true) }) (v := ?_) rfl (by kernel_rfl) (by kernel_rfl) (by kernel_rfl) (fun _ _ _ h => h) (Or.inl ⟨by rfl, ?_⟩) hS0 ?_
  rotate_left
  · (intro wq hSw; obtain ⟨y0, y1, y2⟩ := hSw.f2.lab; go_simp; try with_reducible rfl)
  try simp only [Act.put, List.setIfInBounds_toArray, List.set_cons_zero, List.set_cons_succ]
  refine wpAnyH_take (i := 12) (oi := { dst := some 66, op := Go.Op.binOp Go.BinOp.eql 24 (Go.Operand.tmp 64) (Go.Operand.tmp 65) 24, type := 4, pos := "law.go:87", after := #[{ on := 10, ground := Go.Ground.data }, { on := 11, ground := Go.Ground.data }, { on := 9, ground := Go.Ground.guard }], guard := some (9, true) }) (v := ?_) rfl (by kernel_rfl) (by kernel_rfl) (by kernel_rfl) (fun _ _ _ h => h) (Or.inl ⟨by rfl, ?_⟩) hS0 ?_
  rotate_left
  · (intro wq hSw; go_simp; try with_reducible rfl)
  try simp only [Act.put, List.setIfInBounds_toArray, List.set_cons_zero, List.set_cons_succ]
  refine wpAnyH_take (i := 13) (oi := { dst := some 67, op := Go.Op.pick (Go.Operand.tmp 63) (Go.Operand.tmp 66) (Go.Operand.const (Go.Value.bool false)), type := 4, pos := "law.go:87", after := #[{ on := 9, ground := Go.Ground.data }, { on := 12, ground := Go.Ground.data }], guard := none }) (v := ?_) rfl (by kernel_rfl) (by kernel_rfl) (by kernel_rfl) (fun _ _ _ h => h) (Or.inl ⟨by rfl, ?_⟩) hS0 ?_
  rotate_left
  · (intro wq hSw; go_simp; try with_reducible rfl)
  try simp only [Act.put, List.setIfInBounds_toArray, List.set_cons_zero, List.set_cons_succ]
  refine wpAnyH_take (i := 14) (oi := { dst := some 68, op := Go.Op.move (Go.Operand.tmp 67), type := 4, pos := "law.go:87", after := #[{ on := 13, ground := Go.Ground.data }, { on := 9, ground := Go.Ground.chain }], guard := none }) (v := ?_) rfl (by kernel_rfl) (by kernel_rfl) (by kernel_rfl) (fun _ _ _ h => h) (Or.inl ⟨by rfl, ?_⟩) hS0 ?_
  rotate_left
  · (intro wq hSw; go_simp; try with_reducible rfl)
  try simp only [Act.put, List.setIfInBounds_toArray, List.set_cons_zero, List.set_cons_succ]
  refine wpAnyH_take (i := 15) (oi := { dst := some 69, op := Go.Op.move (Go.Operand.tmp 15), type := 26, pos := "law.go:87", after := #[{ on := 14, ground := Go.Ground.guard }], guard := some (14, true) }) (v := ?_) rfl (by kernel_rfl) (by kernel_rfl) (by kernel_rfl) (fun _ _ _ h => h) (Or.inl ⟨by rfl, ?_⟩) hS0 ?_
  rotate_left
  · (intro wq hSw; go_simp; try with_reducible rfl)
  try simp only [Act.put, List.setIfInBounds_toArray, List.set_cons_zero, List.set_cons_succ]
  refine wpAnyH_take (i := 16) (oi := { dst := some 70, op := Go.Op.binOp Go.BinOp.neq 26 (Go.Operand.tmp 69) (Go.Operand.const (Go.Value.int Go.IntKind.i64 0)) 26, type := 4, pos := "law.go:87", after := #[{ on := 15, ground := Go.Ground.data }, { on := 14, ground := Go.Ground.guard }], guard := some (14, true) }) (v := ?_) rfl (by kernel_rfl) (by kernel_rfl) (by kernel_rfl) (fun _ _ _ h => h) (Or.inl ⟨by rfl, ?_⟩) hS0 ?_
  rotate_left
  · (intro wq hSw; go_simp; try with_reducible rfl)
  try simp only [Act.put, List.setIfInBounds_toArray, List.set_cons_zero, List.set_cons_succ]
  refine wpAnyH_take (i := 17) (oi := { dst := some 71, op := Go.Op.move (Go.Operand.tmp 70), type := 4, pos := "law.go:87", after := #[{ on := 16, ground := Go.Ground.data }, { on := 14, ground := Go.Ground.chain }, { on := 14, ground := Go.Ground.guard }], guard := some (14, true) }) (v := ?_) rfl (by kernel_rfl) (by kernel_rfl) (by kernel_rfl) (fun _ _ _ h => h) (Or.inl ⟨by rfl, ?_⟩) hS0 ?_
  rotate_left
  · (intro wq hSw; go_simp; try with_reducible rfl)
  try simp only [Act.put, List.setIfInBounds_toArray, List.set_cons_zero, List.set_cons_succ]
  refine wpAnyH_take (i := 18) (oi := { dst := some 72, op := Go.Op.load 24 (Go.Operand.tmp 14), type := 24, pos := "law.go:87", after := #[{ on := 17, ground := Go.Ground.guard }], guard := some (17, false) }) (v := ?_) rfl (by kernel_rfl) (by kernel_rfl) (by kernel_rfl) (fun _ _ _ h => h) (Or.inl ⟨by rfl, ?_⟩) hS0 ?_
  rotate_left
  · (intro wq hSw; obtain ⟨y0, y1, y2⟩ := hSw.f4.lab; go_simp; try with_reducible rfl)
  try simp only [Act.put, List.setIfInBounds_toArray, List.set_cons_zero, List.set_cons_succ]
  refine wpAnyH_take (i := 19) (oi := { dst := some 73, op := Go.Op.load 24 (Go.Operand.tmp 10), type := 24, pos := "law.go:87", after := #[{ on := 17, ground := Go.Ground.guard }], guard := some (17, false) }) (v := ?_) rfl (by kernel_rfl) (by kernel_rfl) (by kernel_rfl) (fun _ _ _ h => h) (Or.inl ⟨by rfl, ?_⟩) hS0 ?_
  rotate_left
  · (intro wq hSw; obtain ⟨y0, y1, y2⟩ := hSw.f2.lab; go_simp; try with_reducible rfl)
  try simp only [Act.put, List.setIfInBounds_toArray, List.set_cons_zero, List.set_cons_succ]
  refine wpAnyH_take (i := 20) (oi := { dst := some 74, op := Go.Op.binOp Go.BinOp.neq 24 (Go.Operand.tmp 72) (Go.Operand.tmp 73) 24, type := 4, pos := "law.go:87", after := #[{ on := 18, ground := Go.Ground.data }, { on := 19, ground := Go.Ground.data }, { on := 17, ground := Go.Ground.guard }], guard := some (17, false) }) (v := ?_) rfl (by kernel_rfl) (by kernel_rfl) (by kernel_rfl) (fun _ _ _ h => h) (Or.inl ⟨by rfl, ?_⟩) hS0 ?_
  rotate_left
  · (intro wq hSw; go_simp; try with_reducible rfl)
  try simp only [Act.put, List.setIfInBounds_toArray, List.set_cons_zero, List.set_cons_succ]
  refine wpAnyH_take (i := 21) (oi := { dst := some 75, op := Go.Op.pick (Go.Operand.tmp 71) (Go.Operand.const (Go.Value.bool true)) (Go.Operand.tmp 74), type := 4, pos := "law.go:87", after := #[{ on := 17, ground := Go.Ground.data }, { on := 20, ground := Go.Ground.data }, { on := 14, ground := Go.Ground.guard }], guard := some (14, true) }) (v := ?_) rfl (by kernel_rfl) (by kernel_rfl) (by kernel_rfl) (fun _ _ _ h => h) (Or.inl ⟨by rfl, ?_⟩) hS0 ?_
  rotate_left
  · (intro wq hSw; go_simp; try with_reducible rfl)
  try simp only [Act.put, List.setIfInBounds_toArray, List.set_cons_zero, List.set_cons_succ]
  refine wpAnyH_take (i := 22) (oi := { dst := some 76, op := Go.Op.move (Go.Operand.tmp 75), type := 4, pos := "law.go:87", after := #[{ on := 21, ground := Go.Ground.data }, { on := 17, ground := Go.Ground.chain }, { on := 14, ground := Go.Ground.guard }], guard := some (14, true) }) (v := ?_) rfl (by kernel_rfl) (by kernel_rfl) (by kernel_rfl) (fun _ _ _ h => h) (Or.inl ⟨by rfl, ?_⟩) hS0 ?_
  rotate_left
  · (intro wq hSw; go_simp; try with_reducible rfl)
  try simp only [Act.put, List.setIfInBounds_toArray, List.set_cons_zero, List.set_cons_succ]
  refine wpAnyH_take (i := 23) (oi := { dst := some 77, op := Go.Op.load 24 (Go.Operand.tmp 8), type := 24, pos := "law.go:87", after := #[{ on := 22, ground := Go.Ground.guard }], guard := some (22, false) }) (v := ?_) rfl (by kernel_rfl) (by kernel_rfl) (by kernel_rfl) (fun _ _ _ h => h) (Or.inl ⟨by rfl, ?_⟩) hS0 ?_
  rotate_left
  · (intro wq hSw; obtain ⟨y0, y1, y2⟩ := hSw.f1.lab; go_simp; try with_reducible rfl)
  try simp only [Act.put, List.setIfInBounds_toArray, List.set_cons_zero, List.set_cons_succ]
  refine wpAnyH_take (i := 24) (oi := { dst := some 78, op := Go.Op.load 24 (Go.Operand.tmp 5), type := 24, pos := "law.go:87", after := #[{ on := 22, ground := Go.Ground.guard }], guard := some (22, false) }) (v := ?_) rfl (by kernel_rfl) (by kernel_rfl) (by kernel_rfl) (fun _ _ _ h => h) (Or.inl ⟨by rfl, ?_⟩) hS0 ?_
  rotate_left
  · (intro wq hSw; obtain ⟨y0, y1, y2⟩ := hSw.t.x2.lab; go_simp; try with_reducible rfl)
  try simp only [Act.put, List.setIfInBounds_toArray, List.set_cons_zero, List.set_cons_succ]
  refine wpAnyH_ready (rs := [25]) (by kernel_rfl) (by simp) ?_
  refine AllReadyH.cons (o := { dst := some 79, op := Go.Op.call { callee := Go.Callee.value (Go.Operand.func 24), args := #[Go.Operand.tmp 77, Go.Operand.tmp 78], argTypes := #[24, 24] }, type := 4, pos := "law.go:87", after := #[{ on := 23, ground := Go.Ground.data }, { on := 24, ground := Go.Ground.data }, { on := 22, ground := Go.Ground.chain }, { on := 22, ground := Go.Ground.guard }], guard := some (22, false) }) rfl (fun K hK => ?_) AllReadyH.nil
  go_simp
  refine (Under_w HF.out.2.2.2.1 HF.out.2.2.1 HU.out).mono ?_
  rintro e v1 ⟨rfl, hb⟩
  refine hK.out _ _ (GwS.more hS0 hb) (fun hS1 => ?_)
  clear hK K hb
  try simp only [Act.put, List.setIfInBounds_toArray, List.set_cons_zero, List.set_cons_succ]
  refine wpAnyH_take (i := 26) (oi := { dst := some 80, op := Go.Op.pick (Go.Operand.tmp 76) (Go.Operand.const (Go.Value.bool true)) (Go.Operand.tmp 79), type := 4, pos := "law.go:87", after := #[{ on := 22, ground := Go.Ground.data }, { on := 25, ground := Go.Ground.data }, { on := 14, ground := Go.Ground.guard }], guard := some (14, true) }) (v := ?_) rfl (by kernel_rfl) (by kernel_rfl) (by kernel_rfl) (fun _ _ _ h => h) (Or.inl ⟨by rfl, ?_⟩) hS1 ?_
  rotate_left
  · (intro wq hSw; go_simp; try with_reducible rfl)
  try simp only [Act.put, List.setIfInBounds_toArray, List.set_cons_zero, List.set_cons_succ]
  refine wpAnyH_take (i := 27) (oi := { dst := some 81, op := Go.Op.pick (Go.Operand.tmp 68) (Go.Operand.tmp 80) (Go.Operand.const (Go.Value.bool false)), type := 4, pos := "law.go:87", after := #[{ on := 14, ground := Go.Ground.data }, { on := 26, ground := Go.Ground.data }], guard := none }) (v := ?_) rfl (by kernel_rfl) (by kernel_rfl) (by kernel_rfl) (fun _ _ _ h => h) (Or.inl ⟨by rfl, ?_⟩) hS1 ?_
  rotate_left
  · (intro wq hSw; go_simp; try with_reducible rfl)
  try simp only [Act.put, List.setIfInBounds_toArray, List.set_cons_zero, List.set_cons_succ]
  refine wpAnyH_take (i := 28) (oi := { dst := some 82, op := Go.Op.move (Go.Operand.tmp 81), type := 4, pos := "law.go:87", after := #[{ on := 27, ground := Go.Ground.data }, { on := 25, ground := Go.Ground.chain }], guard := none }) (v := ?_) rfl (by kernel_rfl) (by kernel_rfl) (by kernel_rfl) (fun _ _ _ h => h) (Or.inl ⟨by rfl, ?_⟩) hS1 ?_
  rotate_left
  · (intro wq hSw; go_simp; try with_reducible rfl)
  try simp only [Act.put, List.setIfInBounds_toArray, List.set_cons_zero, List.set_cons_succ]
  refine wpAnyH_take (i := 29) (oi := { dst := some 83, op := Go.Op.load 24 (Go.Operand.tmp 4), type := 24, pos := "law.go:87", after := #[{ on := 28, ground := Go.Ground.guard }], guard := some (28, true) }) (v := ?_) rfl (by kernel_rfl) (by kernel_rfl) (by kernel_rfl) (fun _ _ _ h => h) (Or.inl ⟨by rfl, ?_⟩) hS1 ?_
  rotate_left
  · (intro wq hSw; obtain ⟨y0, y1, y2⟩ := hSw.t.x1.lab; go_simp; try with_reducible rfl)
  try simp only [Act.put, List.setIfInBounds_toArray, List.set_cons_zero, List.set_cons_succ]
  refine wpAnyH_take (i := 30) (oi := { dst := some 84, op := Go.Op.load 24 (Go.Operand.tmp 3), type := 24, pos := "law.go:87", after := #[{ on := 28, ground := Go.Ground.guard }], guard := some (28, true) }) (v := ?_) rfl (by kernel_rfl) (by kernel_rfl) (by kernel_rfl) (fun _ _ _ h => h) (Or.inl ⟨by rfl, ?_⟩) hS1 ?_
  rotate_left
  · (intro wq hSw; obtain ⟨y0, y1, y2⟩ := hSw.t.x0.lab; go_simp; try with_reducible rfl)
  try simp only [Act.put, List.setIfInBounds_toArray, List.set_cons_zero, List.set_cons_succ]
  refine wpAnyH_take (i := 32) (oi := { dst := some 86, op := Go.Op.load 24 (Go.Operand.tmp 8), type := 24, pos := "law.go:87", after := #[{ on := 28, ground := Go.Ground.guard }], guard := some (28, true) }) (v := ?_) rfl (by kernel_rfl) (by kernel_rfl) (by kernel_rfl) (fun _ _ _ h => h) (Or.inl ⟨by rfl, ?_⟩) hS1 ?_
  rotate_left
  · (intro wq hSw; obtain ⟨y0, y1, y2⟩ := hSw.f1.lab; go_simp; try with_reducible rfl)
  try simp only [Act.put, List.setIfInBounds_toArray, List.set_cons_zero, List.set_cons_succ]
  refine wpAnyH_ready (rs := [31]) (by kernel_rfl) (by simp) ?_
  refine AllReadyH.cons (o := { dst := some 85, op := Go.Op.call { callee := Go.Callee.value (Go.Operand.func 24), args := #[Go.Operand.tmp 83, Go.Operand.tmp 84], argTypes := #[24, 24] }, type := 4, pos := "law.go:87", after := #[{ on := 29, ground := Go.Ground.data }, { on := 30, ground := Go.Ground.data }, { on := 28, ground := Go.Ground.chain }, { on := 28, ground := Go.Ground.guard }], guard := some (28, true) }) rfl (fun K hK => ?_) AllReadyH.nil
  go_simp
  refine (Under_w HF.out.2.1 HF.out.1 HV.out).mono ?_
  rintro e v2 ⟨rfl, hb⟩
  refine hK.out _ _ (GwS.more hS1 hb) (fun hS2 => ?_)
  clear hK K hb
  try simp only [Act.put, List.setIfInBounds_toArray, List.set_cons_zero, List.set_cons_succ]
  refine wpAnyH_ready (rs := [33]) (by kernel_rfl) (by simp) ?_
  refine AllReadyH.cons (o := { dst := some 87, op := Go.Op.call { callee := Go.Callee.value (Go.Operand.func 27), args := #[], argTypes := #[] }, type := 24, pos := "law.go:87", after := #[{ on := 31, ground := Go.Ground.chain }, { on := 28, ground := Go.Ground.guard }], guard := some (28, true) }) rfl (fun K hK => ?_) AllReadyH.nil
  go_simp
  refine (bottom_any _).mono ?_
  rintro e v3 ⟨rfl, hb⟩
  refine hK.out _ _ (GwS.more hS2 hb) (fun hS3 => ?_)
  clear hK K hb
  try simp only [Act.put, List.setIfInBounds_toArray, List.set_cons_zero, List.set_cons_succ]
  refine wpAnyH_take (i := 34) (oi := { dst := some 88, op := Go.Op.binOp Go.BinOp.eql 24 (Go.Operand.tmp 86) (Go.Operand.tmp 87) 24, type := 4, pos := "law.go:87", after := #[{ on := 32, ground := Go.Ground.data }, { on := 33, ground := Go.Ground.data }, { on := 28, ground := Go.Ground.guard }], guard := some (28, true) }) (v := ?_) rfl (by kernel_rfl) (by kernel_rfl) (by kernel_rfl) (fun _ _ _ h => h) (Or.inl ⟨by rfl, ?_⟩) hS3 ?_
  rotate_left
  · (intro wq hSw; go_simp; try with_reducible rfl)
  try simp only [Act.put, List.setIfInBounds_toArray, List.set_cons_zero, List.set_cons_succ]
  refine wpAnyH_take (i := 35) (oi := { dst := some 89, op := Go.Op.binOp Go.BinOp.eql 4 (Go.Operand.tmp 85) (Go.Operand.tmp 88) 4, type := 4, pos := "law.go:87", after := #[{ on := 31, ground := Go.Ground.data }, { on := 34, ground := Go.Ground.data }, { on := 28, ground := Go.Ground.guard }], guard := some (28, true) }) (v := ?_) rfl (by kernel_rfl) (by kernel_rfl) (by kernel_rfl) (fun _ _ _ h => h) (Or.inl ⟨by rfl, ?_⟩) hS3 ?_
  rotate_left
  · (intro wq hSw; go_simp; try with_reducible rfl)
  try simp only [Act.put, List.setIfInBounds_toArray, List.set_cons_zero, List.set_cons_succ]
  refine wpAnyH_take (i := 36) (oi := { dst := some 90, op := Go.Op.pick (Go.Operand.tmp 82) (Go.Operand.tmp 89) (Go.Operand.const (Go.Value.bool false)), type := 4, pos := "law.go:87", after := #[{ on := 28, ground := Go.Ground.data }, { on := 35, ground := Go.Ground.data }], guard := none }) (v := ?_) rfl (by kernel_rfl) (by kernel_rfl) (by kernel_rfl) (fun _ _ _ h => h) (Or.inl ⟨by rfl, ?_⟩) hS3 ?_
  rotate_left
  · (intro wq hSw; go_simp; try with_reducible rfl)
  try simp only [Act.put, List.setIfInBounds_toArray, List.set_cons_zero, List.set_cons_succ]
  refine wpAnyH_take (i := 37) (oi := { dst := some 6, op := Go.Op.assign (Go.Operand.tmp 90), type := 4, pos := "law.go:87", after := #[{ on := 36, ground := Go.Ground.data }, { on := 33, ground := Go.Ground.chain }, { on := 0, ground := Go.Ground.phase }, { on := 1, ground := Go.Ground.phase }, { on := 2, ground := Go.Ground.phase }, { on := 3, ground := Go.Ground.phase }, { on := 4, ground := Go.Ground.phase }, { on := 5, ground := Go.Ground.phase }, { on := 6, ground := Go.Ground.phase }, { on := 7, ground := Go.Ground.phase }, { on := 8, ground := Go.Ground.phase }, { on := 9, ground := Go.Ground.phase }, { on := 10, ground := Go.Ground.phase }, { on := 11, ground := Go.Ground.phase }, { on := 12, ground := Go.Ground.phase }, { on := 13, ground := Go.Ground.phase }, { on := 14, ground := Go.Ground.phase }, { on := 15, ground := Go.Ground.phase }, { on := 16, ground := Go.Ground.phase }, { on := 17, ground := Go.Ground.phase }, { on := 18, ground := Go.Ground.phase }, { on := 19, ground := Go.Ground.phase }, { on := 20, ground := Go.Ground.phase }, { on := 21, ground := Go.Ground.phase }, { on := 22, ground := Go.Ground.phase }, { on := 23, ground := Go.Ground.phase }, { on := 24, ground := Go.Ground.phase }, { on := 25, ground := Go.Ground.phase }, { on := 26, ground := Go.Ground.phase }, { on := 27, ground := Go.Ground.phase }, { on := 28, ground := Go.Ground.phase }, { on := 29, ground := Go.Ground.phase }, { on := 30, ground := Go.Ground.phase }, { on := 31, ground := Go.Ground.phase }, { on := 32, ground := Go.Ground.phase }, { on := 33, ground := Go.Ground.phase }, { on := 34, ground := Go.Ground.phase }, { on := 35, ground := Go.Ground.phase }, { on := 36, ground := Go.Ground.phase }], guard := none }) (v := ?_) rfl (by kernel_rfl) (by kernel_rfl) (by kernel_rfl) (fun _ _ _ h => h) (Or.inl ⟨by rfl, ?_⟩) hS3 ?_
  rotate_left
  · (intro wq hSw; go_simp; try with_reducible rfl)
  try simp only [Act.put, List.setIfInBounds_toArray, List.set_cons_zero, List.set_cons_succ]
  refine wpAnyH_done (by kernel_rfl) ?_ _
  have DD := Lib.hid hS3.t.bel
  go_wp2
  go_ret
  exact ⟨rfl, DD.out⟩
theorem same_eq {a b : Lab} (h : a.same b = true) : a = b := by
  simp only [Lab.same, Bool.and_eq_true, beq_iff_eq] at h
  exact Lab.ext h.1.1 h.1.2 h.2
theorem ceilingGains_w (H : Api) (cur a b : Lab) (hc : cur.fits) (ha : a.fits) (hb : b.fits) (w : World) (hs : Ce w) : Calls Tryd.prog 8 #[.agg #[.int .i64 cur.l, .int .u64 cur.c, .int .i64 cur.i], .agg #[.int .i64 a.l, .int .u64 a.c, .int .i64 a.i], .agg #[.int .i64 b.l, .int .u64 b.c, .int .i64 b.i]] w (BoolP true w) := by
  cases hr : (cur.right && a.right) with
  | false => exact gains_bad H (gain_bad hr) rfl (twoE_no hr) hc ha hb hs
  | true =>
    obtain ⟨r1, r2⟩ := Bool.and_eq_true _ _ ▸ hr
    have hgr : (cur.right && (gapL cur a).right) = true := by rw [r1, gap_right r2]; rfl
    have hgf : (gapL cur a).fits := gap_fits ha
    have j3 : twoJ cur (gapL cur a) = cur.join a := by rw [twoJ_yes hgr, gap_join hc ha r1]
    have hgb := gap_bot hc ha r1 r2
    cases hr3 : (cur.right && b.right) with
    | false => exact gains_i H (gain_ok hr) hgf (twoJ_yes hr) (twoE_yes hr) j3 (twoE_yes hgr) rfl (twoE_no hr3) hgb rfl (by decide) hc ha hb hs
    | true =>
      obtain ⟨_, r3⟩ := Bool.and_eq_true _ _ ▸ hr3
      cases hz : (cur.join b).same (cur.join a) with
      | false => exact gains_z H (gain_ok hr) hgf (twoJ_yes hr) (twoE_yes hr) j3 (twoE_yes hgr) (twoJ_yes hr3) (twoE_yes hr3) hgb rfl hz hc ha hb hs
      | true => exact gains_y H (gain_ok hr) hgf (twoJ_yes hr) (twoE_yes hr) j3 (twoE_yes hgr) (twoJ_yes hr3) (twoE_yes hr3) hgb rfl hz (gap_least hc ha hb r1 r2 r3 (same_eq hz)) hc ha hb hs

end Go.Proofs.YtciohfeifihobaaDoor
