/- Gain, as callers have it. -/
import Derived.Test.YtciohfeifihobaaDoorCeGain
namespace Go.Proofs.YtciohfeifihobaaDoor
open Go.RowKit Go.Proofs.Cats Go.Proofs.Cel Go.Shelf Go.Sort

/-- What Gain's last region holds. -/
structure GaS (w : World) (X : Nat) (x : Lab) (W : World) : Prop where
  b : Below w.heap.size w W
  x : BoxL W X x
theorem GaS.more {w : World} {X : Nat} {x : Lab} {A B : World} (h : GaS w X x A) (k : Below A.heap.size A B) : GaS w X x B := ⟨below_more h.b k, h.x.more k⟩
theorem GaS.set {w : World} {X : Nat} {x : Lab} {A : World} {u v t : Value} (hlt : w.heap.size + 1 + 1 < X) (h : GaS w X x A) : GaS w X x (((A.setCell ⟨w.heap.size + 1 + 1, 0, none⟩ u).setCell ⟨w.heap.size + 1 + 1, 1, none⟩ v).setCell ⟨w.heap.size + 1 + 1, 2, none⟩ t) :=
  ⟨below_set3 h.b (by omega) u v t, h.x.other3 (by omega)⟩

set_option maxRecDepth 100000 in
set_option maxHeartbeats 4000000 in
theorem GGain_w {cur a x : Lab} {c : Int} {w : World} (hc : cur.fits) (ha : a.fits) (h : gainL cur a = (c, x)) (hs : Ce w) :
    Calls Tryd.prog 16 #[.agg #[.int .i64 cur.l, .int .u64 cur.c, .int .i64 cur.i], .agg #[.int .i64 a.l, .int .u64 a.c, .int .i64 a.i]] w (LaP c x w) := by
  obtain ⟨s, hS⟩ := hs.sn
  obtain ⟨h0, h1, h2, h3⟩ := three_boxZ w cur a
  have HB := Lib.hid (show GnS w _ cur a from ⟨h0, h1, h2, h3⟩)
  have HS := Lib.hid (hS.more h0)
  have HC := Lib.hid (fun W (hw : Sent s W) => floGain_w (w := W) hc ha h hw)
  clear hc ha h hs hS h0 h1 h2 h3
  go_enter Tryd.func16, Tryd.ntmps16
  go_wp2_with (go_at_call 35; refine (HC.out _ HS.out).mono ?_)
  rintro e w1 ⟨⟨v, hv, rfl⟩, hb1⟩
  have hN := Below.new w1 (.cells #[.int .i64 x.l, .int .u64 x.c, .int .i64 x.i] 24)
  have HB2 := Lib.hid ((HB.out.more hb1).more hN)
  have HS1 := Lib.hid ((HS.out.more hb1).more hN)
  have HV := Lib.hid hv
  have HX := Lib.hid (show w.heap.size + 1 + 1 < w1.heap.size from (HB.out.more hb1).r.lt)
  have HG := Lib.hid (show GaS w w1.heap.size x (w1.alloc (.cells #[.int .i64 x.l, .int .u64 x.c, .int .i64 x.i] 24)).drew from GaS.more ⟨HB2.out.b, BoxL.new w1 x⟩ (Below.refl _ _).drew)
  clear hb1 hv hN
  go_wp2
  refine wp_region_held_drew (S := GaS w w1.heap.size x) (by kernel_rfl) (HG.out) (fun hS0 => ?_)
  refine wpAnyH_take (i := 0) (oi := { dst := some 15, op := Go.Op.load 24 (Go.Operand.tmp 6), type := 24, pos := "ceiling.go:200", after := #[], guard := none }) (v := ?_) rfl (by kernel_rfl) (by kernel_rfl) (by kernel_rfl) (fun _ _ _ h => h) (Or.inl ⟨by rfl, ?_⟩) hS0 ?_
  rotate_left
  · (intro wq hSw; have hx := BoxL.lab (GaS.x hSw); obtain ⟨x0, x1, x2⟩ := hx; go_simp; try with_reducible rfl)
  try simp only [Act.put, List.setIfInBounds_toArray, List.set_cons_zero, List.set_cons_succ]
  refine wpAnyH_take (i := 1) (oi := { dst := some 16, op := Go.Op.move (Go.Operand.tmp 7), type := 44, pos := "ceiling.go:200", after := #[], guard := none }) (v := ?_) rfl (by kernel_rfl) (by kernel_rfl) (by kernel_rfl) (fun _ _ _ h => h) (Or.inl ⟨by rfl, ?_⟩) hS0 ?_
  rotate_left
  · (intro wq hSw; have hx := BoxL.lab (GaS.x hSw); obtain ⟨x0, x1, x2⟩ := hx; go_simp; try with_reducible rfl)
  try simp only [Act.put, List.setIfInBounds_toArray, List.set_cons_zero, List.set_cons_succ]
  refine wpAnyH_ready (rs := [2]) (by kernel_rfl) (by simp) ?_
  refine AllReadyH.cons (o := { dst := some 17, op := Go.Op.call { callee := Go.Callee.value (Go.Operand.func 30), args := #[Go.Operand.tmp 16], argTypes := #[44] }, type := 26, pos := "ceiling.go:200", after := #[{ on := 1, ground := Go.Ground.data }], guard := none }) rfl (fun K hK => ?_) AllReadyH.nil
  go_simp
  refine (told_any HV.out (Sent.more HS1.out (below_more (Below.refl _ _).drew (Below.refl _ _)))).mono ?_
  rintro e w2 ⟨rfl, hb2⟩
  refine hK.out _ _ (GaS.more hS0 hb2) (fun hS1 => ?_)
  clear hK K
  have HZ := Lib.hid (BoxL.more (HB2.out.r.more (Below.refl _ _).drew) hb2)
  clear hb2
  try simp only [Act.put, List.setIfInBounds_toArray, List.set_cons_zero, List.set_cons_succ]
  refine wpAnyH_ready (rs := [3]) (by kernel_rfl) (by simp) ?_
  refine AllReadyH.cons (o := { dst := none, op := Go.Op.store 24 (Go.Operand.tmp 4) (Go.Operand.tmp 15), type := 0, pos := "ceiling.go:200", after := #[{ on := 0, ground := Go.Ground.data }, { on := 2, ground := Go.Ground.chain }, { on := 0, ground := Go.Ground.phase }, { on := 1, ground := Go.Ground.textOnly Go.Departure.lateStores }, { on := 2, ground := Go.Ground.textOnly Go.Departure.lateStoresUnsure }], guard := none }) rfl (fun K hK => ?_) AllReadyH.nil
  obtain ⟨g0, g1, g2⟩ := HZ.out.lab
  obtain ⟨fg0, fg1, fg2⟩ := HZ.out.frozen
  have HZ2 := Lib.hid (HZ.out.set x)
  go_simp
  refine hK.out _ _ (GaS.set HX.out hS1) (fun hS2 => ?_)
  clear hK K
  clear g0 g1 g2 fg0 fg1 fg2
  try simp only [Act.put, List.setIfInBounds_toArray, List.set_cons_zero, List.set_cons_succ]
  refine wpAnyH_take (i := 4) (oi := { dst := some 5, op := Go.Op.assign (Go.Operand.tmp 17), type := 26, pos := "ceiling.go:200", after := #[{ on := 2, ground := Go.Ground.data }, { on := 3, ground := Go.Ground.chain }, { on := 0, ground := Go.Ground.phase }, { on := 1, ground := Go.Ground.phase }, { on := 2, ground := Go.Ground.phase }, { on := 3, ground := Go.Ground.phase }], guard := none }) (v := ?_) rfl (by kernel_rfl) (by kernel_rfl) (by kernel_rfl) (fun _ _ _ h => h) (Or.inl ⟨by rfl, ?_⟩) hS2 ?_
  rotate_left
  · (intro wq hSw; have hx := BoxL.lab (GaS.x hSw); obtain ⟨x0, x1, x2⟩ := hx; go_simp; try with_reducible rfl)
  try simp only [Act.put, List.setIfInBounds_toArray, List.set_cons_zero, List.set_cons_succ]
  refine wpAnyH_done (by kernel_rfl) ?_ _
  obtain ⟨c0, c1, c2⟩ := HZ2.out.lab
  have hbf := hS2.b
  clear hS2
  go_wp2
  refine bodyPost_ret (v := .tuple #[.agg #[.int .i64 x.l, .int .u64 x.c, .int .i64 x.i], .int .i64 c]) ?_ rfl ⟨rfl, hbf⟩
  clear hbf
  generalize ((w2.setCell ⟨w.heap.size + 1 + 1, 0, none⟩ (.int .i64 x.l)).setCell ⟨w.heap.size + 1 + 1, 1, none⟩ (.int .u64 (x.c : Int))).setCell ⟨w.heap.size + 1 + 1, 2, none⟩ (.int .i64 x.i) = WF at c0 c1 c2 ⊢
  simp [results, Tryd.results16, go_sem, c0, c1, c2]
end Go.Proofs.YtciohfeifihobaaDoor
