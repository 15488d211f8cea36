/- Labels that a law's own variables hold. -/
import Derived.Test.YtciohfeifihobaaDoorCeHead
namespace Go.Proofs.YtciohfeifihobaaDoor
open Go.RowKit Go.Proofs.Cats Go.Proofs.Cel Go.Shelf Go.Sort

structure Tv2 (w W : World) (a b : Lab) : Prop where
  bel : Below w.heap.size w W
  x0 : BoxL W (w.heap.size) a
  x1 : BoxL W (w.heap.size + 1) b
theorem Tv2.more {w W W' : World} {a b : Lab} (k : Tv2 w W a b) (hb : Below W.heap.size W W') : Tv2 w W' a b := ⟨below_more k.bel hb, k.x0.more hb, k.x1.more hb⟩
theorem Tv2.cells {w W : World} {a b : Lab} (k : Tv2 w W a b) : (W.cell? ⟨w.heap.size, 0, none⟩ = some (.int .i64 a.l) ∧ W.cell? ⟨w.heap.size, 1, none⟩ = some (.int .u64 a.c) ∧ W.cell? ⟨w.heap.size, 2, none⟩ = some (.int .i64 a.i)) ∧ (W.cell? ⟨w.heap.size + 1, 0, none⟩ = some (.int .i64 b.l) ∧ W.cell? ⟨w.heap.size + 1, 1, none⟩ = some (.int .u64 b.c) ∧ W.cell? ⟨w.heap.size + 1, 2, none⟩ = some (.int .i64 b.i)) := ⟨k.x0.lab, k.x1.lab⟩
structure Tv3 (w W : World) (a b c : Lab) : Prop where
  bel : Below w.heap.size w W
  x0 : BoxL W (w.heap.size) a
  x1 : BoxL W (w.heap.size + 1) b
  x2 : BoxL W (w.heap.size + 1 + 1) c
theorem Tv3.more {w W W' : World} {a b c : Lab} (k : Tv3 w W a b c) (hb : Below W.heap.size W W') : Tv3 w W' a b c := ⟨below_more k.bel hb, k.x0.more hb, k.x1.more hb, k.x2.more hb⟩
theorem Tv3.cells {w W : World} {a b c : Lab} (k : Tv3 w W a b c) : (W.cell? ⟨w.heap.size, 0, none⟩ = some (.int .i64 a.l) ∧ W.cell? ⟨w.heap.size, 1, none⟩ = some (.int .u64 a.c) ∧ W.cell? ⟨w.heap.size, 2, none⟩ = some (.int .i64 a.i)) ∧ (W.cell? ⟨w.heap.size + 1, 0, none⟩ = some (.int .i64 b.l) ∧ W.cell? ⟨w.heap.size + 1, 1, none⟩ = some (.int .u64 b.c) ∧ W.cell? ⟨w.heap.size + 1, 2, none⟩ = some (.int .i64 b.i)) ∧ (W.cell? ⟨w.heap.size + 1 + 1, 0, none⟩ = some (.int .i64 c.l) ∧ W.cell? ⟨w.heap.size + 1 + 1, 1, none⟩ = some (.int .u64 c.c) ∧ W.cell? ⟨w.heap.size + 1 + 1, 2, none⟩ = some (.int .i64 c.i)) := ⟨k.x0.lab, k.x1.lab, k.x2.lab⟩
structure Tv4 (w W : World) (a b c d : Lab) : Prop where
  bel : Below w.heap.size w W
  x0 : BoxL W (w.heap.size) a
  x1 : BoxL W (w.heap.size + 1) b
  x2 : BoxL W (w.heap.size + 1 + 1) c
  x3 : BoxL W (w.heap.size + 1 + 1 + 1) d
theorem Tv4.more {w W W' : World} {a b c d : Lab} (k : Tv4 w W a b c d) (hb : Below W.heap.size W W') : Tv4 w W' a b c d := ⟨below_more k.bel hb, k.x0.more hb, k.x1.more hb, k.x2.more hb, k.x3.more hb⟩
theorem Tv4.cells {w W : World} {a b c d : Lab} (k : Tv4 w W a b c d) : (W.cell? ⟨w.heap.size, 0, none⟩ = some (.int .i64 a.l) ∧ W.cell? ⟨w.heap.size, 1, none⟩ = some (.int .u64 a.c) ∧ W.cell? ⟨w.heap.size, 2, none⟩ = some (.int .i64 a.i)) ∧ (W.cell? ⟨w.heap.size + 1, 0, none⟩ = some (.int .i64 b.l) ∧ W.cell? ⟨w.heap.size + 1, 1, none⟩ = some (.int .u64 b.c) ∧ W.cell? ⟨w.heap.size + 1, 2, none⟩ = some (.int .i64 b.i)) ∧ (W.cell? ⟨w.heap.size + 1 + 1, 0, none⟩ = some (.int .i64 c.l) ∧ W.cell? ⟨w.heap.size + 1 + 1, 1, none⟩ = some (.int .u64 c.c) ∧ W.cell? ⟨w.heap.size + 1 + 1, 2, none⟩ = some (.int .i64 c.i)) ∧ (W.cell? ⟨w.heap.size + 1 + 1 + 1, 0, none⟩ = some (.int .i64 d.l) ∧ W.cell? ⟨w.heap.size + 1 + 1 + 1, 1, none⟩ = some (.int .u64 d.c) ∧ W.cell? ⟨w.heap.size + 1 + 1 + 1, 2, none⟩ = some (.int .i64 d.i)) := ⟨k.x0.lab, k.x1.lab, k.x2.lab, k.x3.lab⟩
theorem Tv2.of (w : World) (a b : Lab) : Tv2 w ((w.alloc (.cells #[.int .i64 a.l, .int .u64 a.c, .int .i64 a.i] 24)).alloc (.cells #[.int .i64 b.l, .int .u64 b.c, .int .i64 b.i] 24)) a b := by
  obtain ⟨h1, h2, h3⟩ := two_boxes w a b
  exact ⟨h1, h2, h3⟩
theorem Tv3.of (w : World) (a b c : Lab) : Tv3 w (((w.alloc (.cells #[.int .i64 a.l, .int .u64 a.c, .int .i64 a.i] 24)).alloc (.cells #[.int .i64 b.l, .int .u64 b.c, .int .i64 b.i] 24)).alloc (.cells #[.int .i64 c.l, .int .u64 c.c, .int .i64 c.i] 24)) a b c := by
  obtain ⟨h1, h2, h3, h4⟩ := three_boxes w a b c
  exact ⟨h1, h2, h3, h4⟩
theorem Tv4.of (w : World) (a b c d : Lab) : Tv4 w ((((w.alloc (.cells #[.int .i64 a.l, .int .u64 a.c, .int .i64 a.i] 24)).alloc (.cells #[.int .i64 b.l, .int .u64 b.c, .int .i64 b.i] 24)).alloc (.cells #[.int .i64 c.l, .int .u64 c.c, .int .i64 c.i] 24)).alloc (.cells #[.int .i64 d.l, .int .u64 d.c, .int .i64 d.i] 24)) a b c d := by
  obtain ⟨h1, h2, h3, h4⟩ := three_boxes w a b c
  have hN := Below.new (((w.alloc (.cells #[.int .i64 a.l, .int .u64 a.c, .int .i64 a.i] 24)).alloc (.cells #[.int .i64 b.l, .int .u64 b.c, .int .i64 b.i] 24)).alloc (.cells #[.int .i64 c.l, .int .u64 c.c, .int .i64 c.i] 24)) (.cells #[.int .i64 d.l, .int .u64 d.c, .int .i64 d.i] 24)
  have h5 := BoxL.new (((w.alloc (.cells #[.int .i64 a.l, .int .u64 a.c, .int .i64 a.i] 24)).alloc (.cells #[.int .i64 b.l, .int .u64 b.c, .int .i64 b.i] 24)).alloc (.cells #[.int .i64 c.l, .int .u64 c.c, .int .i64 c.i] 24)) d
  rw [World.size_alloc, World.size_alloc, World.size_alloc] at h5
  exact ⟨below_more h1 hN, h2.more hN, h3.more hN, h4.more hN, h5⟩

end Go.Proofs.YtciohfeifihobaaDoor
