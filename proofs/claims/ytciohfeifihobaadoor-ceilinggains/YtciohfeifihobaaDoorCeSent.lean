/- The three sentinels of ceiling; what stops one. -/
import Derived.Test.YtciohfeifihobaaDoorLabRefJ
import Derived.LaidEql
import Derived.Stop.Asserts
import Derived.RowKitTokens
namespace Go.Proofs.YtciohfeifihobaaDoor
open Go.RowKit Go.Proofs.Cats

/-- Where the three sentinels lie: no label, above the ceiling, down. -/
structure Sn where
  n : Addr
  a : Addr
  d : Addr
def errV (a : Addr) : Value := .iface 116 (.pointer (some a))
def Blk0 (w : World) (a : Addr) : Prop := ∃ c t, w.heap[a.block]? = some (.cells c t (0, 0))
theorem Blk0.lt {w : World} {a : Addr} (h : Blk0 w a) : a.block < w.heap.size := by
  obtain ⟨c, t, h⟩ := h
  exact (Array.getElem?_eq_some_iff.1 h).1
structure Sent (s : Sn) (w : World) : Prop where
  cn : w.cell? ⟨0, 0, none⟩ = some (.iface 116 (.pointer (some s.n)))
  ca : w.cell? ⟨1, 0, none⟩ = some (.iface 116 (.pointer (some s.a)))
  cd : w.cell? ⟨2, 0, none⟩ = some (.iface 116 (.pointer (some s.d)))
  bn : Blk0 w s.n
  ba : Blk0 w s.a
  bd : Blk0 w s.d
  na : s.n ≠ s.a
  nd : s.n ≠ s.d
  ad : s.a ≠ s.d
theorem Sent.below {s : Sn} {n : Nat} {A B : World} (h : Sent s A) (hn : A.heap.size ≤ n) (hb : Below n A B) : Sent s B := by
  have l1 := World.block_lt_of_cell? A _ h.cn
  have l2 := World.block_lt_of_cell? A _ h.ca
  have l3 := World.block_lt_of_cell? A _ h.cd
  have k1 := h.bn.lt
  have k2 := h.ba.lt
  have k3 := h.bd.lt
  refine ⟨(hb.cell (p := ⟨0, 0, none⟩) (by simp at l1 ⊢; omega)).trans h.cn, (hb.cell (p := ⟨1, 0, none⟩) (by simp at l2 ⊢; omega)).trans h.ca, (hb.cell (p := ⟨2, 0, none⟩) (by simp at l3 ⊢; omega)).trans h.cd, ?_, ?_, ?_, h.na, h.nd, h.ad⟩
  · obtain ⟨c, t, e⟩ := h.bn
    exact ⟨c, t, (hb.block _ (by omega)).trans e⟩
  · obtain ⟨c, t, e⟩ := h.ba
    exact ⟨c, t, (hb.block _ (by omega)).trans e⟩
  · obtain ⟨c, t, e⟩ := h.bd
    exact ⟨c, t, (hb.block _ (by omega)).trans e⟩
theorem Sent.more {s : Sn} {A B : World} (h : Sent s A) (hb : Below A.heap.size A B) : Sent s B := h.below (Nat.le_refl _) hb
/-- Who goes no further: where one is, to how many labels one floated, and why. -/
def stopV (x : Lab) (k : Int) (a : Addr) : Value := .iface 57 (.agg #[.int .i64 x.l, .int .u64 x.c, .int .i64 x.i, .int .i64 k, .iface 116 (.pointer (some a))])
end Go.Proofs.YtciohfeifihobaaDoor
