/- The three sentinels, and errors.errorType's variable; what is kept of them. -/
import Derived.Test.YtpmelbjbkdflgaaDoorChecked
import Derived.WalkKit
import Derived.WalkSpells
import Derived.WalkLawsBesides
import Derived.Lib.Hide
import Derived.Deep.RegionWith
import Derived.BigCall
import Derived.RegionTactic
import Derived.LaidEql
import Derived.Stop.Asserts
import Derived.RowKitTokens
namespace Go.Proofs.YtpmelbjbkdflgaaDoor
open Go.RowKit

theorem below_more {n : Nat} {w w1 w2 : World} (h : Below n w w1) (k : Below w1.heap.size w1 w2) (hn : n ≤ w.heap.size := by exact Nat.le_refl _) : Below n w w2 := h.trans (k.mono (Nat.le_trans hn h.size))
theorem Below.new (w : World) (o : Obj) : Below w.heap.size w (w.alloc o) := (Below.refl _ w).alloc (Nat.le_refl _) _

/-- Where the three sentinels lie: no width, too few, too great. -/
structure Sn where
  w : Addr
  f : Addr
  g : Addr

def errV (a : Addr) : Value := .iface 118 (.pointer (some a))
def Blk0 (w : World) (a : Addr) : Prop := ∃ c t, w.heap[a.block]? = some (.cells c t (0, 0))
theorem Blk0.lt {w : World} {a : Addr} (h : Blk0 w a) : a.block < w.heap.size := by
  obtain ⟨c, t, h⟩ := h
  exact (Array.getElem?_eq_some_iff.1 h).1

structure Sent (s : Sn) (w : World) : Prop where
  cw : w.cell? ⟨1, 0, none⟩ = some (.iface 118 (.pointer (some s.w)))
  cf : w.cell? ⟨2, 0, none⟩ = some (.iface 118 (.pointer (some s.f)))
  cg : w.cell? ⟨0, 0, none⟩ = some (.iface 118 (.pointer (some s.g)))
  ct : w.cell? ⟨3, 0, none⟩ = some (.iface 103 (.agg #[.pointer (some ⟨4, 47, none⟩)]))
  bw : Blk0 w s.w
  bf : Blk0 w s.f
  bg : Blk0 w s.g
  wf : s.w ≠ s.f
  wg : s.w ≠ s.g
  fg : s.f ≠ s.g

theorem Sent.below {s : Sn} {n : Nat} {A B : World} (h : Sent s A) (hn : A.heap.size ≤ n) (hb : Below n A B) : Sent s B := by
  have l1 := World.block_lt_of_cell? A _ h.cw
  have l2 := World.block_lt_of_cell? A _ h.cf
  have l3 := World.block_lt_of_cell? A _ h.cg
  have l4 := World.block_lt_of_cell? A _ h.ct
  have k1 := h.bw.lt
  have k2 := h.bf.lt
  have k3 := h.bg.lt
  refine ⟨(hb.cell (p := ⟨1, 0, none⟩) (by simp at l1 ⊢; omega)).trans h.cw, (hb.cell (p := ⟨2, 0, none⟩) (by simp at l2 ⊢; omega)).trans h.cf, (hb.cell (p := ⟨0, 0, none⟩) (by simp at l3 ⊢; omega)).trans h.cg, (hb.cell (p := ⟨3, 0, none⟩) (by simp at l4 ⊢; omega)).trans h.ct, ?_, ?_, ?_, h.wf, h.wg, h.fg⟩
  · obtain ⟨c, t, e⟩ := h.bw
    exact ⟨c, t, (hb.block _ (by omega)).trans e⟩
  · obtain ⟨c, t, e⟩ := h.bf
    exact ⟨c, t, (hb.block _ (by omega)).trans e⟩
  · obtain ⟨c, t, e⟩ := h.bg
    exact ⟨c, t, (hb.block _ (by omega)).trans e⟩
theorem Sent.more {s : Sn} {A B : World} (h : Sent s A) (hb : Below A.heap.size A B) : Sent s B := h.below (Nat.le_refl _) hb
theorem Sent.alloc {s : Sn} {A : World} (h : Sent s A) (o : Obj) : Sent s (A.alloc o) := h.more (Below.new A o)

/-- A fault of so many bytes, for the reason at a. -/
def faultV (k : Int) (a : Addr) : Value := .iface 62 (.agg #[.int .i64 k, .iface 118 (.pointer (some a))])

end Go.Proofs.YtpmelbjbkdflgaaDoor
