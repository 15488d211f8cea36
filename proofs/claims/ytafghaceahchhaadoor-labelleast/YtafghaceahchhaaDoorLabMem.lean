/- Label variables in memory, any number of them. -/
import Derived.Test.YtafghaceahchhaaDoorLabShown
import Derived.Deep.RegionHeld3
namespace Go.Proofs.YtafghaceahchhaaDoor
open Go.RowKit Go.Proofs.Cats Go.Shelf

/-- In W the listed blocks hold the listed labels; what lay in w lies as it lay; error's type is there. -/
def LabsAt (w : World) (L : List (Nat × Lab)) (W : World) : Prop := (∀ p ∈ L, LabAt W p.1 0 p.2) ∧ Below w.heap.size w W ∧ ErrT W
theorem LabsAt.later {w W W1 : World} {L : List (Nat × Lab)} (h : LabsAt w L W) (hb : Below W.heap.size W W1) : LabsAt w L W1 :=
  ⟨fun p hp => ⟨cell_later hb (h.1 p hp).1, cell_later hb (h.1 p hp).2.1, cell_later hb (h.1 p hp).2.2⟩, below_more h.2.1 hb, h.2.2.more hb⟩
theorem LabsAt.drew {w W : World} {L : List (Nat × Lab)} (h : LabsAt w L W) : LabsAt w L W.drew := ⟨h.1, h.2.1.drew, h.2.2⟩
theorem LabsAt.below {w W : World} {L : List (Nat × Lab)} (h : LabsAt w L W) : Below w.heap.size w W := h.2.1
theorem LabsAt.err {w W : World} {L : List (Nat × Lab)} (h : LabsAt w L W) : ErrT W := h.2.2
theorem labsAt_nil {w W : World} (hB : Below w.heap.size w W) (hg : ErrT W) : LabsAt w [] W := ⟨(fun _ h => by cases h), hB, hg⟩
theorem labsAt_cons {w W : World} {L : List (Nat × Lab)} {b : Nat} {x : Lab} (h0 : W.cell? ⟨b, 0, none⟩ = some (.int .i64 x.l)) (h1 : W.cell? ⟨b, 1, none⟩ = some (.int .u64 x.c)) (h2 : W.cell? ⟨b, 2, none⟩ = some (.int .i64 x.i)) (h : LabsAt w L W) : LabsAt w ((b, x) :: L) W :=
  ⟨fun p hp => by
    rcases List.mem_cons.1 hp with rfl | hp
    · exact ⟨h0, h1, h2⟩
    · exact h.1 p hp, h.2⟩
theorem labsAt_head {w W : World} {L : List (Nat × Lab)} {b : Nat} {x : Lab} (h : LabsAt w ((b, x) :: L) W) :
    W.cell? ⟨b, 0, none⟩ = some (.int .i64 x.l) ∧ W.cell? ⟨b, 1, none⟩ = some (.int .u64 x.c) ∧ W.cell? ⟨b, 2, none⟩ = some (.int .i64 x.i) ∧ LabsAt w L W :=
  ⟨(h.1 _ (List.mem_cons_self ..)).1, (h.1 _ (List.mem_cons_self ..)).2.1, (h.1 _ (List.mem_cons_self ..)).2.2, fun p hp => h.1 p (List.mem_cons_of_mem _ hp), h.2⟩

end Go.Proofs.YtafghaceahchhaaDoor
