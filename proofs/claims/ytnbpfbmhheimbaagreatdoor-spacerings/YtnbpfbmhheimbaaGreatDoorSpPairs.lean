/- What is told, as pairs. -/
import Derived.Test.YtnbpfbmhheimbaaGreatDoorSwQueues
namespace Go.Proofs.YtnbpfbmhheimbaaGreatDoor
open Go.RowKit Go.Proofs.Fld Go.Proofs.Rng Go.Proofs.Spc Go.Shelf Go.Sort

theorem wr_pair (l : List Ob) (q : Int) (n : It) (a : Int) (t : It) : ∃ c b kr, wrR l q n a t = (c, b) ∧ b.length = kr := ⟨_, _, _, rfl, rfl⟩
theorem cu_pair (l : List Ob) (q : Int) (n : It) (a : Int) : ∃ c b kr, cuR l q n a = (c, b) ∧ b.length = kr := ⟨_, _, _, rfl, rfl⟩
theorem dr_pair (l : List Ob) (n : It) : ∃ c b kr, dropR l n = (c, b) ∧ b.length = kr := ⟨_, _, _, rfl, rfl⟩

end Go.Proofs.YtnbpfbmhheimbaaGreatDoor
