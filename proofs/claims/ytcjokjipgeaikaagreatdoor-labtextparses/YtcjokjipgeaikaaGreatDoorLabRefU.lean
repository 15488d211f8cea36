/- The contracts of the document's own Right, Under. -/
import Derived.Test.YtcjokjipgeaikaaGreatDoorLabKit
import Derived.Test.YtcjokjipgeaikaaGreatDoorLabJudge
import Derived.Test.YtcjokjipgeaikaaGreatDoorRefLess
namespace Go.Proofs.YtcjokjipgeaikaaGreatDoor.Lb
open Go.RowKit Go.Proofs.Cats Go.Shelf

end Go.Proofs.YtcjokjipgeaikaaGreatDoor.Lb
