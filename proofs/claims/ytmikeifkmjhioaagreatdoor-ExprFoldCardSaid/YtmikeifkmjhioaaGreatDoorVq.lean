/- The reference's Quote and Digits. -/
import Derived.Test.YtmikeifkmjhioaaGreatDoorVf
import Derived.Test.YtmikeifkmjhioaaGreatDoorSh
namespace Go.Proofs.YtmikeifkmjhioaaGreatDoor
open Go.RowKit Go.Proofs.EB
open Go.Lib (byteCells)
set_option maxHeartbeats 1000000
attribute [local go_sem] World.cell?_alloc_some

end Go.Proofs.YtmikeifkmjhioaaGreatDoor
