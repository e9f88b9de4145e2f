/- The reference's Format. -/
import Derived.Test.YtmikeifkmjhioaaGreatDoorVr
namespace Go.Proofs.YtmikeifkmjhioaaGreatDoor
open Go.RowKit Go.Proofs.EB
set_option maxHeartbeats 1000000
attribute [local go_sem] World.cell?_alloc_some

/-- The text form of a clean value. -/
def fmtV (x : V) : List UInt8 := if x.k = 1 then Lib.itoa x.n else if x.k = 2 then quoteL x.s.data.toList ++ [34] else [110, 117, 108, 108]
end Go.Proofs.YtmikeifkmjhioaaGreatDoor
