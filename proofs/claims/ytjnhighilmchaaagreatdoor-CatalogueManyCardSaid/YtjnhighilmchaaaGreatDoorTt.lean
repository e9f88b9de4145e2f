/- The table of powers of ten, out of a row's condition. -/
import Derived.Test.YtjnhighilmchaaaGreatDoorMC
import Derived.Test.YtjnhighilmchaaaGreatDoorRows
import Derived.Lib.LaidTab
namespace Go.Proofs.YtjnhighilmchaaaGreatDoor
open Go.RowKit Go.Proofs.EB
end Go.Proofs.YtjnhighilmchaaaGreatDoor
