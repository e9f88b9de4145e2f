/- The table of powers of ten, out of a row's condition. -/
import Derived.Test.YtenonljnldbkiaaGreatDoorMC
import Derived.Test.YtenonljnldbkiaaGreatDoorRows
import Derived.Lib.LaidTab
namespace Go.Proofs.YtenonljnldbkiaaGreatDoor
open Go.RowKit Go.Proofs.EB
end Go.Proofs.YtenonljnldbkiaaGreatDoor
