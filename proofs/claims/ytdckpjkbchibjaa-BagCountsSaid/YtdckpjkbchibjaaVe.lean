/- Contracts of Format of package value at texts, and of awake: it returns true. -/
import Derived.Test.YtdckpjkbchibjaaVd
namespace Go.Proofs.Ytdckpjkbchibjaa
open Go.RowKit Go.Proofs.EB
open Go.Lib (byteCells)
set_option maxHeartbeats 400000


end Go.Proofs.Ytdckpjkbchibjaa
