/- Contract of EncodeRow of the reference erasureref01. -/
import Derived.Test.YtdckpjkbchibjaaVi
namespace Go.Proofs.Ytdckpjkbchibjaa
open Go.RowKit Go.Proofs.EB
open Go.Lib (byteCells)
set_option maxHeartbeats 1000000
attribute [local go_sem] World.cell?_alloc_some

theorem int6_cells (m x4 x3 x2 x1 x0 : Int) (h0 : 0 ≤ m) (h4 : x4 = m / 256 ^ 4 % 256) (h3 : x3 = m / 256 ^ 3 % 256) (h2 : x2 = m / 256 ^ 2 % 256) (h1 : x1 = m / 256 ^ 1 % 256) (hx : x0 = m / 256 ^ 0 % 256) :
    (#[.int .u8 2, .int .u8 x4, .int .u8 x3, .int .u8 x2, .int .u8 x1, .int .u8 x0] : Array Value).toList = byteCells (2 :: int5 m) := by
  have e4 := byteAt_cell m 4 x4 h0 h4
  have e3 := byteAt_cell m 3 x3 h0 h3
  have e2 := byteAt_cell m 2 x2 h0 h2
  have e1 := byteAt_cell m 1 x1 h0 h1
  have e0 := byteAt_cell m 0 x0 h0 hx
  simp only [byteCells, List.map_cons, List.map_nil, List.cons.injEq, and_true] at e4 e3 e2 e1 e0
  simp [byteCells, int5, e4, e3, e2, e1, e0]

end Go.Proofs.Ytdckpjkbchibjaa
