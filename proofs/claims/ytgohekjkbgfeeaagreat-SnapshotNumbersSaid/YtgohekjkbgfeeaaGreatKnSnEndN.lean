/- A law of chapter 12 over the code's own snapshots. -/
import Derived.Test.YtgohekjkbgfeeaaGreatKn15
import Derived.Test.YtgohekjkbgfeeaaGreatKn19
namespace Go.Proofs.YtgohekjkbgfeeaaGreat
open Go.RowKit
open Go.SnapMath
open Go.ProdMath
open Go.BatMath hiding AllB take_all
set_option linter.unusedVariables false

theorem snapNumbers_end (w : World) : Calls Tryz.prog 3 #[] w (GivesBool w true) := snNumbers_any snCode snKnown w
end Go.Proofs.YtgohekjkbgfeeaaGreat
