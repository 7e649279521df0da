/- The laws of chapter 15 over the code's own log. -/
import Derived.Test.YtjmfdildnojknaaGreatKPMdOpen
import Derived.Test.YtjmfdildnojknaaGreatKP19
set_option maxRecDepth 100000
set_option maxHeartbeats 16000000
set_option linter.unusedVariables false
namespace Go.Proofs.YtjmfdildnojknaaGreat
open Go.RowKit
open Go.FoMath
open Go.ProdMath
open Go.BatMath hiding AllB getD_lt take_all In64
theorem mdPlays_end (w : World) (a0 : Option Addr) (len0 cap0 : Nat) (z0 : List Int) (w0 : IsRow .i64 w a0 len0 cap0 z0) (hs0 : len0 ≤ 140737488355328) (n : Int) (hn : (Lit.int .i64 n).wf = true) (a2 : Option Addr) (len2 cap2 : Nat) (l2 : List Am) (w2 : AmsAt w a2 len2 cap2 l2) (hs2 : len2 * 176 ≤ 140737488355328) :
 Calls Tryz.prog 4 #[.slice a0 len0 cap0, .int .i64 n, .slice a2 len2 cap2] w (GivesBool w true) :=
 mdPlays_any mdCode w a0 len0 cap0 _ (IsRow.nums w0).1 hs0 n ⟨(bounds_i64 hn).1, (bounds_i64 hn).2⟩ a2 len2 cap2 l2 w2 hs2
end Go.Proofs.YtjmfdildnojknaaGreat
