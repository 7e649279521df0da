/- The laws of chapter 13 over the code's own lists. -/
import Derived.Test.YtbejincejbnbaaaKa13
import Derived.Test.YtbejincejbnbaaaKa16
import Derived.Test.YtbejincejbnbaaaKa14
namespace Go.Proofs.Ytbejincejbnbaaa
open Go.RowKit
open Go.AbMath
open Go.ProdMath
open Go.BatMath hiding AllB getD_lt take_all
set_option linter.unusedVariables false

theorem abKnownW_end (w : World) : Calls Try.prog 15 #[] w (GivesBool w true) := known13_any abCode w
theorem abWithin_end (w : World) (a0 : Option Addr) (len0 cap0 : Nat) (z0 : List Int) (w0 : IsRow .i64 w a0 len0 cap0 z0) (hs0 : len0 ≤ 140737488355328) (a b c d : Int) :
 Calls Try.prog 5 #[.slice a0 len0 cap0, .int .i64 a, .int .i64 b, .int .i64 c, .int .i64 d] w (GivesBool w true) :=
 abWithin_any abCode abKnownW_end w a0 len0 cap0 (abRow_any w a0 len0 cap0 _ (IsRow.nums w0).1 hs0 40 (by decide)) a b c d
theorem abCut_end (w : World) (a0 : Option Addr) (len0 cap0 : Nat) (z0 : List Int) (w0 : IsRow .i64 w a0 len0 cap0 z0) (hs0 : len0 ≤ 140737488355328) (n : Int) (hn : (Lit.int .i64 n).wf = true) :
 Calls Try.prog 6 #[.slice a0 len0 cap0, .int .i64 n] w (GivesBool w true) :=
 abCut_any abCode abKnownW_end w a0 len0 cap0 (abRow_any w a0 len0 cap0 _ (IsRow.nums w0).1 hs0 40 (by decide)) n ⟨(bounds_i64 hn).1, (bounds_i64 hn).2⟩
end Go.Proofs.Ytbejincejbnbaaa
