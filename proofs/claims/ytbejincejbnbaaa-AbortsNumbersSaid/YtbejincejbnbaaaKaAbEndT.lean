/- The laws of chapter 13 over the code's own lists. -/
import Derived.Test.YtbejincejbnbaaaKa13
import Derived.Test.YtbejincejbnbaaaKa14
import Derived.Test.YtbejincejbnbaaaKa15
namespace Go.Proofs.Ytbejincejbnbaaa
open Go.RowKit
open Go.AbMath
open Go.ProdMath
open Go.BatMath hiding AllB getD_lt take_all
set_option linter.unusedVariables false

theorem abKnown_end (w : World) : Calls Try.prog 15 #[] w (GivesBool w true) := known13_any abCode w
theorem abTells_end (w : World) (a0 : Option Addr) (len0 cap0 : Nat) (z0 : List Int) (a1 : Option Addr) (len1 cap1 : Nat) (l1 : List Ak) (a2 a3 : Int) (a4 : Option Addr) (len4 cap4 : Nat) (z4 : List Int) (a5 : Option Addr) (len5 cap5 : Nat) (z5 : List Int)
 (w0 : IsRow .i64 w a0 len0 cap0 z0) (hs0 : len0 ≤ 140737488355328) (w1 : RowAt akK w a1 len1 cap1 l1) (x1 : ∀ y ∈ l1, AkIn y) (hs1 : len1 ≤ 1048576) (w4 : IsRow .u8 w a4 len4 cap4 z4) (hs4 : len4 ≤ 1048576) (w5 : IsRow .i64 w a5 len5 cap5 z5) (hs5 : len5 ≤ 1048576) :
 Calls Try.prog 4 #[.slice a0 len0 cap0, .slice a1 len1 cap1, .int .i64 a2, .int .i64 a3, .slice a4 len4 cap4, .slice a5 len5 cap5] w (GivesBool w true) :=
 abTells_any abCode abKnown_end w a0 len0 cap0 _ (IsRow.nums w0).1 hs0 a1 len1 cap1 l1 w1 (by omega) x1 a2 a3 a4 len4 cap4 _ w4.byt (by omega) a5 len5 cap5 _ (IsRow.nums w5).1 hs5
theorem abNumbers_end (w : World) : Calls Try.prog 3 #[] w (GivesBool w true) := abNumbers_any abCode abKnown_end w
end Go.Proofs.Ytbejincejbnbaaa
