/- The laws of chapter 15 over the code's own log. -/
import Derived.Test.YtjmfdildnojknaaGreatKORKMdOpen
import Derived.Test.YtjmfdildnojknaaGreatKORK19
set_option maxRecDepth 100000
set_option maxHeartbeats 16000000
set_option linter.unusedVariables false
namespace Go.Proofs.YtjmfdildnojknaaGreat
open Go.RowKit
open Go.FoMath
open Go.ProdMath
open Go.BatMath hiding AllB getD_lt take_all In64
theorem mdOnce_end (w : World) (a0 : Option Addr) (len0 cap0 : Nat) (z0 : List Int) (w0 : IsRow .i64 w a0 len0 cap0 z0) (hs0 : len0 ≤ 140737488355328) :
 Calls Tryz.prog 5 #[.slice a0 len0 cap0] w (GivesBool w true) :=
 mdOnce_any mdCode w a0 len0 cap0 _ (IsRow.nums w0).1 hs0
theorem mdRef_end (w : World) (a0 : Option Addr) (len0 cap0 : Nat) (z0 : List Int) (w0 : IsRow .i64 w a0 len0 cap0 z0) (hs0 : len0 ≤ 140737488355328) (a1 : Option Addr) (len1 cap1 : Nat) (l1 : List BM) (w1 : BatsAt w a1 len1 cap1 l1) (x1 : BatsOk (bats l1)) (hs1 : len1 ≤ 140737488355328) (n : Int) (hn : (Lit.int .i64 n).wf = true) :
 Calls Tryz.prog 6 #[.slice a0 len0 cap0, .slice a1 len1 cap1, .int .i64 n] w (GivesBool w true) :=
 mdRef_any mdCode w a0 len0 cap0 _ (IsRow.nums w0).1 hs0 a1 len1 cap1 l1 w1 x1 n ⟨(bounds_i64 hn).1, (bounds_i64 hn).2⟩ hs1
theorem mdKeeps_end (w : World) (a0 : Option Addr) (len0 cap0 : Nat) (z0 : List Int) (w0 : IsRow .i64 w a0 len0 cap0 z0) (hs0 : len0 ≤ 140737488355328) (a1 : Option Addr) (len1 cap1 : Nat) (z1 : List Int) (w1 : IsRow .i64 w a1 len1 cap1 z1) (hs1 : len1 ≤ 140737488355328) :
 Calls Tryz.prog 7 #[.slice a0 len0 cap0, .slice a1 len1 cap1] w (GivesBool w true) :=
 mdKeeps_any mdCode w a0 len0 cap0 _ (IsRow.nums w0).1 hs0 a1 len1 cap1 (numsIn_of (IsRow.nums w1).1 hs1)
end Go.Proofs.YtjmfdildnojknaaGreat
