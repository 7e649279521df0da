/- The laws of chapter 14 over the code's own fold. -/
import Derived.Test.YtipaebflkebdjaaKa14
import Derived.Test.YtipaebflkebdjaaKaFoOpen
import Derived.Test.YtipaebflkebdjaaKa15
import Derived.Test.YtipaebflkebdjaaKa16
namespace Go.Proofs.Ytipaebflkebdjaa
open Go.RowKit
open Go.FoMath
open Go.ProdMath
open Go.BatMath hiding AllB getD_lt take_all In64
set_option linter.unusedVariables false

/-- The code does what the laws ask (foCode : FoCode comes from the code's own contracts). -/
theorem foKnown_end (C : FoCode) (w : World) : Calls Try.prog 13 #[] w (GivesBool w true) := known14_any C w
theorem foTells_end (C : FoCode) (w : World) (a0 : Option Addr) (len0 cap0 : Nat) (z0 : List Int) (w0 : IsRow .i64 w a0 len0 cap0 z0) (hs0 : len0 ≤ 140737488355328) (a1 a2 a3 : Int) (a4 : Bool) (ra : Option Addr) (rn rc : Nat) (da : Option Addr) (dn dc : Nat) (nx st : Int) (rs : List Gt) (ds : List Dr) (hr : RowAt gtK w ra rn rc rs) (hd : RowAt drK w da dn dc ds) (hdn : dn ≤ 140737488355328) :
 Calls Try.prog 4 #[.slice a0 len0 cap0, .int .i64 a1, .int .i64 a2, .int .i64 a3, .bool a4, .agg #[.slice ra rn rc, .slice da dn dc, .int .i64 nx, .int .i64 st]] w (GivesBool w true) :=
 foTells_any C (foKnown_end C) w a0 len0 cap0 _ (IsRow.nums w0).1 hs0 a1 a2 a3 a4 ra rn rc da dn dc nx st rs ds hr hd hdn
theorem foNumbers_end (C : FoCode) (w : World) : Calls Try.prog 3 #[] w (GivesBool w true) := foNumbers_any C (foKnown_end C) w
theorem foBegins_end (C : FoCode) (w : World) (a0 : Option Addr) (len0 cap0 : Nat) (z0 : List Int) (w0 : IsRow .i64 w a0 len0 cap0 z0) (hs0 : len0 ≤ 140737488355328) (n : Int) (hn : (Lit.int .i64 n).wf = true) :
 Calls Try.prog 6 #[.slice a0 len0 cap0, .int .i64 n] w (GivesBool w true) := foBegins_any C (foKnown_end C) w a0 len0 cap0 _ (IsRow.nums w0).1 hs0 n ⟨(bounds_i64 hn).1, (bounds_i64 hn).2⟩
theorem foStable_end (C : FoCode) (w : World) (a0 : Option Addr) (len0 cap0 : Nat) (z0 : List Int) (w0 : IsRow .i64 w a0 len0 cap0 z0) (hs0 : len0 ≤ 140737488355328) (n : Int) (hn : (Lit.int .i64 n).wf = true) :
 Calls Try.prog 5 #[.slice a0 len0 cap0, .int .i64 n] w (GivesBool w true) := foStable_any C (foKnown_end C) w a0 len0 cap0 _ (IsRow.nums w0).1 hs0 n ⟨(bounds_i64 hn).1, (bounds_i64 hn).2⟩
theorem foParts_end (C : FoCode) (w : World) (a0 : Option Addr) (len0 cap0 : Nat) (z0 : List Int) (w0 : IsRow .i64 w a0 len0 cap0 z0) (hs0 : len0 ≤ 140737488355328) (a b c : Int) (only : Bool) :
 Calls Try.prog 7 #[.slice a0 len0 cap0, .int .i64 a, .int .i64 b, .int .i64 c, .bool only] w (GivesBool w true) := foParts_any C (foKnown_end C) w a0 len0 cap0 _ (IsRow.nums w0).1 hs0 a b c only
end Go.Proofs.Ytipaebflkebdjaa
