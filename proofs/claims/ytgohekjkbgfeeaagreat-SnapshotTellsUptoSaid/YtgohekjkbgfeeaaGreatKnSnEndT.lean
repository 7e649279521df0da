/- A law of chapter 12 over the code's own snapshots. -/
import Derived.Test.YtgohekjkbgfeeaaGreatKn15
import Derived.Test.YtgohekjkbgfeeaaGreatKn17
import Derived.Test.YtgohekjkbgfeeaaGreatKn19
namespace Go.Proofs.YtgohekjkbgfeeaaGreat
open Go.RowKit
open Go.SnapMath
open Go.ProdMath
open Go.BatMath hiding AllB take_all
set_option linter.unusedVariables false

theorem snapTells_end (w : World) (a0 : Option Addr) (len0 cap0 : Nat) (z0 : List Int) (a1 : Int) (a2 : Option Addr) (len2 cap2 : Nat) (z2 : List Int) (a3 a4 : Int) (a5 : Option Addr) (len5 cap5 : Nat) (z5 : List Int) (a6 a7 : Int)
 (w0 : IsRow .i64 w a0 len0 cap0 z0) (hs0 : len0 ≤ 140737488355328) (w2 : IsRow .u8 w a2 len2 cap2 z2) (hs2 : len2 ≤ 1048590) (w3 : (Lit.int .i64 a3).wf = true) (w4 : (Lit.int .u8 a4).wf = true) (w5 : IsRow .i64 w a5 len5 cap5 z5) (hs5 : len5 ≤ 100000000) (w7 : (Lit.int .i64 a7).wf = true) :
 Calls Tryz.prog 4 #[.slice a0 len0 cap0, .int .i64 a1, .slice a2 len2 cap2, .int .i64 a3, .int .u8 a4, .slice a5 len5 cap5, .int .i64 a6, .int .i64 a7] w (GivesBool w true) := by
 obtain ⟨h0, h1⟩ := wf_byte w4
 obtain ⟨t, rfl⟩ : ∃ t : Nat, a4 = (t : Int) := ⟨a4.toNat, by omega⟩
 exact snTells_any snCode snKnown w a0 len0 cap0 (rowDoes_any w a0 len0 cap0 _ (IsRow.nums w0).1 hs0 25 (by decide)) a1 a2 len2 cap2 _ w2.byt hs2 a3 (in_of w3) t a5 len5 cap5 _ (isRow_ids w5) hs5 a6 a7 (bounds_i64 w7)
end Go.Proofs.YtgohekjkbgfeeaaGreat
