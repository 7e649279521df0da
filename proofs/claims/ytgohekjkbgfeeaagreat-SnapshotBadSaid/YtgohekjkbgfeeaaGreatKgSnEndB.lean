/- A law of chapter 12 over the code's own snapshots. -/
import Derived.Test.YtgohekjkbgfeeaaGreatKg19
import Derived.Test.YtgohekjkbgfeeaaGreatKg16
import Derived.Test.YtgohekjkbgfeeaaGreatKg21
namespace Go.Proofs.YtgohekjkbgfeeaaGreat
open Go.RowKit
open Go.SnapMath
open Go.ProdMath
open Go.BatMath hiding AllB getD_lt take_all
set_option linter.unusedVariables false

theorem snapBad_end (w : World) (a0 : Option Addr) (len0 cap0 : Nat) (z0 : List Int) (a1 a2 : Int) (w0 : IsRow .i64 w a0 len0 cap0 z0) (hs0 : len0 ≤ 140737488355328) (w1 : (Lit.int .i64 a1).wf = true) (w2 : (Lit.int .u8 a2).wf = true) :
    Calls Tryz.prog 6 #[.slice a0 len0 cap0, .int .i64 a1, .int .u8 a2] w (GivesBool w true) := by
  obtain ⟨h0, h1⟩ := wf_byte w2
  obtain ⟨t, rfl⟩ : ∃ t : Nat, a2 = (t : Int) := ⟨a2.toNat, by omega⟩
  exact snBad_any snCode snKnown w a0 len0 cap0 (rowDoes_any w a0 len0 cap0 _ (IsRow.nums w0).1 hs0 20 (by decide)) a1 (in_of w1) t (by omega)
end Go.Proofs.YtgohekjkbgfeeaaGreat
