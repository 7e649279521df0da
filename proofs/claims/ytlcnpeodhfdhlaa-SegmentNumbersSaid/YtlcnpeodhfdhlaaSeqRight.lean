/- Chapter 5's functions: the contract of Right. No condition but that an int is one. -/
import Derived.Test.YtlcnpeodhfdhlaaRows
import Derived.Test.YtlcnpeodhfdhlaaGPlain
import Derived.WalkKit
import Derived.IntWalk
import Derived.Lib.Hide
import Derived.Outline
namespace Go.Proofs.Ytlcnpeodhfdhlaa
open Go.RowKit
open Go.SeqMath
set_option linter.unusedVariables false

theorem seq_right (n : Int) (w : World) (r : Bool) (hr : rightB n = r) :
    Calls Try.prog 82 #[.int .i64 n] w fun e w' => e = .returned (.bool r) ∧ w = w' := by
  subst hr
  by_cases h0 : 0 ≤ n
  · by_cases h1 : n ≤ 2147483647
    · rw [right_yes h0 h1]
      go_enter Try.func82, Try.ntmps82
      go_wp2
      go_ret
      exact ⟨rfl, rfl⟩
    · have h1' : 2147483647 < n := by omega
      rw [right_no (.inr h1')]
      go_enter Try.func82, Try.ntmps82
      go_wp2
      go_ret
      exact ⟨rfl, rfl⟩
  · have h0' : n < 0 := by omega
    rw [right_no (.inl h0')]
    go_enter Try.func82, Try.ntmps82
    go_wp2
    go_ret
    exact ⟨rfl, rfl⟩
end Go.Proofs.Ytlcnpeodhfdhlaa
