/- The contract of small, a function over one rune. -/
import Derived.WalkKit
import Derived.BigCall
import Derived.Below
import Derived.Lib.Hide
import Derived.Deep.Light
import Derived.Test.YtifogkacjfpipaaProg
import Derived.Test.YtifogkacjfpipaaRunes
namespace Go.Proofs.Ytifogkacjfpipaa
open Go.RowKit
open Go.RuneMath
set_option linter.unusedVariables false

def smallR (r : Nat) : Bool := decide (97 ≤ r ∧ r ≤ 122)
def digitR (r : Nat) : Bool := decide (48 ≤ r ∧ r ≤ 57)
theorem ret_bool {a b : Bool} (h : a = b) : Ending.returned (.bool a) = .returned (.bool b) := by rw [h]
theorem small_any (w : World) (r : Nat) : Calls Try.prog 31 #[.int .i32 (r : Int)] w fun e w' => e = .returned (.bool (smallR r)) ∧ w = w' := by
  obtain ⟨b, hb⟩ : ∃ b, b = smallR r := ⟨_, rfl⟩
  rw [← hb]
  have HB := Lib.hid hb
  clear hb
  go_enter Try.func31, Try.ntmps31
  go_wp2
  all_goals
    go_ret
    exact ⟨ret_bool (by rw [HB.out]; unfold smallR; rw [Bool.eq_iff_iff]; simp; omega), rfl⟩
end Go.Proofs.Ytifogkacjfpipaa
