/- The document's own rune1. -/
import Derived.WalkKit
import Derived.BigCall
import Derived.Below
import Derived.Lib.Hide
import Derived.Deep.Light
import Derived.Test.YtjocfkkcnkpjdaaDoorNameIt
namespace Go.Proofs.YtjocfkkcnkpjdaaDoor
open Go.RowKit
open Go.RuneMath
set_option linter.unusedVariables false

set_option maxHeartbeats 2000000 in
theorem rune1_any (w : World) (r : Nat) : Calls Tryd.prog 58 #[.int .i32 (r : Int)] w fun e w' => e = .returned (.bool (okR r)) ∧ w = w' := by
  obtain ⟨b, hb⟩ : ∃ b, b = okR r := ⟨_, rfl⟩
  rw [← hb]
  have HB := Lib.hid hb
  clear hb
  go_enter Tryd.func58, Tryd.ntmps58
  go_wp2
  all_goals
    go_ret
    exact ⟨ret_bool (by rw [HB.out]; unfold okR; rw [Bool.eq_iff_iff]; simp; omega), rfl⟩
end Go.Proofs.YtjocfkkcnkpjdaaDoor
