/- The contracts of the functions over one rune: small, digit, allowed. -/
import Derived.WalkKit
import Derived.BigCall
import Derived.Below
import Derived.Lib.Hide
import Derived.Deep.Light
import Derived.Test.YtjocfkkcnkpjdaaDoorProg
import Derived.Test.YtjocfkkcnkpjdaaDoorRunes
import Derived.Test.YtjocfkkcnkpjdaaDoorNameIt
namespace Go.Proofs.YtjocfkkcnkpjdaaDoor
open Go.RowKit
open Go.RuneMath
set_option linter.unusedVariables false

def smallR (r : Nat) : Bool := decide (97 ≤ r ∧ r ≤ 122)
def digitR (r : Nat) : Bool := decide (48 ≤ r ∧ r ≤ 57)
theorem small_any (w : World) (r : Nat) : Calls Tryd.prog 60 #[.int .i32 (r : Int)] w fun e w' => e = .returned (.bool (smallR r)) ∧ w = w' := by
  obtain ⟨b, hb⟩ : ∃ b, b = smallR r := ⟨_, rfl⟩
  rw [← hb]
  have HB := Lib.hid hb
  clear hb
  go_enter Tryd.func60, Tryd.ntmps60
  go_wp2
  all_goals
    go_ret
    exact ⟨ret_bool (by rw [HB.out]; unfold smallR; rw [Bool.eq_iff_iff]; simp; omega), rfl⟩
theorem digit_any (w : World) (r : Nat) : Calls Tryd.prog 61 #[.int .i32 (r : Int)] w fun e w' => e = .returned (.bool (digitR r)) ∧ w = w' := by
  obtain ⟨b, hb⟩ : ∃ b, b = digitR r := ⟨_, rfl⟩
  rw [← hb]
  have HB := Lib.hid hb
  clear hb
  go_enter Tryd.func61, Tryd.ntmps61
  go_wp2
  all_goals
    go_ret
    exact ⟨ret_bool (by rw [HB.out]; unfold digitR; rw [Bool.eq_iff_iff]; simp; omega), rfl⟩
set_option maxHeartbeats 2000000 in
theorem allowed_any (w : World) (r : Nat) : Calls Tryd.prog 49 #[.int .i32 (r : Int)] w fun e w' => e = .returned (.bool (okR r)) ∧ w = w' := by
  obtain ⟨b, hb⟩ : ∃ b, b = okR r := ⟨_, rfl⟩
  rw [← hb]
  have HB := Lib.hid hb
  clear hb
  obtain ⟨s, hs⟩ : ∃ s, s = smallR r := ⟨_, rfl⟩
  obtain ⟨d, hd⟩ : ∃ d, d = digitR r := ⟨_, rfl⟩
  have CS0 := small_any w r
  have CD0 := digit_any w r
  rw [← hs] at CS0
  rw [← hd] at CD0
  have HS := Lib.hid hs
  have HD := Lib.hid hd
  have CS := Lib.hid CS0
  have CD := Lib.hid CD0
  clear hs hd CS0 CD0
  cases s <;> cases d
  all_goals
    go_enter Tryd.func49, Tryd.ntmps49
    go_wp2_with (first | (go_at_call 60; refine CS.out.mono ?_; rintro e w' ⟨rfl, rfl⟩) | (go_at_call 61; refine CD.out.mono ?_; rintro e w' ⟨rfl, rfl⟩))
    all_goals
      go_ret
      have e1 := HS.out
      have e2 := HD.out
      have e3 := HB.out
      clear HB HS HD CS CD
      unfold okR at e3
      unfold smallR at e1
      unfold digitR at e2
      refine ⟨ret_bool ?_, rfl⟩
      rw [e3, Bool.eq_iff_iff]
      clear e3
      go_light
      simp at *
      omega
end Go.Proofs.YtjocfkkcnkpjdaaDoor
