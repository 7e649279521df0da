/- The contract of the book's Within. -/
import Derived.Test.YtelbignfecjjhaaBytes
namespace Go.Proofs.Ytelbignfecjjhaa
open Go.RowKit
set_option linter.unusedVariables false

/-- 'Within' from 0 on gives a place up to the last one. -/
theorem within_in (n hi : Int) (w : World) (h0 : 0 ≤ n) (h1 : n ≤ hi) : Calls Try.prog 17 #[.int .i64 n, .int .i64 0, .int .i64 hi] w fun e w' => e = .returned (.int .i64 n) ∧ w = w' := by
  go_enter Try.func17, Try.ntmps17
  go_wp2
  go_ret
  exact ⟨rfl, rfl⟩
theorem as_nat {X hi : Int} {w : World} (h0 : 0 ≤ X) (h1 : X ≤ hi) : ∃ k : Nat, Ending.returned (.int .i64 X) = .returned (.int .i64 k) ∧ (k : Int) ≤ hi ∧ w = w :=
  ⟨X.toNat, by rw [Int.toNat_of_nonneg h0], by omega, rfl⟩
theorem within_any (n hi : Int) (w : World) (hn : -9223372036854775808 ≤ n ∧ n ≤ 9223372036854775807) (hh : 0 ≤ hi ∧ hi ≤ 281474976710656) :
    Calls Try.prog 17 #[.int .i64 n, .int .i64 0, .int .i64 hi] w fun e w' => ∃ k : Nat, e = .returned (.int .i64 k) ∧ (k : Int) ≤ hi ∧ w = w' := by
  by_cases h : 0 ≤ n ∧ n ≤ hi
  · refine (within_in n hi w h.1 h.2).mono ?_
    rintro e w' ⟨rfl, rfl⟩
    exact ⟨n.toNat, by rw [Int.toNat_of_nonneg h.1], by omega, rfl⟩
  · have hg : (decide (0 ≤ n) && decide (n ≤ hi)) = false := by
      simp only [Bool.and_eq_false_iff, decide_eq_false_iff_not]; omega
    have m1 : n.tmod (hi + 1) < hi + 1 := Int.tmod_lt_of_pos _ (by omega)
    have m2 : -(hi + 1) < n.tmod (hi + 1) := by
      have := Int.tmod_lt_of_pos (-n) (b := hi + 1) (by omega)
      rw [Int.neg_tmod] at this
      omega
    have m3 : n % (hi + 1) < hi + 1 := Int.emod_lt_of_pos _ (by omega)
    have m4 : 0 ≤ n % (hi + 1) := Int.emod_nonneg _ (by omega)
    go_enter Try.func17, Try.ntmps17
    go_wp2
    all_goals
      go_ret
      exact as_nat (by omega) (by omega)
end Go.Proofs.Ytelbignfecjjhaa
