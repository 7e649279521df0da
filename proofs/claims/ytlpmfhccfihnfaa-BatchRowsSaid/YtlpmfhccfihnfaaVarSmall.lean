/- The contracts of the code's small functions: unsigned, signed. What their arithmetic comes to. -/
import Derived.Test.YtlpmfhccfihnfaaBytes
import Derived.Test.YtlpmfhccfihnfaaVarMath
import Derived.Outline
namespace Go.Proofs.Ytlpmfhccfihnfaa
open Go.RowKit
open Go.VarMath hiding AllB
set_option linter.unusedVariables false

theorem wrap_u64' (n : Int) : IntKind.u64.wrap n = n % 18446744073709551616 := by simp [IntKind.wrap, IntKind.bits, IntKind.signed]
theorem u64_keep (a : Nat) (ha : a < 18446744073709551616) : bits .xor .u64 (a : Int) 0 = (a : Int) := by
  have := u64_xor_nat a 0 ha (by decide)
  rw [Nat.xor_zero] at this
  exact this
theorem u64_flip (a : Nat) (ha : a < 18446744073709551616) : bits .xor .u64 (a : Int) 18446744073709551615 = 18446744073709551615 - (a : Int) := by
  show IntKind.u64.wrap ((BitVec.ofInt 64 (a : Int) ^^^ BitVec.ofInt 64 18446744073709551615).toNat : Int) = _
  have h1 : BitVec.ofInt 64 18446744073709551615 = BitVec.allOnes 64 := by decide
  rw [h1, BitVec.xor_allOnes, BitVec.toNat_not, ofInt_u64 a ha, wrap_u64']
  omega
theorem i64_flip (a : Nat) (ha : a < 9223372036854775808) : bits .xor .i64 (a : Int) (-1) = -1 - (a : Int) := by
  show IntKind.i64.wrap ((BitVec.ofInt 64 (a : Int) ^^^ BitVec.ofInt 64 (-1)).toNat : Int) = _
  have h1 : BitVec.ofInt 64 (-1) = BitVec.allOnes 64 := by decide
  rw [h1, BitVec.xor_allOnes, BitVec.toNat_not, ofInt_u64 a (by omega)]
  simp [IntKind.wrap, IntKind.bits, IntKind.signed]
  omega
theorem i64_keep (a : Nat) (ha : a < 9223372036854775808) : bits .xor .i64 (a : Int) 0 = (a : Int) := by
  show IntKind.i64.wrap ((BitVec.ofInt 64 (a : Int) ^^^ BitVec.ofInt 64 0).toNat : Int) = _
  have h1 : BitVec.ofInt 64 0 = 0#64 := by decide
  rw [h1, BitVec.xor_zero, ofInt_u64 a (by omega)]
  simp [IntKind.wrap, IntKind.bits, IntKind.signed]
  omega
theorem and_one (u : Nat) (hu : u < 18446744073709551616) : bits .and .u64 (u : Int) 1 = ((u % 2 : Nat) : Int) := by
  have := u64_and_nat u 1 hu (by decide)
  rw [nat_mask1] at this
  exact this
theorem ret_u64 {a b : Int} (h : a = b) : Ending.returned (.int .u64 a) = .returned (.int .u64 b) := by rw [h]
theorem ret_i64 {a b : Int} (h : a = b) : Ending.returned (.int .i64 a) = .returned (.int .i64 b) := by rw [h]
theorem zig_pos (n : Int) (h0 : 0 ≤ n) (h1 : n ≤ 9223372036854775807) : bits .xor .u64 (n * 2) (n / 9223372036854775808) = ((zig n : Nat) : Int) := by
  have h2 := zig_nonneg h0
  have h3 : n / 9223372036854775808 = 0 := by omega
  have h4 : n * 2 = ((zig n : Nat) : Int) := by omega
  have h5 := zig_lt (n := n) (by omega) h1
  rw [h3, h4, u64_keep _ h5]
theorem zig_minus (n : Int) (h0 : n < 0) (h1 : -9223372036854775808 ≤ n) (a b : Int) (ha : a = n * 2 % 18446744073709551616) (hb : b = 18446744073709551615) : bits .xor .u64 a b = ((zig n : Nat) : Int) := by
  have h2 := zig_neg h0
  have h3 : a = (((18446744073709551615 - zig n : Nat)) : Int) := by omega
  have h5 := zig_lt (n := n) h1 (by omega)
  rw [h3, hb, u64_flip _ (by omega)]
  omega
set_option maxHeartbeats 400000 in
theorem unsigned_any (n : Int) (w : World) (h0 : -9223372036854775808 ≤ n) (h1 : n ≤ 9223372036854775807) :
    Calls Try.prog 88 #[.int .i64 n] w fun e w' => e = .returned (.int .u64 (zig n : Nat)) ∧ w = w' := by
  by_cases hn : 0 ≤ n
  · go_enter Try.func88, Try.ntmps88
    go_wp2
    go_ret
    exact ⟨ret_u64 (zig_pos n hn h1), rfl⟩
  · have hn' : n < 0 := by omega
    go_enter Try.func88, Try.ntmps88
    go_wp2
    go_ret
    exact ⟨ret_u64 (zig_minus n hn' h0 _ _ (by rw [wrap_u64', wrap_u64']; omega) (by rw [wrap_u64']; omega)), rfl⟩
theorem zag_bits (u : Nat) (hu : u < 18446744073709551616) (a : Int) (ha : a = -((u % 2 : Nat) : Int)) : bits .xor .i64 ((u : Int) / 2) a = zag u := by
  have h2 : (u : Int) / 2 = ((u / 2 : Nat) : Int) := by omega
  rw [h2]
  unfold zag
  by_cases h : u % 2 = 0
  · have h3 : a = 0 := by omega
    rw [if_pos h, h3, i64_keep _ (by omega)]
  · have h3 : a = -1 := by omega
    rw [if_neg h, h3, i64_flip _ (by omega)]
    omega
theorem zag_arg (u : Nat) (hu : u < 18446744073709551616) : wrap64 (-wrap64 (bits .and .u64 (u : Int) 1)) = -((u % 2 : Nat) : Int) := by
  rw [and_one u hu]
  have h1 : wrap64 ((u % 2 : Nat) : Int) = ((u % 2 : Nat) : Int) := by unfold wrap64; omega
  rw [h1]; unfold wrap64; omega
theorem signed_any (u : Nat) (w : World) (hu : u < 18446744073709551616) :
    Calls Try.prog 89 #[.int .u64 u] w fun e w' => e = .returned (.int .i64 (zag u)) ∧ w = w' := by
  go_enter Try.func89, Try.ntmps89
  go_wp2
  go_ret
  exact ⟨ret_i64 (zag_bits u hu _ (zag_arg u hu)), rfl⟩
end Go.Proofs.Ytlpmfhccfihnfaa
