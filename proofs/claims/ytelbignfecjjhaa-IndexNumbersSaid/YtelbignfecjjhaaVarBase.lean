/- Numbers as bytes: what their arithmetic comes to; one byte that is laid. -/
import Derived.Test.YtelbignfecjjhaaBytes
import Derived.Test.YtelbignfecjjhaaVarMath
import Derived.Outline
namespace Go.Proofs.Ytelbignfecjjhaa
open Go.RowKit
open Go.VarMath hiding AllB
set_option linter.unusedVariables false

theorem wrap_u64' (n : Int) : IntKind.u64.wrap n = n % 18446744073709551616 := by simp [IntKind.wrap, IntKind.bits, IntKind.signed]
theorem u64_keep (a : Nat) (ha : a < 18446744073709551616) : bits .xor .u64 (a : Int) 0 = (a : Int) := by
  have := u64_xor_nat a 0 ha (by decide)
  rw [Nat.xor_zero] at this
  exact this
theorem u64_flip (a : Nat) (ha : a < 18446744073709551616) : bits .xor .u64 (a : Int) 18446744073709551615 = 18446744073709551615 - (a : Int) := by
  show IntKind.u64.wrap ((BitVec.ofInt 64 (a : Int) ^^^ BitVec.ofInt 64 18446744073709551615).toNat : Int) = _
  have h1 : BitVec.ofInt 64 18446744073709551615 = BitVec.allOnes 64 := by decide
  rw [h1, BitVec.xor_allOnes, BitVec.toNat_not, ofInt_u64 a ha, wrap_u64']
  omega
theorem i64_flip (a : Nat) (ha : a < 9223372036854775808) : bits .xor .i64 (a : Int) (-1) = -1 - (a : Int) := by
  show IntKind.i64.wrap ((BitVec.ofInt 64 (a : Int) ^^^ BitVec.ofInt 64 (-1)).toNat : Int) = _
  have h1 : BitVec.ofInt 64 (-1) = BitVec.allOnes 64 := by decide
  rw [h1, BitVec.xor_allOnes, BitVec.toNat_not, ofInt_u64 a (by omega)]
  simp [IntKind.wrap, IntKind.bits, IntKind.signed]
  omega
theorem i64_keep (a : Nat) (ha : a < 9223372036854775808) : bits .xor .i64 (a : Int) 0 = (a : Int) := by
  show IntKind.i64.wrap ((BitVec.ofInt 64 (a : Int) ^^^ BitVec.ofInt 64 0).toNat : Int) = _
  have h1 : BitVec.ofInt 64 0 = 0#64 := by decide
  rw [h1, BitVec.xor_zero, ofInt_u64 a (by omega)]
  simp [IntKind.wrap, IntKind.bits, IntKind.signed]
  omega
theorem and_one (u : Nat) (hu : u < 18446744073709551616) : bits .and .u64 (u : Int) 1 = ((u % 2 : Nat) : Int) := by
  have := u64_and_nat u 1 hu (by decide)
  rw [nat_mask1] at this
  exact this
theorem ret_u64 {a b : Int} (h : a = b) : Ending.returned (.int .u64 a) = .returned (.int .u64 b) := by rw [h]
theorem ret_i64 {a b : Int} (h : a = b) : Ending.returned (.int .i64 a) = .returned (.int .i64 b) := by rw [h]
theorem zig_pos (n : Int) (h0 : 0 ≤ n) (h1 : n ≤ 9223372036854775807) : bits .xor .u64 (n * 2) (n / 9223372036854775808) = ((zig n : Nat) : Int) := by
  have h2 := zig_nonneg h0
  have h3 : n / 9223372036854775808 = 0 := by omega
  have h4 : n * 2 = ((zig n : Nat) : Int) := by omega
  have h5 := zig_lt (n := n) (by omega) h1
  rw [h3, h4, u64_keep _ h5]
theorem zig_minus (n : Int) (h0 : n < 0) (h1 : -9223372036854775808 ≤ n) (a b : Int) (ha : a = n * 2 % 18446744073709551616) (hb : b = 18446744073709551615) : bits .xor .u64 a b = ((zig n : Nat) : Int) := by
  have h2 := zig_neg h0
  have h3 : a = (((18446744073709551615 - zig n : Nat)) : Int) := by omega
  have h5 := zig_lt (n := n) h1 (by omega)
  rw [h3, hb, u64_flip _ (by omega)]
  omega
theorem row_byte (W : World) (n : Nat) (hn : n < 256) : Row (W.alloc (.cells #[.int .u8 (n : Int)] 5)) (some ⟨W.heap.size, 0, none⟩) 1 1 [n] :=
  ⟨(own_new W [n]).byt (fun x hx => by simp at hx; omega) 1 (by simp), fun h => by cases h⟩
theorem wrap_u8' (n : Int) : IntKind.u8.wrap n = n % 256 := by simp [IntKind.wrap, IntKind.bits, IntKind.signed]
theorem own_empty' (W : World) (base : Nat) (h : base ≤ W.heap.size) : (W.alloc (.cells #[] 5)).ownsRow base 5 1 (.slice (some ⟨W.heap.size, 0, none⟩) 0 0) 0 (vals []) := own_empty W base h
end Go.Proofs.Ytelbignfecjjhaa
