/- What the contracts of chapter 1's sums share. -/
import Derived.Test.YtlpmfhccfihnfaaBytes
import Derived.Test.YtlpmfhccfihnfaaCrcMath
import Derived.Outline
namespace Go.Proofs.Ytlpmfhccfihnfaa
open Go.RowKit
open Go.CrcMath hiding AllB
set_option linter.unusedVariables false

theorem xorc (c b : Nat) (hc : c < 4294967296) (hb : b < 256) : bits .xor .u32 (c : Int) (b : Int) = ((c ^^^ b : Nat) : Int) := u32_xor_nat c b hc (by omega)
theorem and1 (d : Nat) (h : d < 4294967296) : bits .and .u32 (d : Int) 1 = ((d % 2 : Nat) : Int) := by
  have := u32_and_nat d 1 h (by omega)
  rw [nat_mask1] at this
  exact this
theorem xorp (d : Nat) (h : d < 4294967296) : bits .xor .u32 ((d : Int) / 2) 2197175160 = ((d / 2 ^^^ poly : Nat) : Int) := by
  have := u32_xor_nat (d / 2) 2197175160 (by omega) (by omega)
  exact this
theorem bstep_odd (d : Nat) (h : d % 2 = 1) : bstep d = d / 2 ^^^ poly := if_pos h
theorem bstep_even (d : Nat) (h : ¬ d % 2 = 1) : bstep d = d / 2 := if_neg h
theorem u32_eq {a b : Int} (h : a = b) : Value.int .u32 a = Value.int .u32 b := by rw [h]
theorem ret_u32 {a b : Int} (h : a = b) : Ending.returned (.int .u32 a) = .returned (.int .u32 b) := by rw [h]


theorem cplc (c : Nat) (h : c < 4294967296) : bits .xor .u32 IntKind.u32.max (c : Int) = ((cpl c : Nat) : Int) := by
  have e : IntKind.u32.max = ((full : Nat) : Int) := by decide
  rw [e, u32_xor_nat full c full_lt h, cpl_eq]
theorem usig : IntKind.u32.signed = false := rfl
theorem xor00 : bits .xor .u32 IntKind.u32.max 4294967295 = 0 := by decide
theorem run_next (c : Nat) (bs : List Nat) (k : Nat) (h : k < bs.length) : run c (bs.take (k + 1)) = nxt (run c (bs.take k)) (bs.getD k 0) := by
  rw [List.take_succ_eq_append_getElem h, run_snoc, List.getD_eq_getElem?_getD, List.getElem?_eq_getElem h]; rfl
end Go.Proofs.Ytlpmfhccfihnfaa
