/- Bits of bytes as numbers: the lowest one; bytes one beside another in an int; a batch's box, a field of it written. -/
import Derived.Test.YtlpmfhccfihnfaaBatPlain2
import Derived.Test.YtlpmfhccfihnfaaVarUse
namespace Go.Proofs.Ytlpmfhccfihnfaa
open Go.RowKit
open Go.BatMath hiding AllB getD_lt take_all
open Go.VarMath (backB)
set_option linter.unusedVariables false

theorem u8_low (x : Nat) (h : x < 256) : bits .and .u8 (x : Int) 1 = ((x % 2 : Nat) : Int) := by
  have h1 : (BitVec.ofInt 8 1).toNat = 2 ^ 1 - 1 := by decide
  have key : (BitVec.ofInt 8 (x : Int) &&& BitVec.ofInt 8 1).toNat = ((x : Int) % ((2 ^ 8 : Nat) : Int)).toNat % 2 ^ 1 := by
    rw [BitVec.toNat_and, BitVec.toNat_ofInt, h1, Nat.and_two_pow_sub_one_eq_mod]
  show IntKind.u8.wrap ((BitVec.ofInt 8 (x : Int) &&& BitVec.ofInt 8 1).toNat : Nat) = _
  rw [key, IntKind.wrap_u8]
  omega
theorem bits_join (k a b : Nat) (ha : a % 2 ^ k = 0) (hb : b < 2 ^ k) : a ||| b = a + b := by
  obtain ⟨c, rfl⟩ : ∃ c, a = 2 ^ k * c := ⟨a / 2 ^ k, by have := Nat.div_add_mod a (2 ^ k); omega⟩
  exact (Nat.two_pow_add_eq_or_of_lt hb c).symm
theorem i64_or (k a b : Nat) (ha : a % 2 ^ k = 0) (hb : b < 2 ^ k) (h : a + b < 9223372036854775808) : bits .or .i64 (a : Int) (b : Int) = ((a + b : Nat) : Int) := by
  have h1 : (BitVec.ofInt 64 (a : Int)).toNat = a := by rw [BitVec.toNat_ofInt]; omega
  have h2 : (BitVec.ofInt 64 (b : Int)).toNat = b := by rw [BitVec.toNat_ofInt]; omega
  show IntKind.i64.wrap ((BitVec.ofInt 64 (a : Int) ||| BitVec.ofInt 64 (b : Int)).toNat : Nat) = _
  rw [BitVec.toNat_or, h1, h2, bits_join k a b ha hb, IntKind.wrap_i64]
  omega
section
variable {w : World} {k : Nat} {b0 b1 b2 b3 : Int} {b4 : Bool} {b5 : Int} {v : Value}
theorem box_set {cs : Array Value} {t : TypeId} (h : w.heap[k]? = some (.cells cs t (0, 0))) (j : Nat) (u : Value) : (w.setCell ⟨k, j, none⟩ u).heap[k]? = some (.cells (cs.setIfInBounds j u) t (0, 0)) := by
  have hlt := lt_of_block h
  have h' : w.heap[k] = .cells cs t (0, 0) := by simpa [Array.getElem?_eq_getElem hlt] using h
  show (w.heap.modify k _)[k]? = _
  rw [Array.getElem?_eq_getElem (by simpa using hlt), Array.getElem_modify_self, h']
  rfl
theorem box_off {o : Obj} (h : w.heap[k]? = some o) {j i : Nat} (hj : j ≠ k) (u : Value) : (w.setCell ⟨j, i, none⟩ u).heap[k]? = some o := by
  rw [← h]
  show (w.heap.modify j _)[k]? = _
  rw [Array.getElem?_modify, if_neg hj]
theorem BoxAt.s0 (h : BoxAt w k b0 b1 b2 b3 b4 b5 v) (n : Int) : BoxAt (w.setCell ⟨k, 0, none⟩ (.int .i64 n)) k n b1 b2 b3 b4 b5 v := box_set h 0 _
theorem BoxAt.s1 (h : BoxAt w k b0 b1 b2 b3 b4 b5 v) (n : Int) : BoxAt (w.setCell ⟨k, 1, none⟩ (.int .i64 n)) k b0 n b2 b3 b4 b5 v := box_set h 1 _
theorem BoxAt.s2 (h : BoxAt w k b0 b1 b2 b3 b4 b5 v) (n : Int) : BoxAt (w.setCell ⟨k, 2, none⟩ (.int .i64 n)) k b0 b1 n b3 b4 b5 v := box_set h 2 _
theorem BoxAt.s3 (h : BoxAt w k b0 b1 b2 b3 b4 b5 v) (n : Int) : BoxAt (w.setCell ⟨k, 3, none⟩ (.int .i64 n)) k b0 b1 b2 n b4 b5 v := box_set h 3 _
theorem BoxAt.s4 (h : BoxAt w k b0 b1 b2 b3 b4 b5 v) (n : Bool) : BoxAt (w.setCell ⟨k, 4, none⟩ (.bool n)) k b0 b1 b2 b3 n b5 v := box_set h 4 _
theorem BoxAt.s5 (h : BoxAt w k b0 b1 b2 b3 b4 b5 v) (n : Int) : BoxAt (w.setCell ⟨k, 5, none⟩ (.int .i64 n)) k b0 b1 b2 b3 b4 n v := box_set h 5 _
theorem BoxAt.s6 (h : BoxAt w k b0 b1 b2 b3 b4 b5 v) (u : Value) : BoxAt (w.setCell ⟨k, 6, none⟩ u) k b0 b1 b2 b3 b4 b5 u := box_set h 6 _
theorem BoxAt.off (h : BoxAt w k b0 b1 b2 b3 b4 b5 v) {j i : Nat} (hj : j ≠ k) (u : Value) : BoxAt (w.setCell ⟨j, i, none⟩ u) k b0 b1 b2 b3 b4 b5 v := box_off h hj u
theorem BoxAt.drew (h : BoxAt w k b0 b1 b2 b3 b4 b5 v) : BoxAt w.drew k b0 b1 b2 b3 b4 b5 v := h
end
/-- 'x[k:]', k a number that is written in the text. -/
theorem from_lit {w : World} {b off len cap : Nat} {bs : List Nat} (h : Byt w (some ⟨b, off, none⟩) len cap bs) (k : Nat) (z : Int) (hz : z = (k : Int)) (hk : k ≤ len) :
    ∃ o c, (∀ W, (Instr.slice 34 (.slice (some ⟨b, off, none⟩) len cap) (some (.int .i64 z)) none none).run Try.prog W = .ok (.slice (some ⟨b, o, none⟩) (len - k) c) W) ∧ Byt w (some ⟨b, o, none⟩) (len - k) c (bs.drop k) := by
  subst hz
  exact ⟨_, _, fun W => run_from b off len cap k hk W, byt_from h k hk⟩
/-- 'x[12:h]'. -/
theorem part_lit {w : World} {b off len cap : Nat} {bs : List Nat} (h : Byt w (some ⟨b, off, none⟩) len cap bs) (k m : Nat) (z y : Int) (hz : z = (k : Int)) (hy : y = (k : Int) + (m : Int)) (hk : k + m ≤ len) :
    ∃ o c, (∀ W, (Instr.slice 34 (.slice (some ⟨b, off, none⟩) len cap) (some (.int .i64 z)) (some (.int .i64 y)) none).run Try.prog W = .ok (.slice (some ⟨b, o, none⟩) m c) W) ∧ Byt w (some ⟨b, o, none⟩) m c ((bs.drop k).take m) := by
  subst hz hy
  exact cut_run h k m hk
theorem Byt.get {w : World} {ad : Option Addr} {len cap : Nat} {bs : List Nat} (h : Byt w ad len cap bs) (hp : 0 < len) : ∃ b off, ad = some ⟨b, off, none⟩ ∧ ∀ i, i < len → w.cell? ⟨b, off + i, none⟩ = some (.int .u8 (bs.getD i 0 : Nat)) := by
  rcases h.cells with h0 | h1
  · omega
  · exact h1
end Go.Proofs.Ytlpmfhccfihnfaa
