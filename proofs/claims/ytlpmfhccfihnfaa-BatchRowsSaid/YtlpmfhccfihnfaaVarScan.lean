/- What a round of Get's loop comes to: plain mathematics, and the arithmetic of its shifts. -/
import Derived.Test.YtlpmfhccfihnfaaVarPut
namespace Go.Proofs.Ytlpmfhccfihnfaa
open Go.RowKit
open Go.VarMath hiding AllB
set_option linter.unusedVariables false

theorem take_getD {bs : List Nat} {k : Nat} (h : k < bs.length) : bs.take (k + 1) = bs.take k ++ [bs.getD k 0] := by
  rw [List.take_succ_eq_append_getElem h, List.getD_eq_getElem?_getD, List.getElem?_eq_getElem h]; rfl
theorem split_at {bs : List Nat} {k : Nat} (h : k < bs.length) : bs = bs.take k ++ bs.getD k 0 :: bs.drop (k + 1) := by
  conv => lhs; rw [← List.take_append_drop k bs]
  rw [List.drop_eq_getElem_cons h, List.getD_eq_getElem?_getD, List.getElem?_eq_getElem h]; rfl
theorem pow128 (k : Nat) : (2 : Nat) ^ (7 * k) = 128 ^ k := by rw [Nat.pow_mul]
theorem shl_step (y k : Nat) : IntKind.u64.wrap ((y : Int) * 2 ^ (7 * k)) = ((y * 128 ^ k % 18446744073709551616 : Nat) : Int) := by
  rw [wrap_u64', ← pow128]; simp
theorem or_step (u y k : Nat) (hk : k ≤ 9) (hu : u < 128 ^ k) (hy : y < 128) : bits .or .u64 (u : Int) ((y * 128 ^ k % 18446744073709551616 : Nat) : Int) = (((u + 128 ^ k * y) % 18446744073709551616 : Nat) : Int) := by
  have hb : u < 18446744073709551616 := by
    have : (128 : Nat) ^ k ≤ 128 ^ 9 := Nat.pow_le_pow_right (by omega) hk
    rw [pow9] at this; omega
  rw [u64_or_nat u _ hb (by omega), Nat.or_comm]
  have h1 : y * 128 ^ k % 18446744073709551616 % 2 ^ (7 * k) = 0 := by
    rcases k with _ | _ | _ | _ | _ | _ | _ | _ | _ | _ | k
    all_goals first | (exfalso; omega) | (simp only [Nat.reduceMul, Nat.reduceAdd, Nat.reducePow]; omega)
  rw [nat_join (7 * k) _ u h1 (by rw [pow128]; exact hu)]
  congr 1
  rcases k with _ | _ | _ | _ | _ | _ | _ | _ | _ | _ | k
  all_goals first | (exfalso; omega) | (simp only [Nat.reduceAdd, Nat.reducePow] at hu ⊢; omega)
theorem val_take {bs : List Nat} {k : Nat} (h : k < bs.length) : val (bs.take (k + 1)) = val (bs.take k) + 128 ^ k * (bs.getD k 0 % 128) := by
  rw [take_getD h, val_snoc, List.length_take, Nat.min_eq_left (by omega)]
theorem val_take_lt {bs : List Nat} {k : Nat} (h : k ≤ bs.length) : val (bs.take k) < 128 ^ k := by
  have := val_lt (bs.take k)
  rwa [List.length_take, Nat.min_eq_left h] at this
theorem val_take_mod {bs : List Nat} {k : Nat} (h : k ≤ bs.length) (hk : k ≤ 9) : val (bs.take k) % two64 = val (bs.take k) := by
  have h1 := val_take_lt h
  have h2 : (128 : Nat) ^ k ≤ 128 ^ 9 := Nat.pow_le_pow_right (by omega) hk
  rw [pow9] at h2
  exact Nat.mod_eq_of_lt (by rw [two64_val]; omega)
theorem and127 (x : Nat) (h : x < 256) : bits .and .u8 (x : Int) 127 = ((x % 128 : Nat) : Int) := by
  have := u8_and_nat x 127 h (by decide)
  rw [nat_mask7] at this
  exact this
theorem and128_hi (x : Nat) (h : x < 256) (h2 : 128 ≤ x) : bits .and .u8 (x : Int) 128 = 128 := by
  have := u8_and_nat x 128 h (by decide)
  rw [show (128 : Nat) = 2 ^ 7 from rfl, nat_bit] at this
  have e : x / 2 ^ 7 % 2 * 2 ^ 7 = 128 := by omega
  rw [e] at this
  exact this
theorem and128_lo (x : Nat) (h2 : x < 128) : bits .and .u8 (x : Int) 128 = 0 := by
  have := u8_and_nat x 128 (by omega) (by decide)
  rw [show (128 : Nat) = 2 ^ 7 from rfl, nat_bit] at this
  have e : x / 2 ^ 7 % 2 * 2 ^ 7 = 0 := by omega
  rw [e] at this
  exact this
/-- What both give. -/
def GivesGet (bs : List Nat) (w : World) (e : Ending) (w' : World) : Prop := e = .returned (.tuple #[.int .i64 (getB bs).1, .int .i64 ((getB bs).2 : Nat)]) ∧ w = w'
theorem len_take {bs : List Nat} {k : Nat} (h : k ≤ bs.length) : (bs.take k).length = k := by rw [List.length_take, Nat.min_eq_left h]
theorem hi_end {bs : List Nat} {k : Nat} (hp : AllHi (bs.take k)) (hk : bs.length ≤ k) (h10 : bs.length ≤ 10) : getB bs = (0, 0) := by
  rw [List.take_of_length_le hk] at hp
  exact getB_none (scan_all hp h10)
theorem hi_full {bs : List Nat} (hp : AllHi (bs.take 10)) (hk : 10 ≤ bs.length) : getB bs = (0, 0) := by
  apply getB_none
  have h := scan_full hp (bs.drop 10)
  rw [len_take hk, List.take_append_drop] at h
  exact h
theorem hi_scan {bs : List Nat} {k : Nat} (hp : AllHi (bs.take k)) (hk : k < bs.length) (h9 : k ≤ 9) (hx : bs.getD k 0 < 128) : scan 10 bs = some (bs.take (k + 1)) := by
  have h := scan_end hp hx (f := 10) (by rw [len_take (by omega)]; omega) (bs.drop (k + 1))
  rw [← split_at hk, ← take_getD hk] at h
  exact h
/-- The document's own way: what is read is what Put writes of it, or it is none. -/
theorem hi_get {bs : List Nat} {k : Nat} (hp : AllHi (bs.take k)) (hk : k < bs.length) (h9 : k ≤ 9) (hx : bs.getD k 0 < 128) :
    getB bs = if encU (val (bs.take (k + 1)) % two64) = bs.take (k + 1) then (zag (val (bs.take (k + 1)) % two64), k + 1) else (0, 0) := by
  rw [getB_some (hi_scan hp hk h9 hx), len_take (by omega)]
theorem hi_canon {bs : List Nat} {k : Nat} (hp : AllHi (bs.take k)) (hk : k < bs.length) (h9 : k ≤ 9) (hx : bs.getD k 0 < 128) :
    encU (val (bs.take (k + 1)) % two64) = bs.take (k + 1) ↔ (bs.getD k 0 = 0 → k = 0) ∧ (k = 9 → bs.getD k 0 ≤ 1) := by
  have h := canon hp hx (by rw [len_take (by omega)]; exact h9)
  rw [← take_getD hk, len_take (by omega)] at h
  rw [h]
  have e : bs.take k = [] ↔ k = 0 := by
    constructor
    · intro h0
      have := len_take (bs := bs) (k := k) (by omega)
      rw [h0] at this
      simpa using this.symm
    · intro h0; subst h0; rfl
  rw [e]
theorem hi_yes {bs : List Nat} {k : Nat} (hp : AllHi (bs.take k)) (hk : k < bs.length) (h9 : k ≤ 9) (hx : bs.getD k 0 < 128) (h0 : bs.getD k 0 = 0 → k = 0) (h1 : k = 9 → bs.getD k 0 ≤ 1) :
    getB bs = (zag (val (bs.take (k + 1)) % two64), k + 1) := by
  rw [hi_get hp hk h9 hx, if_pos ((hi_canon hp hk h9 hx).2 ⟨h0, h1⟩)]
theorem hi_no {bs : List Nat} {k : Nat} (hp : AllHi (bs.take k)) (hk : k < bs.length) (h9 : k ≤ 9) (hx : bs.getD k 0 < 128) (h : ¬ ((bs.getD k 0 = 0 → k = 0) ∧ (k = 9 → bs.getD k 0 ≤ 1))) :
    getB bs = (0, 0) := by
  rw [hi_get hp hk h9 hx, if_neg (fun e => h ((hi_canon hp hk h9 hx).1 e))]
/-- The tenth byte is greater than 1: there is none. -/
theorem hi_tenth {bs : List Nat} (ha : AllB bs) (hp : AllHi (bs.take 9)) (hk : 9 < bs.length) (hx : 1 < bs.getD 9 0) : getB bs = (0, 0) := by
  by_cases h : bs.getD 9 0 < 128
  · exact hi_no hp hk (by omega) h (fun h2 => by have := h2.2 rfl; omega)
  · refine hi_full ?_ (by omega)
    rw [take_getD hk]
    exact hp.snoc ⟨by omega, getD_all ha 9⟩
theorem hi_step {bs : List Nat} {k : Nat} (ha : AllB bs) (hp : AllHi (bs.take k)) (hk : k < bs.length) (hx : ¬ bs.getD k 0 < 128) : AllHi (bs.take (k + 1)) := by
  rw [take_getD hk]
  exact hp.snoc ⟨by omega, getD_all ha k⟩
theorem gives_get_no {bs : List Nat} {w : World} (h : getB bs = (0, 0)) : GivesGet bs w (.returned (.tuple #[.int .i64 0, .int .i64 0])) w := by
  unfold GivesGet; rw [h]; exact ⟨rfl, rfl⟩
theorem gives_get {bs : List Nat} {w : World} {x : Int} {k : Nat} (h : getB bs = (x, k)) {a b : Int} (ha : a = x) (hb : b = (k : Int)) : GivesGet bs w (.returned (.tuple #[.int .i64 a, .int .i64 b])) w := by
  unfold GivesGet; rw [h, ha, hb]; exact ⟨rfl, rfl⟩
end Go.Proofs.Ytlpmfhccfihnfaa
