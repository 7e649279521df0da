/- The walk of 'VarintRows'. Condition: the list takes no more than one that is read may. -/
import Derived.Test.YtnahagcjieckeaaBack
import Derived.Test.YtnahagcjieckeaaWithin
namespace Go.Proofs.Ytnahagcjieckeaa
open Go.RowKit
open Go.VarMath hiding AllB
set_option linter.unusedVariables false

def In64 (n : Int) : Prop := -9223372036854775808 ≤ n ∧ n ≤ 9223372036854775807
/-- A slice of int64 whose first len numbers are zs. -/
structure Nums (w : World) (ad : Option Addr) (len : Nat) (zs : List Int) : Prop where
  length : zs.length = len
  all : ∀ n ∈ zs, In64 n
  cells : len = 0 ∨ ∃ b off, ad = some ⟨b, off, none⟩ ∧ ∀ i, i < len → w.cell? ⟨b, off + i, none⟩ = some (.int .i64 (zs.getD i 0))
theorem Nums.keep {w w' : World} {ad : Option Addr} {len : Nat} {zs : List Int} (h : Nums w ad len zs) {B : Nat} (hb : Below B w w') (hB : w.heap.size ≤ B) : Nums w' ad len zs := by
  refine ⟨h.length, h.all, ?_⟩
  rcases h.cells with h0 | ⟨b, off, e, hc⟩
  · exact .inl h0
  · refine .inr ⟨b, off, e, fun i hi => ?_⟩
    have := hc i hi
    rw [hb.cell (p := ⟨b, off + i, none⟩) (by have := World.block_lt_of_cell? w _ this; exact Nat.lt_of_lt_of_le this hB)]
    exact this
theorem IsRow.nums {w : World} {a : Option Addr} {len cap : Nat} {zs : List Int} (h : IsRow .i64 w a len cap zs) : Nums w a len (zs.take len) ∧ len ≤ cap := by
  rcases h with ⟨rfl, rfl, rfl, rfl⟩ | ⟨x, rfl, hl, hm, hz, hc, hw⟩
  · exact ⟨⟨rfl, (fun x hx => by cases hx), .inl rfl⟩, Nat.le_refl _⟩
  · refine ⟨⟨by rw [List.length_take]; omega, ?_, ?_⟩, hl⟩
    · intro n hn
      have := bounds_i64 (hw n (List.mem_of_mem_take hn))
      exact ⟨by omega, by omega⟩
    · by_cases h0 : len = 0
      · exact .inl h0
      · obtain ⟨b, off, spot⟩ := x
        have h1 := hc 0 (by omega)
        have hs : spot = none := by simpa [Addr.add] using World.cell?_spot h1
        subst hs
        refine .inr ⟨b, off, rfl, fun i hi => ?_⟩
        have h2 := hc i (by omega)
        rw [add_at] at h2
        rw [h2]
        have e : (zs.take len).getD i 0 = zs.getD i 0 := by rw [List.getD_eq_getElem?_getD, List.getElem?_take, if_pos hi, ← List.getD_eq_getElem?_getD]
        rw [e]
/-- The numbers one behind the other, as bytes. -/
def encs (l : List Int) : List Nat := l.flatMap encN
theorem encs_snoc (l : List Int) (j : Nat) (h : j < l.length) : encs (l.take (j + 1)) = encs (l.take j) ++ encN (l.getD j 0) := by
  unfold encs
  rw [List.take_succ_eq_append_getElem h, List.flatMap_append, List.getD_eq_getElem?_getD, List.getElem?_eq_getElem h]
  simp
theorem encs_drop (l : List Int) (j : Nat) (h : j < l.length) : (encs l).drop (encs (l.take j)).length = encN (l.getD j 0) ++ encs (l.drop (j + 1)) := by
  have e : encs l = encs (l.take j) ++ encs (l.drop j) := by
    unfold encs
    rw [← List.flatMap_append, List.take_append_drop]
  rw [e, List.drop_append_of_le_length (Nat.le_refl _), List.drop_length, List.nil_append, List.drop_eq_getElem_cons h, List.getD_eq_getElem?_getD, List.getElem?_eq_getElem h]
  rfl
theorem encs_all {l : List Int} (h : ∀ n ∈ l, In64 n) : AllB (encs l) := by
  intro x hx
  obtain ⟨n, hn, hx⟩ := List.mem_flatMap.1 hx
  exact encN_all (h n hn).1 (h n hn).2 x hx
theorem encs_len {l : List Int} (h : ∀ n ∈ l, In64 n) : (encs l).length ≤ 10 * l.length := by
  induction l with
  | nil => simp [encs]
  | cons n r ih =>
    have h1 := encN_len (h n (by simp)).1 (h n (by simp)).2
    have h2 := ih (fun m hm => h m (by simp [hm]))
    unfold encs at h2 ⊢
    rw [List.flatMap_cons, List.length_append, List.length_cons]
    omega
/-- What the first bytes of numbers in a row begin with: nothing, or the first number. -/
theorem getB_encs (l : List Int) (h : ∀ n ∈ l, In64 n) (c : Nat) : getB ((encs l).take c) = (0, 0) ∨ (0 < l.length ∧ ∃ j, j ≠ 0 ∧ getB ((encs l).take c) = (l.getD 0 0, j)) := by
  cases l with
  | nil => left; simp [encs]; rfl
  | cons n r =>
    have hn := h n (by simp)
    have e : encs (n :: r) = encN n ++ encs r := by unfold encs; rw [List.flatMap_cons]
    have h1 := encN_len hn.1 hn.2
    rw [e]
    by_cases hc : c < (encN n).length
    · left
      rw [List.take_append_of_le_length (by omega)]
      exact getB_short (zig_lt hn.1 hn.2) c hc
    · right
      refine ⟨by simp, (encN n).length, by omega, ?_⟩
      have e2 : (encN n ++ encs r).take c = encN n ++ (encs r).take (c - (encN n).length) := by
        rw [List.take_append, List.take_of_length_le (by omega)]
      rw [e2, getB_encN hn.1 hn.2]
      rfl
theorem encN_one {n : Int} : (encN n).length = 1 ↔ (-64 ≤ n ∧ n < 64) := by unfold encN; rw [enc_one, zig_small]
end Go.Proofs.Ytnahagcjieckeaa
