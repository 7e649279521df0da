/- The statements' own 'known' of chapter 6; what Bytes and Read give where all is right. Batches made of tapes, for the statements of chapter 6; two batches that have unlike bases alone. -/
import Derived.Test.YtlcnpeodhfdhlaaBatCodeB
import Derived.Test.YtlcnpeodhfdhlaaGTape
import Derived.Deep.RegionHeld3
/-! The statements' own 'known' of chapter 6; what Bytes and Read give where all is right. -/
namespace Go.Proofs.Ytlcnpeodhfdhlaa
open Go.RowKit
open Go.SeqMath
open Go.BatMath hiding AllB getD_lt take_all
open Go.VarMath (longB length_longB)
set_option linter.unusedVariables false

theorem texts_of {l : List Rc} (h : ∀ r ∈ l, r.key.size ≤ 64 ∧ r.val.size ≤ 64) : TextsOk l := fun r hr => by have := h r hr; omega
end Go.Proofs.Ytlcnpeodhfdhlaa

/-! Batches made of tapes, for the statements of chapter 6; two batches that have unlike bases alone. -/
namespace Go.Proofs.Ytlcnpeodhfdhlaa
open Go.RowKit
open Go.SeqMath
open Go.BatMath hiding AllB getD_lt take_all
open Go.VarMath (longB length_longB)
set_option linter.unusedVariables false

/-- A tape that is made of a slice of numbers. -/
theorem tape_new {w : World} {ad : Option Addr} {len cap : Nat} {zs : List Int} (h : Nums w ad len zs) (hL : len ≤ 140737488355328) : TapeAt (w.alloc (.cells #[.slice ad len cap, .int .i64 0] 45)) w.heap.size ad len cap 0 := by
  refine ⟨heap_alloc_new w _, Nat.zero_le _, hL, fun j hj => ?_⟩
  rcases h.cells with h0 | ⟨b, off, e, hc⟩
  · omega
  · have hcj := hc j hj
    have hb := World.block_lt_of_cell? w _ hcj
    refine ⟨b, off, zs.getD j 0, e, hb, ?_, ?_⟩
    · rw [((Below.refl w.heap.size w).alloc (Nat.le_refl _) _).cell (p := ⟨b, off + j, none⟩) hb]
      exact hcj
    · have hl := h.length
      rw [List.getD_eq_getElem?_getD, List.getElem?_eq_getElem (by omega)]
      exact h.all _ (List.getElem_mem _)
end Go.Proofs.Ytlcnpeodhfdhlaa
