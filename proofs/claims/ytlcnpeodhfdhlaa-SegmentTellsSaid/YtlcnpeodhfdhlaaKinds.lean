/- Kinds of things in memory: records. -/
import Derived.Test.YtlcnpeodhfdhlaaGRows
import Derived.Test.YtlcnpeodhfdhlaaGBatA
namespace Go.Proofs.Ytlcnpeodhfdhlaa
open Go.RowKit
open Go.SeqMath
open Go.BatMath hiding AllB getD_lt take_all
set_option linter.unusedVariables false

theorem RowAt.set {α : Type} {K : Kind α} {w : World} {k j len cap : Nat} {ad : Option Addr} {l : List α} {u : Value} (h : RowAt K w ad len cap l) (hb : len = 0 ∨ ∀ a, ad = some a → a.block ≠ k) : RowAt K (w.setCell ⟨k, j, none⟩ u) ad len cap l := by
  refine ⟨h.length, h.fits, h.room, ?_⟩
  rcases h.cells with h0 | ⟨b, off, e, hlt, hc⟩
  · exact .inl h0
  · rcases hb with h0 | hb
    · exact .inl h0
    have hne : b ≠ k := hb _ e
    refine .inr ⟨b, off, e, by simpa using hlt, fun i x hi m v hm => ?_⟩
    rw [World.cell?_of_block (a := ⟨b, off + (i * K.size + m), none⟩) (w := w) (by
      show (w.heap.modify k _)[b]? = _
      rw [Array.getElem?_modify, if_neg (Ne.symm hne)])]
    exact hc i x hi m v hm
def recK : Kind Rc := ⟨fun r => [.string r.key, .string r.val], 2, 104, 49⟩
theorem recK_ok : recK.Ok 32 where
  und := Try.underlying49
  info := by
    obtain ⟨i, hi, hz, hs, hb⟩ := info_parts infoRec
    exact ⟨i, _, hi, hz, hs, hb, rfl⟩
  len := fun _ => rfl
  pos := by decide
  one := fun r u hu => by
    simp only [recK, List.mem_cons, List.not_mem_nil, or_false] at hu
    rcases hu with rfl | rfl <;> rfl
  few := by decide
theorem recsAt_row {w : World} {ad : Option Addr} {len cap : Nat} {l : List Rc} : RecsAt w ad len cap l ↔ RowAt recK w ad len cap l := by
  constructor
  · intro h
    refine ⟨h.length, h.fits, h.room, ?_⟩
    rcases h.cells with h0 | ⟨b, off, e, hlt, hc⟩
    · exact .inl h0
    · refine .inr ⟨b, off, e, hlt, fun i x hi j u hj => ?_⟩
      obtain ⟨h1, h2⟩ := hc i x hi
      rcases j with _ | _ | j
      · cases hj; exact h1
      · cases hj; exact h2
      · simp [recK] at hj
  · intro h
    refine ⟨h.length, h.fits, h.room, ?_⟩
    rcases h.cells with h0 | ⟨b, off, e, hlt, hc⟩
    · exact .inl h0
    · exact .inr ⟨b, off, e, hlt, fun i x hi => ⟨hc i x hi 0 _ rfl, hc i x hi 1 _ rfl⟩⟩
end Go.Proofs.Ytlcnpeodhfdhlaa
