/- What a call turns: nothing that was there and is not of its own blocks. -/
import Derived.Test.YtelbignfecjjhaaRowCut
namespace Go.Proofs.Ytelbignfecjjhaa
open Go.RowKit
set_option linter.unusedVariables false

/-- Nothing that was there and is not of F has turned. -/
structure Kept (w w' : World) (F : Nat → Prop) : Prop where
  os : w'.os = w.os
  tape : w'.tape = w.tape
  output : w'.output = w.output
  size : w.heap.size ≤ w'.heap.size
  block : ∀ j, j < w.heap.size → ¬ F j → w'.heap[j]? = w.heap[j]?
section
variable {w w1 w2 : World} {F G : Nat → Prop}
theorem Kept.refl (w : World) (F : Nat → Prop) : Kept w w F := ⟨rfl, rfl, rfl, Nat.le_refl _, fun _ _ _ => rfl⟩
theorem Kept.trans (h : Kept w w1 F) (h2 : Kept w1 w2 G) (hg : ∀ i, G i → F i ∨ w.heap.size ≤ i) : Kept w w2 F :=
  ⟨h2.os.trans h.os, h2.tape.trans h.tape, h2.output.trans h.output, Nat.le_trans h.size h2.size, fun j hj hn => (h2.block j (Nat.lt_of_lt_of_le hj h.size) fun e => by
    rcases hg j e with h3 | h3
    · exact hn h3
    · omega).trans (h.block j hj hn)⟩
theorem Kept.of_grown {k : Nat} (h : w.grownBy w1 (some k)) (hk : F k ∨ w.heap.size ≤ k) : Kept w w1 F := ⟨h.os, h.tape, h.output, h.size, fun j hj hn => h.block j hj fun e => by
  cases e
  rcases hk with h1 | h1
  · exact hn h1
  · omega⟩
theorem Kept.of_own {v : Value} (h : w.grownBy w1 v.ownBlock) (hv : ∀ k, v.ownBlock = some k → F k ∨ w.heap.size ≤ k) : Kept w w1 F := ⟨h.os, h.tape, h.output, h.size, fun j hj hn => h.block j hj fun e => by
  rcases hv j e.symm with h1 | h1
  · exact hn h1
  · omega⟩
theorem Kept.of_below (h : Below w.heap.size w w1) : Kept w w1 F := ⟨h.os, h.tape, h.output, h.size, fun j hj _ => h.block j hj⟩
theorem Kept.more (h : Kept w w1 F) (hf : ∀ i, F i → G i) : Kept w w1 G := ⟨h.os, h.tape, h.output, h.size, fun j hj hn => h.block j hj fun e => hn (hf j e)⟩
theorem Kept.below {B : Nat} (h : Kept w w1 F) (hf : ∀ i, F i → B ≤ i) (hB : B ≤ w.heap.size) : Below B w w1 := ⟨h.os, h.tape, h.output, h.size, fun j hj => h.block j (by omega) fun e => by have := hf j e; omega⟩
theorem Kept.row {α : Type} {K : Kind α} {ad : Option Addr} {len cap : Nat} {l : List α} (hk : Kept w w1 F) (hr : RowAt K w ad len cap l) (ha : ∀ a, ad = some a → ¬ F a.block) : RowAt K w1 ad len cap l := by
  refine ⟨hr.length, hr.fits, hr.room, ?_⟩
  rcases hr.cells with h0 | ⟨b, off, e, hlt, hc⟩
  · exact .inl h0
  · refine .inr ⟨b, off, e, Nat.lt_of_lt_of_le hlt hk.size, fun i x hi j u hj => ?_⟩
    have h1 := hc i x hi j u hj
    have e1 := hk.block b hlt (ha _ e)
    unfold World.cell? at h1 ⊢
    simp only [e1]
    exact h1
end
theorem OwnRow.same {α : Type} {K : Kind α} {w w' : World} {base : Nat} {v : Value} {l : List α} (h : OwnRow K w base v l) (hs : ∀ q, v.ownBlock = some q → w'.heap[q]? = w.heap[q]?) : OwnRow K w' base v l := by
  refine ⟨h.1, ?_⟩
  rcases h.2 with h0 | ⟨g, cap, cur, h1, h2, h3, h4⟩
  · exact .inl h0
  · exact .inr ⟨g, cap, cur, h1, h2, (hs g (by rw [h1]; rfl)).trans h3, h4⟩
end Go.Proofs.Ytelbignfecjjhaa
