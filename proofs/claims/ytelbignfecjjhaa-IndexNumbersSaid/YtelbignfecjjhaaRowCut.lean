/- Rows of things: 'l[:k]', 'l[k:]'; a row where another block is written; what one block's writing leaves. -/
import Derived.Test.YtelbignfecjjhaaRows2
import Derived.Test.YtelbignfecjjhaaGrow
namespace Go.Proofs.Ytelbignfecjjhaa
open Go.RowKit
set_option linter.unusedVariables false

section
variable {α : Type} {K : Kind α} {bytes : Nat} {w w' : World}
theorem add_block (a : Addr) (n : Nat) : (a.add n).block = a.block := by
  unfold Addr.add
  split <;> rfl
theorem Kind.Ok.elem (hK : K.Ok bytes) : Try.prog.elem K.sl = K.ty := by unfold Program.elem; rw [hK.und]
theorem Kind.Ok.sizeOf (hK : K.Ok bytes) (W : World) : (sizeOf (Try.prog.elem K.sl)).run Try.prog W = .ok K.size W := by
  obtain ⟨i, z, hi, _, hs, _, _⟩ := hK.info
  rw [hK.elem]
  simp [Go.sizeOf, typeInfo, hi, hs]
theorem row_upto (hK : K.Ok bytes) (ad : Option Addr) (len cap h : Nat) (hc : h ≤ cap) (W : World) :
    (Instr.slice K.sl (.slice ad len cap) none (some (.int .i64 (h : Int))) none).run Try.prog W = .ok (.slice ad h cap) W := by
  rw [run_slice_h _ _ _ _ _ (by rw [hK.elem]; exact hK.und) _ _ (by omega) (by omega), hK.sizeOf]
  simp only [Result.andThen, sliced, Int.toNat_natCast]
  rcases ad with _ | a
  · simp
  · simp [Addr.add]
theorem RowAt.take {ad : Option Addr} {len cap : Nat} {l : List α} (h : RowAt K w ad len cap l) (k : Nat) (hk : k ≤ len) : RowAt K w ad k cap (l.take k) := by
  have hl := h.length
  have hf := h.fits
  refine ⟨by rw [List.length_take]; omega, by omega, h.room, ?_⟩
  rcases h.cells with h0 | ⟨b, off, e, hlt, hc⟩
  · exact .inl (by omega)
  · refine .inr ⟨b, off, e, hlt, fun i x hi j u hj => hc i x ?_ j u hj⟩
    rw [List.getElem?_take] at hi
    split at hi
    · exact hi
    · cases hi
theorem row_from (hK : K.Ok bytes) {ad : Option Addr} {len cap : Nat} {l : List α} (h : RowAt K w ad len cap l) (k : Nat) (hk : k ≤ len) :
    ∃ ad' cap', (∀ W, (Instr.slice K.sl (.slice ad len cap) (some (.int .i64 (k : Int))) none none).run Try.prog W = .ok (.slice ad' (len - k) cap') W) ∧ RowAt K w ad' (len - k) cap' (l.drop k) ∧ (∀ a, ad' = some a → ∃ a0, ad = some a0 ∧ a.block = a0.block) := by
  have hl := h.length
  have hf := h.fits
  rcases ad with _ | ⟨b, off, x⟩
  · have hc := h.room rfl
    have hk0 : k = 0 := by omega
    have hl0 : len = 0 := by omega
    subst hk0 hl0 hc
    refine ⟨none, 0, fun W => ?_, ?_, fun a ha => by cases ha⟩
    · rw [run_slice_l _ _ _ _ _ (by rw [hK.elem]; exact hK.und) _ _ (by omega) (by omega), hK.sizeOf]
      simp [Result.andThen, sliced]
    · obtain rfl := List.eq_nil_of_length_eq_zero hl
      exact rowAt_nil w
  · refine ⟨some ((⟨b, off, x⟩ : Addr).add (if cap = k then 0 else k * K.size)), cap - k, fun W => ?_, ?_, fun a ha => ⟨_, rfl, by cases ha; exact add_block _ _⟩⟩
    · rw [run_slice_l _ _ _ _ _ (by rw [hK.elem]; exact hK.und) _ _ (by omega) (by omega), hK.sizeOf]
      simp only [Result.andThen, sliced, Int.toNat_natCast]
      by_cases h1 : cap = k
      · simp [h1, Addr.add]
      · simp [h1]
    · refine ⟨by rw [List.length_drop]; omega, by omega, (fun e => by cases e), ?_⟩
      by_cases h0 : len - k = 0
      · exact .inl h0
      · rcases h.cells with h1 | ⟨b', off', e, hlt, hc⟩
        · omega
        · cases e
          rw [if_neg (by omega), add_at]
          refine .inr ⟨b, off + k * K.size, rfl, hlt, fun i x hi j u hj => ?_⟩
          rw [List.getElem?_drop] at hi
          have := hc (k + i) x hi j u hj
          rw [Nat.add_mul] at this
          rw [show off + k * K.size + (i * K.size + j) = off + (k * K.size + i * K.size + j) by omega]
          exact this
theorem grow_one (w : World) (k j : Nat) (u : Value) : w.grownBy (w.setCell ⟨k, j, none⟩ u) (some k) := grow_set (grow_refl w (some k)) j u
theorem OwnRow.off {base k : Nat} {v : Value} {l : List α} (h : OwnRow K w base v l) (hk : k < base) (j : Nat) (u : Value) : OwnRow K (w.setCell ⟨k, j, none⟩ u) base v l :=
  h.grown (grow_one w k j u) fun q hq e => by have := (h.lt q hq).1; cases e; omega
theorem RowAt.off {ad : Option Addr} {len cap k : Nat} {l : List α} (h : RowAt K w ad len cap l) (hk : ∀ a, ad = some a → a.block ≠ k) (j : Nat) (u : Value) : RowAt K (w.setCell ⟨k, j, none⟩ u) ad len cap l :=
  h.grown (grow_one w k j u) fun a ha e => hk a ha (by cases e; rfl)
theorem RowAt.lt {ad : Option Addr} {len cap : Nat} {l : List α} (h : RowAt K w ad len cap l) (h0 : 0 < len) : ∀ a, ad = some a → a.block < w.heap.size := by
  intro a ha
  rcases h.cells with h1 | ⟨b, off, e, hlt, _⟩
  · omega
  · rw [ha] at e; cases e; exact hlt
/-- What is written into a block that is not older than all leaves the elder ones. -/
theorem OwnRow.row (hK : K.Ok bytes) {base n : Nat} {v : Value} {l : List α} (h : OwnRow K w base v l) (hn : l.length = n) : ∃ ad cap, v = .slice ad n cap ∧ RowAt K w ad n cap l ∧ (∀ a, ad = some a → base ≤ a.block ∧ a.block < w.heap.size) := by
  subst hn
  exact h.at hK
theorem appended_below {base B : Nat} {v v' : Value} {l m : List α} (hap : Appended K w base v l v' w') (ho : OwnRow K w base v m) {w0 : World} (hb : Below B w0 w) (hB : B ≤ base) (hs : B ≤ w.heap.size) : Below B w0 w' := by
  refine hb.grown hap.2.1 hs fun k hk => ?_
  have := (ho.lt k hk).1
  omega
end
end Go.Proofs.Ytelbignfecjjhaa
