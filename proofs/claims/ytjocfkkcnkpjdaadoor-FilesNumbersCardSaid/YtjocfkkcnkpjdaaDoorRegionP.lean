/- A region that draws its order: what reckons alone (and reads no memory) is taken first, though no store waits for it. -/
import Derived.Test.YtjocfkkcnkpjdaaDoorRegionZ
namespace Go.Proofs.YtjocfkkcnkpjdaaDoor
open Go
set_option linter.unusedVariables false

section
variable {P : Program} {ops : Array Oper} {Q : Exit → Act → World → Prop} {md : Region.Mode} {S : World → Prop} {Z : List Nat}
theorem zfree_set {i : Nat} {L : Array Bool} (hiz : i ∉ Z) (h : ZFree Z (L.setIfInBounds i true)) : ZFree Z L := fun z hz => by
  have hne : i ≠ z := fun e => hiz (e ▸ hz)
  have := h z hz
  rwa [getD_set_ne false hne] at this
theorem zfree_put {i : Nat} {L : Array Bool} (hiz : i ∉ Z) (h : ZFree Z L) : ZFree Z (L.setIfInBounds i true) := fun z hz => by
  have hne : i ≠ z := fun e => hiz (e ▸ hz)
  rw [getD_set_ne false hne]
  exact h z hz
theorem wpAnyZ_firstP {i : Nat} {oi : Oper} {v : Value} (hi : ops[i]? = some oi) (hsel : ∀ (j : Nat) (o : Oper) cs b, ops[j]? = some o → o.op ≠ .select cs b)
    (hQ : ∀ c a w, Q (.panic c) (a.put oi.dst v) w → Q (.panic c) a w) (hiz : i ∉ Z) :
    ∀ (fuel : Nat) (listed : Array Bool) (a : Act) (w : World),
      (∀ j oj, ops[j]? = some oj → j ≠ i → listed.getD j true = false → (∀ e ∈ oj.after, Region.binds md e = true → e.on ≠ i) → oi.apart ops oj = true) →
      i ∈ Region.ready md ops listed → YieldsIf P ops (fun _ => True) oi v a → (ZFree Z listed → S w) →
      wpAnyZ P md ops Q Z S fuel (listed.setIfInBounds i true) (a.put oi.dst v) w → wpAnyZ P md ops Q Z S (fuel + 1) listed a w := by
  intro fuel
  induction fuel with
  | zero =>
    intro listed a w _ hr hy hS H
    refine ⟨fun h => (by rw [h] at hr; cases hr), fun j hj => ?_⟩
    by_cases hji : j = i
    · subst hji; exact hy.wpOp hi trivial ⟨fun hz => hS (zfree_set hiz hz), H⟩
    · have := ready_mono hj hji
      rw [H.1] at this
      cases this
  | succ fuel ih =>
    intro listed a w hfree hr hy hS H
    refine ⟨fun h => (by rw [h] at hr; cases hr), fun j hj => ?_⟩
    by_cases hji : j = i
    · subst hji; exact hy.wpOp hi trivial ⟨fun hz => hS (zfree_set hiz hz), H⟩
    · have h1 := H.2 j (ready_mono hj hji)
      obtain ⟨hjun, oj, hoj, hall⟩ := mem_ready.1 hj
      have hnot : ∀ e ∈ oj.after, Region.binds md e = true → e.on ≠ i := fun e he hb heq => by
        have h1 := hall e he hb
        have h0 := (mem_ready.1 hr).1
        rw [heq] at h1
        rw [unlisted h0] at h1
        cases h1
      have h2 := wpOp_putIf hoj (hfree j oj hoj hji hjun hnot) (fun cs b => hsel i oi cs b hi) (fun cs b => hsel j oj cs b hoj) hQ hy h1
      have hfree' : ∀ k ok, ops[k]? = some ok → k ≠ i → (listed.setIfInBounds j true).getD k true = false →
          (∀ e ∈ ok.after, Region.binds md e = true → e.on ≠ i) → oi.apart ops ok = true := fun k ok hk hki hun hno => by
        refine hfree k ok hk hki ?_ hno
        by_cases hjk : j = k
        · subst hjk; exact hjun
        · rw [getD_set_ne true hjk] at hun; exact hun
      have hr' := ready_mono hr (Ne.symm hji)
      have hback : ∀ w', (ZFree Z ((listed.setIfInBounds i true).setIfInBounds j true) → S w') → ZFree Z (listed.setIfInBounds j true) → S w' := fun w' h hz => h (by
        rw [Array.setIfInBounds_comm _ _ (Ne.symm hji)]
        exact zfree_put hiz hz)
      refine wpOp_mono (fun a' w' h3 => ⟨hback w' h3.2.1, ih (listed.setIfInBounds j true) a' w' hfree' hr' h3.1 (hback w' h3.2.1) ?_⟩) h2
      rw [Array.setIfInBounds_comm _ _ hji]
      exact h3.2.2
theorem wpAnyZ_takeP {i : Nat} {oi : Oper} {v : Value} {fuel : Nat} {listed : Array Bool} {a : Act} {w : World} (hi : ops[i]? = some oi)
    (hs : Region.noSelect ops = true) (hf : Region.free md ops listed i = true) (hr : (Region.ready md ops listed).contains i = true) (hz : (!Z.contains i) = true)
    (hQ : ∀ c a w, Q (.panic c) (a.put oi.dst v) w → Q (.panic c) a w) (hy : YieldsIf P ops (fun _ => True) oi v a) (hS : ZFree Z listed → S w)
    (h : wpAnyZ P md ops Q Z S fuel (listed.setIfInBounds i true) (a.put oi.dst v) w) : wpAnyZ P md ops Q Z S (fuel + 1) listed a w :=
  wpAnyZ_firstP hi (Region.noSelect_spec hs) hQ (by simpa using hz) fuel listed a w (Region.free_spec hi hf) (by simpa using hr) hy hS h
theorem zfree_any {z : Nat} {L : Array Bool} {Z : List Nat} {p : Prop} (h : (Z.contains z && L.getD z false) = true) : ZFree Z L → p := fun hz => by
  rw [Bool.and_eq_true] at h
  have h1 := hz z (by simpa using h.1)
  rw [h.2] at h1
  cases h1
end
end Go.Proofs.YtjocfkkcnkpjdaaDoor
