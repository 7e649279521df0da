/- Chapter 8, plain: what a binary search finds; what a cut leaves. -/
import Derived.Test.YtelbignfecjjhaaIxMath
namespace Go.IxMath
open Go.VarMath
set_option linter.unusedVariables false

theorem foldl_low (off : Int) : ∀ (l : List En) (z : Int), (∀ e ∈ l, off < e.off) → l.foldl (fun a e => if e.off ≤ off then e.pos else a) z = z
  | [], z, _ => rfl
  | e :: l, z, h => by
    rw [List.foldl_cons, if_neg (by have := h e List.mem_cons_self; omega)]
    exact foldl_low off l z fun x hx => h x (List.mem_cons_of_mem _ hx)
/-- Those ahead of k are not greater, those from k on are: the last one ahead of k is found. -/
theorem find_at {l : List En} {off : Int} {k : Nat} (hk : k ≤ l.length) (h1 : ∀ (j : Nat) (e : En), j < k → l[j]? = some e → e.off ≤ off) (h2 : ∀ (j : Nat) (e : En), k ≤ j → l[j]? = some e → off < e.off) :
    (k = 0 → findE l off = 0) ∧ ∀ (e : En), 0 < k → l[k - 1]? = some e → findE l off = e.pos := by
  have hd : findE l off = findE (l.take k) off := by
    conv => lhs; rw [← List.take_append_drop k l]
    unfold findE
    rw [List.foldl_append]
    refine foldl_low off _ _ fun e he => ?_
    obtain ⟨j, hj⟩ := List.mem_iff_getElem?.1 he
    rw [List.getElem?_drop] at hj
    exact h2 (k + j) e (by omega) hj
  refine ⟨fun h0 => ?_, fun e h0 he => ?_⟩
  · rw [hd, h0, List.take_zero]
    rfl
  · have hlt := (List.getElem?_eq_some_iff.1 he).1
    have ht : l.take k = l.take (k - 1) ++ [e] := by
      obtain ⟨hi, ee⟩ := List.getElem?_eq_some_iff.1 he
      rw [show k = (k - 1) + 1 by omega, List.take_succ_eq_append_getElem (by omega)]
      congr 1
      rw [ee]
    rw [hd, ht, findE_snoc, if_pos (h1 (k - 1) e (by omega) he)]
/-- What is left ahead of p. -/
def cutE (l : List En) (p : Int) : List En := l.filter fun e => decide (e.pos < p)
theorem cutA_snoc {base : Int} {bs : List Ba} (h : MadeI base bs) (b : Ba) (hb : lastF bs ≤ b.pos) (p : Int) : cutA (bs ++ [b]) p = if b.pos < p then bs ++ [b] else cutA bs p := by
  unfold cutA
  have hall := made_all h
  split
  · rename_i hp
    rw [List.takeWhile_append_of_pos (fun x hx => by have := hall x hx; exact decide_eq_true (by omega))]
    simp [List.takeWhile, hp]
  · rename_i hp
    rw [List.takeWhile_append]
    split
    · rename_i he
      simp only [List.takeWhile, decide_eq_false hp, List.append_nil]
      have h3 := List.takeWhile_prefix (p := fun b : Ba => decide (b.pos < p)) (l := bs)
      exact (h3.eq_of_length he).symm
    · rfl
theorem made_cut {base : Int} {bs : List Ba} (h : MadeI base bs) (p : Int) : MadeI base (cutA bs p) := by
  induction h with
  | nil => exact MadeI.nil
  | @snoc bs off pos size h hb ih =>
    rw [cutA_snoc h _ (good_of hb).2.2.2.1]
    split
    · exact h.snoc hb
    · exact ih
/-- The entries that a cut leaves are those ahead of it. -/
theorem ents_cut {every base : Int} {bs : List Ba} (h : MadeI base bs) (p : Int) : ents every (cutA bs p) = cutE (ents every bs) p := by
  induction h with
  | nil => rfl
  | @snoc bs off pos size h hb ih =>
    have hg := good_of hb
    rw [cutA_snoc h _ hg.2.2.2.1]
    split
    · rename_i hp
      unfold cutE
      rw [List.filter_eq_self.2]
      intro e he
      obtain ⟨b, hbm, rfl⟩ := ents_mem (h.snoc hb) e he
      have := (made_all (h.snoc hb) b hbm)
      refine decide_eq_true ?_
      show b.pos < p
      rcases List.mem_append.1 hbm with h1 | h1
      · have := made_all h b h1
        have hp : pos < p := hp
        omega
      · rw [List.mem_singleton.1 h1]
        exact hp
    · rename_i hp
      rw [ih, ents_snoc]
      unfold stepE
      split
      · unfold cutE
        rw [List.filter_append, List.filter_cons_of_neg (by simpa using hp)]
        simp
      · rfl
end Go.IxMath
