/- Plain mathematics of chapter 7: what a crash does to bytes, and to files one by one. -/
import Derived.Test.YtjocfkkcnkpjdaaDoorFsMath
import Derived.Test.YtjocfkkcnkpjdaaDoorBytes
namespace Go.Proofs.YtjocfkkcnkpjdaaDoor
open Go.RowKit
open Go.RuneMath
open Go.FsMath
set_option linter.unusedVariables false

def xorTo (b : List Nat) (s j g : Nat) : List Nat := b.mapIdx fun t x => if s ≤ t ∧ t < j then x ^^^ g else x
theorem xorTo_get (b : List Nat) (s j g t : Nat) : (xorTo b s j g)[t]? = b[t]?.map fun x => if s ≤ t ∧ t < j then x ^^^ g else x := by
  unfold xorTo
  rw [List.getElem?_mapIdx]
theorem xorTo_len (b : List Nat) (s j g : Nat) : (xorTo b s j g).length = b.length := by unfold xorTo; exact List.length_mapIdx
theorem xorTo_start (b : List Nat) (s g : Nat) : xorTo b s s g = b := by
  refine List.ext_getElem? fun t => ?_
  rw [xorTo_get]
  cases b[t]? with
  | none => rfl
  | some x => simp only [Option.map_some]; rw [if_neg (by omega)]
theorem xorTo_at {b : List Nat} {s j g x : Nat} (h : b[j]? = some x) : (xorTo b s j g)[j]? = some x := by
  rw [xorTo_get, h]
  simp only [Option.map_some]
  rw [if_neg (by omega)]
theorem xorTo_step {b : List Nat} {s j g x : Nat} (h : b[j]? = some x) (hs : s ≤ j) : (xorTo b s j g).set j (x ^^^ g) = xorTo b s (j + 1) g := by
  refine List.ext_getElem? fun t => ?_
  rw [List.getElem?_set, xorTo_get, xorTo_get, xorTo_len]
  by_cases ht : j = t
  · subst ht
    rw [if_pos rfl, if_pos (List.getElem?_eq_some_iff.1 h).1, h]
    simp only [Option.map_some]
    rw [if_pos ⟨hs, by omega⟩]
  · rw [if_neg ht]
    cases b[t]? with
    | none => rfl
    | some y =>
      simp only [Option.map_some]
      by_cases hc : s ≤ t ∧ t < j
      · rw [if_pos hc, if_pos ⟨hc.1, by omega⟩]
      · rw [if_neg hc, if_neg (by omega)]
theorem xorTo_end (b : List Nat) (s j g : Nat) (hj : b.length ≤ j) : xorTo b s j g = xorAt b s g := by
  refine List.ext_getElem? fun t => ?_
  rw [xorTo_get]
  unfold xorAt
  rw [List.getElem?_mapIdx]
  by_cases ht : t < b.length
  · rw [List.getElem?_eq_getElem ht]
    simp only [Option.map_some]
    by_cases hc : s ≤ t
    · rw [if_pos ⟨hc, by omega⟩, if_pos hc]
    · rw [if_neg (fun h => hc h.1), if_neg hc]
  · rw [List.getElem?_eq_none (by omega)]; rfl
theorem xor_small {a b : Nat} (ha : a < 256) (hb : b < 256) : a ^^^ b < 256 := Nat.xor_lt_two_pow (n := 8) ha hb
theorem xorTo_all {b : List Nat} (h : AllB b) {s j g : Nat} (hg : g < 256) : AllB (xorTo b s j g) := by
  intro y hy
  obtain ⟨t, ht⟩ := List.getElem?_of_mem hy
  rw [xorTo_get] at ht
  cases hx : b[t]? with
  | none => rw [hx] at ht; cases ht
  | some x =>
    rw [hx] at ht
    simp only [Option.map_some, Option.some.injEq] at ht
    have hxb := h x (List.mem_of_getElem? hx)
    split at ht
    · rw [← ht]; exact xor_small hxb hg
    · rw [← ht]; exact hxb
def crashTo (l : List Fl) (ks : List Int) (gs : List Nat) (i : Nat) : List Fl := l.mapIdx fun j f => if j < i then crashOne f (ks[j]?.getD 0) gs[j]? else f
theorem crashTo_get (l : List Fl) (ks : List Int) (gs : List Nat) (i t : Nat) : (crashTo l ks gs i)[t]? = l[t]?.map fun f => if t < i then crashOne f (ks[t]?.getD 0) gs[t]? else f := by
  unfold crashTo
  rw [List.getElem?_mapIdx]
theorem crashTo_len (l : List Fl) (ks : List Int) (gs : List Nat) (i : Nat) : (crashTo l ks gs i).length = l.length := by unfold crashTo; exact List.length_mapIdx
theorem crashTo_start (l : List Fl) (ks : List Int) (gs : List Nat) : crashTo l ks gs 0 = l := by
  refine List.ext_getElem? fun t => ?_
  rw [crashTo_get]
  cases l[t]? with
  | none => rfl
  | some x => rfl
theorem crashTo_at {l : List Fl} {ks : List Int} {gs : List Nat} {i : Nat} {f : Fl} (h : (crashTo l ks gs i)[i]? = some f) : l[i]? = some f := by
  rw [crashTo_get] at h
  cases hx : l[i]? with
  | none => rw [hx] at h; cases h
  | some x =>
    rw [hx] at h
    simp only [Option.map_some] at h
    rw [if_neg (by omega)] at h
    exact h
theorem crashTo_step {l : List Fl} {ks : List Int} {gs : List Nat} {i : Nat} {f : Fl} (h : l[i]? = some f) : (crashTo l ks gs i).set i (crashOne f (ks[i]?.getD 0) gs[i]?) = crashTo l ks gs (i + 1) := by
  refine List.ext_getElem? fun t => ?_
  rw [List.getElem?_set, crashTo_get, crashTo_get, crashTo_len]
  by_cases ht : i = t
  · subst ht
    rw [if_pos rfl, if_pos (List.getElem?_eq_some_iff.1 h).1, h]
    simp only [Option.map_some]
    rw [if_pos (by omega)]
  · rw [if_neg ht]
    cases l[t]? with
    | none => rfl
    | some y =>
      simp only [Option.map_some]
      by_cases hc : t < i
      · rw [if_pos hc, if_pos (by omega)]
      · rw [if_neg hc, if_neg (by omega)]
theorem crashTo_end (l : List Fl) (ks : List Int) (gs : List Nat) (i : Nat) (hi : l.length ≤ i) : crashTo l ks gs i = crashF l ks gs := by
  refine List.ext_getElem? fun t => ?_
  rw [crashTo_get]
  unfold crashF
  rw [List.getElem?_mapIdx]
  by_cases ht : t < l.length
  · rw [List.getElem?_eq_getElem ht]
    simp only [Option.map_some]
    rw [if_pos (by omega)]
  · have hn : l[t]? = none := List.getElem?_eq_none (by omega)
    rw [hn]; rfl
theorem one_len (f : Fl) (k : Int) (h : f.lasts ≤ f.b.length) : f.lasts + keepN f k ≤ f.b.length := by
  unfold keepN
  omega
end Go.Proofs.YtjocfkkcnkpjdaaDoor
