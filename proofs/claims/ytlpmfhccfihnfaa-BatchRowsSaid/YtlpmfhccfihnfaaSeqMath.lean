/- Plain mathematics of chapter 5's numbers, which go round: what is a number, steps on and back, the last of a batch, what follows, a gap. No condition on any program. -/
namespace Go.SeqMath

def rightB (n : Int) : Bool := decide (0 ≤ n) && decide (n ≤ 2147483647)
def addI (n k : Int) : Int := if rightB n = true then (n + k) % 2147483648 else -1
def lastI (n c : Int) : Int := if 1 ≤ c ∧ c ≤ 16 then addI n (c - 1) else -1
def followsB (l f : Int) : Bool := if l = -1 then decide (f = 0) else rightB l && decide (f = addI l 1)
def gapI (a b : Int) : Int := if rightB a = true ∧ rightB b = true then (b - a) % 2147483648 else -1
theorem right_yes {n : Int} (h0 : 0 ≤ n) (h1 : n ≤ 2147483647) : rightB n = true := by unfold rightB; simp [h0, h1]
theorem right_no {n : Int} (h : n < 0 ∨ 2147483647 < n) : rightB n = false := by
  unfold rightB
  rcases h with h | h
  · rw [decide_eq_false (by omega)]; rfl
  · rw [decide_eq_false (p := n ≤ 2147483647) (by omega), Bool.and_false]
theorem of_right {n : Int} (h : rightB n = true) : 0 ≤ n ∧ n ≤ 2147483647 := by unfold rightB at h; simpa using h
theorem of_no {n : Int} (h : rightB n = false) : n < 0 ∨ 2147483647 < n := by
  by_cases h0 : 0 ≤ n
  · by_cases h1 : n ≤ 2147483647
    · rw [right_yes h0 h1] at h; cases h
    · omega
  · omega
theorem add_yes {n : Int} (h0 : 0 ≤ n) (h1 : n ≤ 2147483647) (k : Int) : addI n k = (n + k) % 2147483648 := by unfold addI; rw [if_pos (right_yes h0 h1)]
theorem add_no {n : Int} (h : rightB n = false) (k : Int) : addI n k = -1 := by unfold addI; rw [if_neg (by rw [h]; decide)]
theorem add_bd (n k : Int) : -1 ≤ addI n k ∧ addI n k ≤ 2147483647 := by unfold addI; split <;> omega
theorem last_yes {c : Int} (h0 : 1 ≤ c) (h1 : c ≤ 16) (n : Int) : lastI n c = addI n (c - 1) := by unfold lastI; rw [if_pos ⟨h0, h1⟩]
theorem last_no {c : Int} (h : c < 1 ∨ 16 < c) (n : Int) : lastI n c = -1 := by unfold lastI; rw [if_neg (by omega)]
theorem gap_yes {a b : Int} (a0 : 0 ≤ a) (a1 : a ≤ 2147483647) (b0 : 0 ≤ b) (b1 : b ≤ 2147483647) : gapI a b = (b - a) % 2147483648 := by
  unfold gapI; rw [if_pos ⟨right_yes a0 a1, right_yes b0 b1⟩]
theorem gap_no {a b : Int} (h : rightB a = false ∨ rightB b = false) : gapI a b = -1 := by
  unfold gapI; rw [if_neg]
  rintro ⟨h1, h2⟩
  rcases h with h | h
  · rw [h1] at h; cases h
  · rw [h2] at h; cases h
theorem gap_bd (a b : Int) : -1 ≤ gapI a b ∧ gapI a b ≤ 2147483647 := by unfold gapI; split <;> omega
theorem follows_none (f : Int) : followsB (-1) f = decide (f = 0) := by unfold followsB; rw [if_pos rfl]
theorem follows_yes {l : Int} (h0 : 0 ≤ l) (h1 : l ≤ 2147483647) (f : Int) : followsB l f = decide (f = addI l 1) := by
  unfold followsB; rw [if_neg (by omega), right_yes h0 h1, Bool.true_and]
theorem follows_no {l : Int} (h : l ≠ -1) (h2 : rightB l = false) (f : Int) : followsB l f = false := by
  unfold followsB; rw [if_neg h, h2, Bool.false_and]
/- What the two laws say, of the plain functions. -/
theorem home {x k : Int} (x0 : 0 ≤ x) (x1 : x ≤ 2147483647) : addI (addI x k) (-k) = x := by
  rw [add_yes x0 x1, add_yes (by omega) (by omega)]; omega
theorem gap_add {x k : Int} (x0 : 0 ≤ x) (x1 : x ≤ 2147483647) (k0 : 0 ≤ k) (k1 : k ≤ 2147483647) : gapI x (addI x k) = k := by
  rw [add_yes x0 x1, gap_yes x0 x1 (by omega) (by omega)]; omega
theorem add_gap {x y : Int} (x0 : 0 ≤ x) (x1 : x ≤ 2147483647) (y0 : 0 ≤ y) (y1 : y ≤ 2147483647) : addI x (gapI x y) = y := by
  rw [gap_yes x0 x1 y0 y1, add_yes x0 x1]; omega
theorem follows_next {x : Int} (x0 : 0 ≤ x) (x1 : x ≤ 2147483647) : followsB x (addI x 1) = true := by
  rw [follows_yes x0 x1]; exact decide_eq_true rfl
theorem gap_same {x : Int} (x0 : 0 ≤ x) (x1 : x ≤ 2147483647) : gapI x x = 0 := by rw [gap_yes x0 x1 x0 x1]; omega
theorem gap_both {x y : Int} (x0 : 0 ≤ x) (x1 : x ≤ 2147483647) (y0 : 0 ≤ y) (y1 : y ≤ 2147483647) (h : x ≠ y) : gapI x y + gapI y x = 2147483648 := by
  rw [gap_yes x0 x1 y0 y1, gap_yes y0 y1 x0 x1]; omega
theorem add_add {x : Int} (x0 : 0 ≤ x) (x1 : x ≤ 2147483647) (j k : Int) : addI (addI x j) k = addI x (j + k) := by
  rw [add_yes x0 x1, add_yes x0 x1, add_yes (by omega) (by omega)]; omega
theorem add_right {x : Int} (x0 : 0 ≤ x) (x1 : x ≤ 2147483647) (k : Int) : 0 ≤ addI x k ∧ addI x k ≤ 2147483647 := by
  rw [add_yes x0 x1]; omega
theorem follows_not {x k : Int} (x0 : 0 ≤ x) (x1 : x ≤ 2147483647) (k0 : 0 ≤ k) (k1 : k ≤ 2147483646) : followsB (addI x k) x = false := by
  have h := add_right x0 x1 k
  rw [follows_yes h.1 h.2, add_add x0 x1, add_yes x0 x1]; exact decide_eq_false (by omega)
end Go.SeqMath
