/- Chapter 7's files, plain: what a call leaves of what it isn't asked for; how much there is at most. -/
import Derived.Test.YtjocfkkcnkpjdaaDoorCfMath
namespace Go.FsMath
open Go.RuneMath
set_option linter.unusedVariables false

theorem mem_of_ne {l : List Fl} {i : Nat} {f g : Fl} (hf : f ∈ l) (hg : l[i]? = some g) (hne : f.name ≠ g.name) : ∃ j, j ≠ i ∧ l[j]? = some f := by
  obtain ⟨j, hj⟩ := List.getElem?_of_mem hf
  refine ⟨j, fun e => ?_, hj⟩
  subst e
  rw [hj] at hg
  exact hne (by rw [Option.some.inj hg])
theorem has_at {l : List Fl} {n : ByteArray} (h : hasF l n = true) : ∃ g, l[atF l n]? = some g ∧ g.name = n := has_some h
theorem stay_set {l : List Fl} {i : Nat} {f g x : Fl} (hf : f ∈ l) (hg : l[i]? = some g) (hne : f.name ≠ g.name) : f ∈ l.set i x := by
  obtain ⟨j, hj, hjf⟩ := mem_of_ne hf hg hne
  refine List.mem_of_getElem? (i := j) ?_
  rw [List.getElem?_set, if_neg (fun e => hj e.symm)]
  exact hjf
theorem stay_drop {l : List Fl} {i : Nat} {f g : Fl} (hf : f ∈ l) (hg : l[i]? = some g) (hne : f.name ≠ g.name) : f ∈ dropF l i := by
  obtain ⟨j, hj, hjf⟩ := mem_of_ne hf hg hne
  unfold dropF
  rcases Nat.lt_or_ge j i with h | h
  · refine List.mem_append_left _ (List.mem_of_getElem? (i := j) ?_)
    rw [List.getElem?_take, if_pos h]
    exact hjf
  · refine List.mem_append_right _ (List.mem_of_getElem? (i := j - (i + 1)) ?_)
    rw [List.getElem?_drop, show i + 1 + (j - (i + 1)) = j by omega]
    exact hjf
theorem stay_put {l : List Fl} {i : Nat} {f x : Fl} (hf : f ∈ l) : f ∈ l.take i ++ x :: l.drop i := by
  have h : f ∈ l.take i ++ l.drop i := by rw [List.take_append_drop]; exact hf
  rcases List.mem_append.1 h with h1 | h1
  · exact List.mem_append_left _ h1
  · exact List.mem_append_right _ (List.mem_cons_of_mem _ h1)
theorem stay_ins {l : List Fl} {n : ByteArray} {f : Fl} (hf : f ∈ l) : f ∈ insF l n := by
  unfold insF
  split
  · exact hf
  · exact stay_put hf
theorem ins_at {l : List Fl} {n : ByteArray} : ∃ g, (insF l n)[atF l n]? = some g ∧ g.name = n := by
  unfold insF
  split
  · rename_i h
    exact has_some h
  · refine ⟨⟨n, [], 0⟩, ?_, rfl⟩
    rw [List.getElem?_append_right (by rw [List.length_take]; omega), List.length_take, Nat.min_eq_left (atF_le l n), Nat.sub_self]
    rfl
theorem stay_turn {l : List Fl} {i : Nat} {f g : Fl} {t : Fl → Fl} (hf : f ∈ l) (hg : l[i]? = some g) (hne : f.name ≠ g.name) : f ∈ turnF l i t := by
  unfold turnF
  rw [hg]
  exact stay_set hf hg hne
theorem stay_append {s : Fs} {n : ByteArray} {b : List Nat} {f : Fl} (hf : f ∈ s.l) (hne : f.name ≠ n) : f ∈ (appendF s n b).2.l := by
  unfold appendF
  split
  · exact hf
  · split
    · exact hf
    · split
      · exact hf
      · obtain ⟨g, hg, hn⟩ := ins_at (l := s.l) (n := n)
        exact stay_turn (stay_ins hf) hg (by rw [hn]; exact hne)
theorem stay_trunc {s : Fs} {n : ByteArray} {k : Int} {f : Fl} (hf : f ∈ s.l) (hne : f.name ≠ n) : f ∈ (truncF s n k).2.l := by
  unfold truncF
  split
  · rename_i g hg
    split
    · exact hf
    · rename_i hn
      split
      · exact hf
      · split
        · exact hf
        · exact stay_set hf hg (by rw [Decidable.not_not.1 hn]; exact hne)
  · exact hf
theorem stay_remove {s : Fs} {n : ByteArray} {f : Fl} (hf : f ∈ s.l) (hne : f.name ≠ n) : f ∈ (removeF s n).2.l := by
  unfold removeF
  split
  · exact hf
  · rename_i h
    split
    · exact hf
    · obtain ⟨g, hg, hn⟩ := has_some (by simpa using h)
      exact stay_drop hf hg (by rw [hn]; exact hne)
theorem stay_move {l : List Fl} {a b : ByteArray} {f : Fl} (hf : f ∈ l) (ha : hasF l a = true) (hne : f.name ≠ a) (hnb : f.name ≠ b) : f ∈ moveF l a b := by
  obtain ⟨g, hg, hn⟩ := has_some ha
  unfold moveF
  rw [hg]
  simp only
  have h1 : f ∈ dropF l (atF l a) := stay_drop hf hg (by rw [hn]; exact hne)
  refine stay_put ?_
  split
  · rename_i hb
    obtain ⟨g2, hg2, hn2⟩ := has_some hb
    exact stay_drop h1 hg2 (by rw [hn2]; exact hnb)
  · exact h1
theorem deed_l (s : Fs) : (deedF s).l = s.l := by
  unfold deedF
  split <;> rfl
theorem stay_rename {s : Fs} {a b : ByteArray} {f : Fl} (hf : f ∈ s.l) (hne : f.name ≠ a) (hnb : f.name ≠ b) : f ∈ (renameF s a b).2.l := by
  unfold renameF
  split
  · exact hf
  · rename_i h
    split
    · exact hf
    · split
      · exact hf
      · split
        · show f ∈ (deedF s).l
          rw [deed_l]
          exact hf
        · exact stay_move hf (by simpa using h) hne hnb
/-- What is durable whole is left by a crash. -/
theorem crash_whole {f : Fl} (h : f.lasts = f.b.length) (k : Int) (g : Option Nat) : crashOne f k g = f := by
  have h1 : keepN f k = 0 := by
    unfold keepN
    rw [h]
    omega
  have h2 : f.b.take (f.lasts + keepN f k) = f.b := List.take_of_length_le (by omega)
  have hx : ∀ (b : List Nat) (i g : Nat), b.length ≤ i → xorAt b i g = b := fun b i g hi => by
    refine List.ext_getElem? fun t => ?_
    unfold xorAt
    rw [List.getElem?_mapIdx]
    cases hb : b[t]? with
    | none => rfl
    | some x =>
      have := (List.getElem?_eq_some_iff.1 hb).1
      show some (if i ≤ t then _ else _) = _
      rw [if_neg (by omega)]
  unfold crashOne
  simp only [h2]
  obtain ⟨nm, b, lasts⟩ := f
  simp only at h ⊢
  cases g with
  | none =>
    show (⟨nm, b, b.length⟩ : Fl) = _
    rw [← h]
  | some g =>
    show (⟨nm, xorAt b (max lasts (b.length - 64)) g, (xorAt b (max lasts (b.length - 64)) g).length⟩ : Fl) = _
    rw [hx b (max lasts (b.length - 64)) g (by omega), ← h]
theorem stay_crash {l : List Fl} {f : Fl} (hf : f ∈ l) (h : f.lasts = f.b.length) (ks : List Int) (gs : List Nat) : f ∈ crashF l ks gs := by
  obtain ⟨j, hj⟩ := List.getElem?_of_mem hf
  refine List.mem_of_getElem? (i := j) ?_
  unfold crashF
  rw [List.getElem?_mapIdx, hj]
  show some (crashOne f (ks[j]?.getD 0) gs[j]?) = some f
  rw [crash_whole h]
theorem read_mem {l : List Fl} (h : SortedF l) {f : Fl} (hf : f ∈ l) : l[atF l f.name]? = some f := by
  obtain ⟨j, hj⟩ := List.getElem?_of_mem hf
  rw [at_of h hj]
  exact hj
/-! How much there is -/
structure Sm (s : Fs) (L M : Nat) (D : Int) : Prop where
  n : s.l.length ≤ L
  b : ∀ f ∈ s.l, f.b.length ≤ M
  d0 : 0 ≤ s.done
  d1 : s.done ≤ D
  l0 : -1 ≤ s.left
  l1 : s.left ≤ 1073741824
section
variable {s : Fs} {L M : Nat} {D : Int}
theorem Sm.more (h : Sm s L M D) {L' M' : Nat} {D' : Int} (hl : L ≤ L') (hm : M ≤ M') (hd : D ≤ D') : Sm s L' M' D' :=
  ⟨by have := h.n; omega, fun f hf => by have := h.b f hf; omega, h.d0, by have := h.d1; omega, h.l0, h.l1⟩
theorem Sm.nums (h : Sm s L M D) {l : List Fl} {L' M' : Nat} (hn : l.length ≤ L') (hb : ∀ f ∈ l, f.b.length ≤ M') : Sm ⟨l, (deedF s).left, (deedF s).done⟩ L' M' (D + 1) := by
  have h1 := h.d0
  have h2 := h.d1
  have h3 := h.l0
  have h4 := h.l1
  unfold deedF
  split
  · exact ⟨hn, hb, h1, by show s.done ≤ _; omega, h3, h4⟩
  · refine ⟨hn, hb, by show 0 ≤ s.done + 1; omega, by show s.done + 1 ≤ _; omega, ?_, ?_⟩
    · show -1 ≤ if 0 < s.left then s.left - 1 else s.left
      split <;> omega
    · show (if 0 < s.left then s.left - 1 else s.left) ≤ _
      split <;> omega
theorem drop_len (l : List Fl) (i : Nat) : (dropF l i).length ≤ l.length := by unfold dropF; rw [List.length_append, List.length_take, List.length_drop]; omega
theorem drop_all {l : List Fl} {i : Nat} {f : Fl} (h : f ∈ dropF l i) : f ∈ l := by
  unfold dropF at h
  rcases List.mem_append.1 h with h | h
  · exact List.mem_of_mem_take h
  · exact List.mem_of_mem_drop h
theorem Sm.append (h : Sm s L M D) (n : ByteArray) (b : List Nat) : Sm (appendF s n b).2 (L + 1) (M + b.length) (D + 1) := by
  have h0 := h.more (L' := L + 1) (M' := M + b.length) (D' := D + 1) (by omega) (by omega) (by omega)
  unfold appendF
  split
  · exact h0
  · split
    · exact h0
    · split
      · exact h0
      · have hi : (insF s.l n).length ≤ L + 1 ∧ ∀ f ∈ insF s.l n, f.b.length ≤ M := by
          unfold insF
          split
          · exact ⟨by have := h.n; omega, h.b⟩
          · refine ⟨by rw [List.length_append, List.length_cons, List.length_take, List.length_drop]; have := h.n; omega, fun f hf => ?_⟩
            rcases List.mem_append.1 hf with h1 | h1
            · exact h.b f (List.mem_of_mem_take h1)
            · rcases List.mem_cons.1 h1 with rfl | h1
              · exact Nat.zero_le _
              · exact h.b f (List.mem_of_mem_drop h1)
        refine h.nums ?_ ?_
        · unfold turnF
          split
          · rw [List.length_set]; exact hi.1
          · exact hi.1
        · intro f hf
          unfold turnF at hf
          split at hf
          · rename_i g hg
            rcases List.mem_or_eq_of_mem_set hf with h1 | rfl
            · have := hi.2 f h1; omega
            · have := hi.2 g (List.mem_of_getElem? hg)
              simp only [List.length_append]
              omega
          · have := hi.2 f hf; omega
theorem Sm.trunc (h : Sm s L M D) (n : ByteArray) (k : Int) : Sm (truncF s n k).2 (L + 1) M (D + 1) := by
  have h0 := h.more (L' := L + 1) (M' := M) (D' := D + 1) (by omega) (by omega) (by omega)
  unfold truncF
  split
  · rename_i g hg
    split
    · exact h0
    · split
      · exact h0
      · split
        · exact h0
        · refine h.nums (by rw [List.length_set]; have := h.n; omega) fun f hf => ?_
          rcases List.mem_or_eq_of_mem_set hf with h1 | rfl
          · exact h.b f h1
          · have := h.b g (List.mem_of_getElem? hg)
            simp only [List.length_take]
            omega
  · exact h0
theorem Sm.remove (h : Sm s L M D) (n : ByteArray) : Sm (removeF s n).2 (L + 1) M (D + 1) := by
  have h0 := h.more (L' := L + 1) (M' := M) (D' := D + 1) (by omega) (by omega) (by omega)
  unfold removeF
  split
  · exact h0
  · split
    · exact h0
    · exact h.nums (by have := drop_len s.l (atF s.l n); have := h.n; omega) fun f hf => h.b f (drop_all hf)
theorem Sm.sync (h : Sm s L M D) (n : ByteArray) : Sm (syncF s n).2 (L + 1) M (D + 1) := by
  have h0 := h.more (L' := L + 1) (M' := M) (D' := D + 1) (by omega) (by omega) (by omega)
  unfold syncF
  split
  · exact h0
  · split
    · exact h0
    · refine h.nums ?_ fun f hf => ?_
      · unfold turnF
        split
        · rw [List.length_set]; have := h.n; omega
        · have := h.n; omega
      · unfold turnF at hf
        split at hf
        · rename_i g hg
          rcases List.mem_or_eq_of_mem_set hf with h1 | rfl
          · exact h.b f h1
          · exact h.b g (List.mem_of_getElem? hg)
        · exact h.b f hf
theorem Sm.rename (h : Sm s L M D) (a b : ByteArray) : Sm (renameF s a b).2 (L + 1) M (D + 1) := by
  have h0 := h.more (L' := L + 1) (M' := M) (D' := D + 1) (by omega) (by omega) (by omega)
  unfold renameF
  split
  · exact h0
  · split
    · exact h0
    · split
      · exact h0
      · split
        · have := h.nums (l := s.l) (L' := L + 1) (M' := M) (by have := h.n; omega) h.b
          have e : deedF s = ⟨s.l, (deedF s).left, (deedF s).done⟩ := by
            conv => rhs; rw [← deed_l s]
          rw [e]
          exact this
        · have hm : (moveF s.l a b).length ≤ L + 1 ∧ ∀ f ∈ moveF s.l a b, f.b.length ≤ M := by
            unfold moveF
            split
            · rename_i x hx
              simp only
              have hr : ∀ (r : List Fl) (q : Nat) (y : Fl), r.length ≤ L → (∀ f ∈ r, f.b.length ≤ M) → y.b.length ≤ M → (r.take q ++ y :: r.drop q).length ≤ L + 1 ∧ ∀ f ∈ r.take q ++ y :: r.drop q, f.b.length ≤ M := fun r q y h1 h2 h3 => by
                refine ⟨by rw [List.length_append, List.length_cons, List.length_take, List.length_drop]; omega, fun f hf => ?_⟩
                rcases List.mem_append.1 hf with h4 | h4
                · exact h2 f (List.mem_of_mem_take h4)
                · rcases List.mem_cons.1 h4 with rfl | h4
                  · exact h3
                  · exact h2 f (List.mem_of_mem_drop h4)
              have hd1 := drop_len s.l (atF s.l a)
              have hn := h.n
              have hxb := h.b x (List.mem_of_getElem? hx)
              split
              · refine hr _ _ _ ?_ (fun f hf => h.b f (drop_all (drop_all hf))) hxb
                have := drop_len (dropF s.l (atF s.l a)) (atF (dropF s.l (atF s.l a)) b)
                omega
              · exact hr _ _ _ (by omega) (fun f hf => h.b f (drop_all hf)) hxb
            · exact ⟨by have := h.n; omega, h.b⟩
          exact h.nums hm.1 hm.2
theorem Sm.crash (h : Sm s L M D) (ks : List Int) (gs : List Nat) : Sm ⟨crashF s.l ks gs, -1, s.done⟩ (L + 1) M (D + 1) := by
  have h1 := h.d1
  refine ⟨by unfold crashF; rw [List.length_mapIdx]; have := h.n; omega, fun f hf => ?_, h.d0, by show s.done ≤ _; omega, by show (-1 : Int) ≤ -1; omega, by show (-1 : Int) ≤ _; omega⟩
  obtain ⟨j, hj⟩ := List.getElem?_of_mem hf
  unfold crashF at hj
  rw [List.getElem?_mapIdx] at hj
  cases hx : s.l[j]? with
  | none => rw [hx] at hj; cases hj
  | some x =>
    rw [hx] at hj
    have e := Option.some.inj hj
    have hb := h.b x (List.mem_of_getElem? hx)
    rw [← e]
    unfold crashOne
    simp only
    have hl : ∀ (b : List Nat) i g, (xorAt b i g).length = b.length := fun b i g => by unfold xorAt; exact List.length_mapIdx
    split
    · rw [hl, List.length_take]; omega
    · rw [List.length_take]; omega
theorem Sm.stop (h : Sm s L M D) (k : Int) (h0 : -1 ≤ k) (h1 : k ≤ 1073741824) : Sm ⟨s.l, k, s.done⟩ L M D := ⟨h.n, h.b, h.d0, h.d1, h0, h1⟩
end
end Go.FsMath
