/- Plain mathematics of chapter 7 beyond the document's own answer: files in the order of their names. No condition on any program. -/
import Derived.Test.YtjocfkkcnkpjdaaDoorFsMath
import Derived.Lib.MapLaws
namespace Go.FsMath
open Go.RuneMath
open Go.Lib
set_option linter.unusedVariables false

theorem encs_self : ∀ (n : Nat) (l : List UInt8), l.length ≤ n → (∀ r ∈ runes l, r ≠ 65533) → encs (runes l) = l
  | 0, l, h, _ => by rw [List.eq_nil_of_length_eq_zero (Nat.le_zero.1 h)]; rfl
  | n + 1, l, h, hr => by
    by_cases hne : l = []
    · subst hne; rfl
    · rw [runes_cons hne] at hr ⊢
      have h1 := hr _ (List.mem_cons_self ..)
      have hw := decodeL_width l
      have hlen : (l.drop (decodeL l).2).length ≤ n := by rw [List.length_drop]; omega
      rw [encs_cons, encs_self n _ hlen fun r hrm => hr r (List.mem_cons_of_mem _ hrm)]
      show encodeRune ((decodeL l).1 : Int) ++ _ = _
      rw [encode_decode l hne fun h => h1 h.1, List.take_append_drop]
theorem right_self {l : List UInt8} (h : rightB l = true) : encs (runes l) = l := by
  refine encs_self _ l (Nat.le_refl _) fun r hr e => ?_
  unfold rightB rightR at h
  simp only [Bool.and_eq_true, List.all_eq_true] at h
  have := h.1.1 r hr
  rw [e] at this
  exact absurd this (by decide)
theorem less_tri : ∀ x y : List Nat, lessR x y = false → lessR y x = false → x = y
  | [], [], _, _ => rfl
  | [], _ :: _, h, _ => by cases h
  | _ :: _, [], _, h => by cases h
  | a :: x, b :: y, h1, h2 => by
    unfold lessR at h1 h2
    by_cases e : a = b
    · subst e
      rw [if_pos rfl] at h1 h2
      rw [less_tri x y h1 h2]
    · rw [if_neg e] at h1
      rw [if_neg (fun e2 => e e2.symm)] at h2
      simp at h1 h2
      omega
def rightS (n : ByteArray) : Prop := rightB n.data.toList = true
theorem lessS_irr (a : ByteArray) : lessS a a = false := less_irr _
theorem lessS_trans {a b c : ByteArray} (h : lessS a b = true) (k : lessS b c = true) : lessS a c = true := less_trans _ _ _ h k
theorem lessS_asym {a b : ByteArray} (h : lessS a b = true) : lessS b a = false := less_asym _ _ h
theorem lessS_tri {a b : ByteArray} (ha : rightS a) (hb : rightS b) (h1 : lessS a b = false) (h2 : lessS b a = false) : a = b := by
  have h := less_tri _ _ h1 h2
  have e : a.data.toList = b.data.toList := by rw [← right_self ha, ← right_self hb, h]
  cases a with | mk x => cases b with | mk y =>
  simp only at e
  rw [Array.toList_inj.1 e]
theorem lessS_ne {a b : ByteArray} (h : lessS a b = true) : a ≠ b := fun e => by rw [e, lessS_irr] at h; cases h
/-- The files stand in the order of their names. -/
def SortedF (l : List Fl) : Prop := (l.map (·.name)).Pairwise fun a b => lessS a b = true
theorem SortedF.nodup {l : List Fl} (h : SortedF l) : (l.map (·.name)).Nodup := h.imp fun h => lessS_ne h
theorem SortedF.one {l : List Fl} (h : SortedF l) {f g : Fl} (hf : f ∈ l) (hg : g ∈ l) (e : f.name = g.name) : f = g := by
  obtain ⟨i, hi⟩ := List.getElem?_of_mem hf
  obtain ⟨j, hj⟩ := List.getElem?_of_mem hg
  have hi' : (l.map (·.name))[i]? = some f.name := by rw [List.getElem?_map, hi]; rfl
  have hj' : (l.map (·.name))[j]? = some f.name := by rw [List.getElem?_map, hj, e]; rfl
  have := (List.getElem?_inj (i := i) (j := j) (List.getElem?_eq_some_iff.1 hi').1 h.nodup).1 (hi'.trans hj'.symm)
  subst this
  exact Option.some.inj (hi.symm.trans hj)
theorem at_of {l : List Fl} (h : SortedF l) : ∀ {i : Nat} {f : Fl}, l[i]? = some f → atF l f.name = i := by
  induction l with
  | nil => intro i f hi; cases hi
  | cons q l ih =>
    intro i f hi
    have hp := h
    unfold SortedF at hp
    rw [List.map_cons, List.pairwise_cons] at hp
    cases i with
    | zero =>
      cases hi
      unfold atF
      rw [lessS_irr]
      rfl
    | succ i =>
      have h1 : lessS q.name f.name = true := hp.1 _ (List.mem_map.2 ⟨f, List.mem_of_getElem? hi, rfl⟩)
      unfold atF
      rw [if_pos h1, ih hp.2 hi]
theorem has_of {l : List Fl} (h : SortedF l) {i : Nat} {f : Fl} (hi : l[i]? = some f) : hasF l f.name = true := by
  unfold hasF
  rw [at_of h hi, hi]
  exact eqS_iff.2 rfl
theorem has_mem {l : List Fl} (h : SortedF l) {n : ByteArray} : hasF l n = true ↔ ∃ f ∈ l, f.name = n := by
  constructor
  · intro h1
    obtain ⟨f, hf, e⟩ := has_some h1
    exact ⟨f, List.mem_of_getElem? hf, e⟩
  · rintro ⟨f, hf, rfl⟩
    obtain ⟨i, hi⟩ := List.getElem?_of_mem hf
    exact has_of h hi
theorem has_no {l : List Fl} (h : SortedF l) {n : ByteArray} (h0 : hasF l n = false) : ∀ f ∈ l, f.name ≠ n := fun f hf e => by
  have := (has_mem h).2 ⟨f, hf, e⟩
  rw [h0] at this
  cases this
theorem at_split : ∀ (l : List Fl) (n : ByteArray), (∀ f ∈ l.take (atF l n), lessS f.name n = true) ∧ (∀ f, l[atF l n]? = some f → lessS f.name n = false)
  | [], n => ⟨fun f h => by simp at h, fun f h => by cases h⟩
  | q :: l, n => by
    unfold atF
    by_cases hq : lessS q.name n = true
    · rw [if_pos hq]
      obtain ⟨h1, h2⟩ := at_split l n
      refine ⟨fun f hf => ?_, fun f hf => h2 f hf⟩
      rw [List.take_succ_cons] at hf
      rcases List.mem_cons.1 hf with rfl | hf
      · exact hq
      · exact h1 f hf
    · rw [if_neg hq]
      refine ⟨fun f hf => by simp at hf, fun f hf => ?_⟩
      cases hf
      cases h : lessS q.name n
      · rfl
      · exact absurd h hq
theorem ins_sorted {l : List Fl} (h : SortedF l) (hr : ∀ f ∈ l, rightS f.name) {x : Fl} (hx : rightS x.name) (h0 : hasF l x.name = false) : SortedF (l.take (atF l x.name) ++ x :: l.drop (atF l x.name)) := by
  obtain ⟨h1, h2⟩ := at_split l x.name
  have hsp : SortedF (l.take (atF l x.name) ++ l.drop (atF l x.name)) := by rw [List.take_append_drop]; exact h
  have h3 : ∀ f ∈ l.drop (atF l x.name), lessS x.name f.name = true := by
    cases hd : l.drop (atF l x.name) with
    | nil => intro f hf; cases hf
    | cons g t =>
      have hg : l[atF l x.name]? = some g := by
        have : (l.drop (atF l x.name))[0]? = some g := by rw [hd]; rfl
        rwa [List.getElem?_drop, Nat.add_zero] at this
      have hgm := List.mem_of_getElem? hg
      have hlt : lessS x.name g.name = true := by
        cases hh : lessS x.name g.name
        · exact absurd (lessS_tri (hr g hgm) hx (h2 g hg) hh) (has_no h h0 g hgm)
        · rfl
      intro f hf
      rcases List.mem_cons.1 hf with rfl | hf
      · exact hlt
      · have hp : SortedF (g :: t) := by
          have := h
          unfold SortedF at this ⊢
          rw [← hd]
          exact this.sublist ((List.drop_sublist _ _).map _)
        unfold SortedF at hp
        rw [List.map_cons, List.pairwise_cons] at hp
        exact lessS_trans hlt (hp.1 _ (List.mem_map.2 ⟨f, hf, rfl⟩))
  unfold SortedF at hsp ⊢
  rw [List.map_append, List.pairwise_append] at hsp ⊢
  rw [List.map_cons, List.pairwise_cons]
  refine ⟨hsp.1, ⟨fun a ha => ?_, hsp.2.1⟩, fun a ha b hb => ?_⟩
  · obtain ⟨f, hf, rfl⟩ := List.mem_map.1 ha
    exact h3 f hf
  · obtain ⟨f, hf, rfl⟩ := List.mem_map.1 ha
    rcases List.mem_cons.1 hb with rfl | hb
    · exact h1 f hf
    · exact hsp.2.2 _ ha _ hb
theorem sorted_sub {l l' : List Fl} (h : SortedF l) (hs : List.Sublist l' l) : SortedF l' := List.Pairwise.sublist (hs.map _) h
theorem drop_sub (l : List Fl) (i : Nat) : List.Sublist (dropF l i) l := by
  unfold dropF
  have h1 : List.Sublist (l.take i ++ l.drop (i + 1)) (l.take i ++ l.drop i) := by
    refine List.Sublist.append (List.Sublist.refl _) ?_
    rw [← List.drop_drop]
    exact List.drop_sublist _ _
  rw [List.take_append_drop] at h1
  exact h1
theorem drop_sorted {l : List Fl} (h : SortedF l) (i : Nat) : SortedF (dropF l i) := sorted_sub h (drop_sub l i)
theorem same_names {l l' : List Fl} (h : SortedF l) (e : l'.map (·.name) = l.map (·.name)) : SortedF l' := by unfold SortedF; rw [e]; exact h
theorem set_names {l : List Fl} {i : Nat} {f g : Fl} (hf : l[i]? = some f) (e : g.name = f.name) : (l.set i g).map (·.name) = l.map (·.name) := by
  rw [List.map_set, e]
  refine List.ext_getElem? fun t => ?_
  rw [List.getElem?_set]
  by_cases ht : i = t
  · subst ht
    rw [if_pos rfl, List.getElem?_map, hf]
    rw [if_pos (by rw [List.length_map]; exact (List.getElem?_eq_some_iff.1 hf).1)]
    rfl
  · rw [if_neg ht]
theorem set_sorted {l : List Fl} (h : SortedF l) {i : Nat} {f g : Fl} (hf : l[i]? = some f) (e : g.name = f.name) : SortedF (l.set i g) := same_names h (set_names hf e)
theorem crash_names (l : List Fl) (ks : List Int) (gs : List Nat) : (crashF l ks gs).map (·.name) = l.map (·.name) := by
  unfold crashF
  refine List.ext_getElem? fun t => ?_
  rw [List.getElem?_map, List.getElem?_mapIdx, List.getElem?_map]
  cases l[t]? <;> rfl
theorem crash_sorted {l : List Fl} (h : SortedF l) (ks : List Int) (gs : List Nat) : SortedF (crashF l ks gs) := same_names h (crash_names l ks gs)
theorem drop_none {l : List Fl} (h : SortedF l) {i : Nat} {f : Fl} (hi : l[i]? = some f) : ∀ g ∈ dropF l i, g.name ≠ f.name := by
  have hil := (List.getElem?_eq_some_iff.1 hi).1
  have hs : l = l.take i ++ f :: l.drop (i + 1) := by
    have e := (List.getElem?_eq_some_iff.1 hi).2
    rw [← e, ← List.drop_eq_getElem_cons hil, List.take_append_drop]
  have hn := h.nodup
  rw [hs, List.map_append, List.map_cons] at hn
  intro g hg e
  unfold dropF at hg
  have hp := (List.perm_middle (l₁ := (l.take i).map (·.name)) (l₂ := (l.drop (i + 1)).map (·.name)) (a := f.name)).nodup_iff.1 hn
  rw [List.nodup_cons, ← List.map_append] at hp
  exact hp.1 (by rw [← e]; exact List.mem_map.2 ⟨g, hg, rfl⟩)
theorem drop_mem {l : List Fl} (h : SortedF l) {i : Nat} {f g : Fl} (hi : l[i]? = some f) : g ∈ dropF l i ↔ g ∈ l ∧ g.name ≠ f.name := by
  constructor
  · intro hg
    exact ⟨(drop_sub l i).subset hg, drop_none h hi g hg⟩
  · rintro ⟨hg, hne⟩
    have hil := (List.getElem?_eq_some_iff.1 hi).1
    have hs : l = l.take i ++ f :: l.drop (i + 1) := by
      have e := (List.getElem?_eq_some_iff.1 hi).2
      rw [← e, ← List.drop_eq_getElem_cons hil, List.take_append_drop]
    rw [hs] at hg
    unfold dropF
    rcases List.mem_append.1 hg with h1 | h1
    · exact List.mem_append_left _ h1
    · rcases List.mem_cons.1 h1 with rfl | h1
      · exact absurd rfl hne
      · exact List.mem_append_right _ h1
end Go.FsMath
