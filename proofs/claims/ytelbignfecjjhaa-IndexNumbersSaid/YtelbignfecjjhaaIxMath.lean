/- Chapter 8, plain: batches that were added, the entries that they get, where an offset is looked for, bytes. -/
import Derived.Test.YtelbignfecjjhaaVarMath
namespace Go.IxMath
open Go.VarMath
set_option linter.unusedVariables false

structure En where
  off : Int
  pos : Int
structure Ba where
  off : Int
  pos : Int
  fin : Int
def wantE (every : Int) (l : List En) (p : Int) : Bool := match l.getLast? with
  | none => true
  | some e => decide (every ≤ p - e.pos)
def stepE (every : Int) (l : List En) (b : Ba) : List En := if wantE every l b.pos then l ++ [⟨b.off, b.pos⟩] else l
def ents (every : Int) (bs : List Ba) : List En := bs.foldl (stepE every) []
def lastO (bs : List Ba) : Int := match bs.getLast? with
  | none => -1
  | some b => b.off
def lastF (bs : List Ba) : Int := match bs.getLast? with
  | none => 0
  | some b => b.fin
def badA (base : Int) (bs : List Ba) (off pos size : Int) : Bool := decide (off < base ∨ off ≤ lastO bs ∨ pos < 0 ∨ pos < lastF bs ∨ size < 1)
def addA (base : Int) (bs : List Ba) (off pos size : Int) : List Ba := if badA base bs off pos size then bs else bs ++ [⟨off, pos, pos + size⟩]
def cutA (bs : List Ba) (p : Int) : List Ba := bs.takeWhile fun b => decide (b.pos < p)
def findE (l : List En) (off : Int) : Int := l.foldl (fun a e => if e.off ≤ off then e.pos else a) 0
def bytesE (base : Int) (l : List En) : List Nat := l.flatMap fun e => longB (e.off - base) ++ longB e.pos

theorem ents_snoc (every : Int) (bs : List Ba) (b : Ba) : ents every (bs ++ [b]) = stepE every (ents every bs) b := by
  unfold ents
  rw [List.foldl_append]
  rfl
theorem findE_snoc (l : List En) (e : En) (off : Int) : findE (l ++ [e]) off = if e.off ≤ off then e.pos else findE l off := by
  unfold findE
  rw [List.foldl_append]
  rfl
theorem lastO_snoc (bs : List Ba) (b : Ba) : lastO (bs ++ [b]) = b.off := by simp [lastO]
theorem lastF_snoc (bs : List Ba) (b : Ba) : lastF (bs ++ [b]) = b.fin := by simp [lastF]
theorem bytesE_snoc (base : Int) (l : List En) (e : En) : bytesE base (l ++ [e]) = bytesE base l ++ (longB (e.off - base) ++ longB e.pos) := by
  unfold bytesE
  rw [List.flatMap_append]
  simp
theorem bytesE_len (base : Int) : ∀ l : List En, (bytesE base l).length = 16 * l.length
  | [] => rfl
  | e :: l => by
    have := bytesE_len base l
    unfold bytesE at *
    rw [List.flatMap_cons, List.length_append, this, List.length_append, length_longB, length_longB, List.length_cons]
    omega
theorem bytesE_all (base : Int) (l : List En) : AllB (bytesE base l) := by
  intro x hx
  obtain ⟨e, _, h⟩ := List.mem_flatMap.1 hx
  rcases List.mem_append.1 h with h | h
  · exact longB_all _ x h
  · exact longB_all _ x h
theorem longB_inj {a b : Int} (ha : -9223372036854775808 ≤ a ∧ a ≤ 9223372036854775807) (hb : -9223372036854775808 ≤ b ∧ b ≤ 9223372036854775807) (h : longB a = longB b) : a = b := by
  have h1 := backB_long ha.1 ha.2 []
  have h2 := backB_long hb.1 hb.2 []
  rw [h, h2] at h1
  exact (Prod.mk.inj h1).1.symm
def EnIn (base : Int) (e : En) : Prop := (-9223372036854775808 ≤ e.off - base ∧ e.off - base ≤ 9223372036854775807) ∧ -9223372036854775808 ≤ e.pos ∧ e.pos ≤ 9223372036854775807
theorem bytesE_inj (base : Int) : ∀ l m : List En, (∀ e ∈ l, EnIn base e) → (∀ e ∈ m, EnIn base e) → bytesE base l = bytesE base m → l = m
  | [], [], _, _, _ => rfl
  | [], e :: m, _, _, h => by
    have := congrArg List.length h
    rw [bytesE_len, bytesE_len] at this
    simp at this
  | e :: l, [], _, _, h => by
    have := congrArg List.length h
    rw [bytesE_len, bytesE_len] at this
    simp at this
  | e :: l, f :: m, hl, hm, h => by
    have he := hl e List.mem_cons_self
    have hf := hm f List.mem_cons_self
    unfold bytesE at h
    rw [List.flatMap_cons, List.flatMap_cons, List.append_assoc, List.append_assoc] at h
    obtain ⟨h1, h2⟩ := List.append_inj h (by rw [length_longB, length_longB])
    obtain ⟨h3, h4⟩ := List.append_inj h2 (by rw [length_longB, length_longB])
    have e1 := longB_inj he.1 hf.1 h1
    have e2 := longB_inj he.2 hf.2 h3
    have e3 := bytesE_inj base l m (fun x hx => hl x (List.mem_cons_of_mem _ hx)) (fun x hx => hm x (List.mem_cons_of_mem _ hx)) h4
    rw [e3]
    congr 1
    cases e
    cases f
    simp only at e1 e2
    congr 1
    omega
/-- Batches that were added, one by one. -/
inductive MadeI (base : Int) : List Ba → Prop
  | nil : MadeI base []
  | snoc {bs : List Ba} {off pos size : Int} : MadeI base bs → badA base bs off pos size = false → MadeI base (bs ++ [⟨off, pos, pos + size⟩])
theorem made_add {base : Int} {bs : List Ba} (h : MadeI base bs) (off pos size : Int) : MadeI base (addA base bs off pos size) := by
  unfold addA
  cases hb : badA base bs off pos size
  · exact h.snoc hb
  · exact h
theorem good_of {base : Int} {bs : List Ba} {off pos size : Int} (h : badA base bs off pos size = false) : base ≤ off ∧ lastO bs < off ∧ 0 ≤ pos ∧ lastF bs ≤ pos ∧ 1 ≤ size := by
  unfold badA at h
  have := of_decide_eq_false h
  omega
theorem made_all {base : Int} {bs : List Ba} (h : MadeI base bs) : ∀ b ∈ bs, base ≤ b.off ∧ b.off ≤ lastO bs ∧ 0 ≤ b.pos ∧ b.pos < b.fin ∧ b.fin ≤ lastF bs := by
  induction h with
  | nil => intro b hb; cases hb
  | @snoc bs off pos size h hb ih =>
    have hg := good_of hb
    intro b hb
    rw [lastO_snoc, lastF_snoc]
    rcases List.mem_append.1 hb with h1 | h1
    · have := ih b h1
      refine ⟨this.1, ?_, this.2.2.1, this.2.2.2.1, ?_⟩
      · show b.off ≤ off; omega
      · show b.fin ≤ pos + size; omega
    · obtain rfl := List.mem_singleton.1 h1
      refine ⟨hg.1, Int.le_refl _, hg.2.2.1, ?_, Int.le_refl _⟩
      show pos < pos + size; omega
theorem mem_stepE {every : Int} {l : List En} {b : Ba} {e : En} (h : e ∈ stepE every l b) : e ∈ l ∨ e = ⟨b.off, b.pos⟩ := by
  unfold stepE at h
  split at h
  · rcases List.mem_append.1 h with h | h
    · exact .inl h
    · exact .inr (List.mem_singleton.1 h)
  · exact .inl h
/-- Each entry is a batch's. -/
theorem ents_mem {every base : Int} {bs : List Ba} (h : MadeI base bs) : ∀ e ∈ ents every bs, ∃ b ∈ bs, e = ⟨b.off, b.pos⟩ := by
  induction h with
  | nil => intro e he; cases he
  | @snoc bs off pos size h hb ih =>
    intro e he
    rw [ents_snoc] at he
    rcases mem_stepE he with h1 | h1
    · obtain ⟨b, hb, hh⟩ := ih e h1
      exact ⟨b, List.mem_append_left _ hb, hh⟩
    · exact ⟨_, List.mem_append_right _ (List.mem_singleton.2 rfl), h1⟩
theorem ents_len (every : Int) (bs : List Ba) : (ents every bs).length ≤ bs.length := by
  rw [← List.reverse_reverse bs]
  induction bs.reverse with
  | nil => exact Nat.le_refl _
  | cons b r ih =>
    rw [List.reverse_cons, ents_snoc, List.length_append]
    unfold stepE
    split
    · rw [List.length_append, List.length_singleton, List.length_singleton]; omega
    · omega
theorem ents_nil {every base : Int} {bs : List Ba} (h : MadeI base bs) : ents every bs = [] ↔ bs = [] := by
  induction h with
  | nil => exact ⟨fun _ => rfl, fun _ => rfl⟩
  | @snoc bs off pos size h hb ih =>
    constructor
    · intro he
      rw [ents_snoc] at he
      unfold stepE at he
      split at he
      · simp at he
      · rename_i hw
        rw [ih.1 he] at hw
        exact absurd rfl hw
    · intro he
      simp at he
/-- Entries rise, no nearer than 'every' bytes. -/
def Rise (every : Int) (l : List En) : Prop := ∀ (i : Nat) (a b : En), l[i]? = some a → l[i + 1]? = some b → a.off < b.off ∧ every ≤ b.pos - a.pos
theorem rise_ents {every base : Int} {bs : List Ba} (h : MadeI base bs) : Rise every (ents every bs) := by
  induction h with
  | nil => intro i a b ha hb; cases ha
  | @snoc bs off pos size h hb ih =>
    have hg := good_of hb
    rw [ents_snoc]
    unfold stepE
    split
    · rename_i hw
      intro i a b ha hb'
      have hall := made_all h
      have hmem := ents_mem (every := every) h
      obtain ⟨l, hl⟩ : ∃ l, l = ents every bs := ⟨_, rfl⟩
      rw [← hl] at ha hb' ih hw hmem
      rcases Nat.lt_trichotomy (i + 1) l.length with h1 | h1 | h1
      · rw [List.getElem?_append_left (by omega)] at ha hb'
        exact ih i a b ha hb'
      · rw [List.getElem?_append_left (by omega)] at ha
        rw [List.getElem?_append_right (by omega), h1, Nat.sub_self] at hb'
        cases hb'
        have hla : l.getLast? = some a := by rw [List.getLast?_eq_getElem?, ← ha]; congr 1; omega
        unfold wantE at hw
        rw [hla] at hw
        have hw := of_decide_eq_true hw
        obtain ⟨c, hc, hce⟩ := hmem a (List.mem_of_getElem? ha)
        have := (hall c hc).2.1
        subst hce
        exact ⟨by show c.off < off; omega, hw⟩
      · rw [List.getElem?_eq_none (by rw [List.length_append]; simp; omega)] at hb'
        cases hb'
    · exact ih
theorem last_le {every base : Int} {bs : List Ba} (h : MadeI base bs) {off : Int} (ho : lastO bs ≤ off) (l : List En) (hl : l = ents every bs) (e : En) (he : l.getLast? = some e) : findE l off = e.pos := by
  obtain ⟨c, hc, hce⟩ := ents_mem h e (hl ▸ List.mem_of_getLast? he)
  have := (made_all h c hc).2.1
  obtain ⟨r, hr⟩ := List.getLast?_eq_some_iff.1 he
  rw [hr, findE_snoc, if_pos (by subst hce; show c.off ≤ off; omega)]
/-- A batch's place is found not far ahead of it. -/
theorem find_near {every base : Int} (he : 1 ≤ every) {bs : List Ba} (h : MadeI base bs) : ∀ b ∈ bs, ∃ c ∈ bs, c.off ≤ b.off ∧ findE (ents every bs) b.off = c.pos ∧ b.pos - c.pos < every := by
  induction h with
  | nil => intro b hb; cases hb
  | @snoc bs off pos size h hb ih =>
    have hg := good_of hb
    have hall := made_all h
    intro b hm
    rw [ents_snoc]
    rcases List.mem_append.1 hm with h1 | h1
    · obtain ⟨c, hc, h2, h3, h4⟩ := ih b h1
      refine ⟨c, List.mem_append_left _ hc, h2, ?_, h4⟩
      unfold stepE
      split
      · rw [findE_snoc, if_neg (by have := (hall b h1).2.1; show ¬ off ≤ b.off; omega)]
        exact h3
      · exact h3
    · obtain rfl := List.mem_singleton.1 h1
      unfold stepE
      split
      · rw [findE_snoc, if_pos (Int.le_refl _)]
        exact ⟨_, List.mem_append_right _ (List.mem_singleton.2 rfl), Int.le_refl _, rfl, by show pos - pos < every; omega⟩
      · rename_i hw
        unfold wantE at hw
        cases hla : (ents every bs).getLast? with
        | none => rw [hla] at hw; exact absurd rfl hw
        | some e =>
          rw [hla] at hw
          simp only [decide_eq_true_eq] at hw
          obtain ⟨c, hc, hce⟩ := ents_mem (every := every) h e (List.mem_of_getLast? hla)
          refine ⟨c, List.mem_append_left _ hc, ?_, ?_, ?_⟩
          · have := (hall c hc).2.1
            show c.off ≤ off; omega
          · rw [last_le h (off := off) (by omega) _ rfl e hla, hce]
          · subst hce
            show pos - c.pos < every
            simp only at hw
            omega
theorem find_mono_aux : ∀ (l : List En) (a b : Int), a ≤ b → (∀ e ∈ l, b ≤ e.pos) → (∀ (i : Nat) (x y : En), l[i]? = some x → l[i + 1]? = some y → x.off < y.off ∧ x.pos ≤ y.pos) → ∀ p q : Int, p ≤ q →
    l.foldl (fun a e => if e.off ≤ p then e.pos else a) a ≤ l.foldl (fun a e => if e.off ≤ q then e.pos else a) b
  | [], a, b, hab, _, _, p, q, hpq => hab
  | e :: l, a, b, hab, hb, hr, p, q, hpq => by
    have hr' : ∀ (i : Nat) (x y : En), l[i]? = some x → l[i + 1]? = some y → x.off < y.off ∧ x.pos ≤ y.pos := fun i x y hx hy => hr (i + 1) x y hx hy
    have hge : ∀ x ∈ l, e.pos ≤ x.pos := by
      have key : ∀ (n : Nat) (x : En), l[n]? = some x → e.pos ≤ x.pos := by
        intro n
        induction n with
        | zero => intro x hx; exact (hr 0 e x rfl hx).2
        | succ n ih =>
          intro x hx
          have hlt := (List.getElem?_eq_some_iff.1 hx).1
          have h1 : l[n]? = some (l[n]'(by omega)) := List.getElem?_eq_getElem (by omega)
          have := ih _ h1
          have := (hr' n _ x h1 hx).2
          omega
      intro x hx
      obtain ⟨n, hn⟩ := List.mem_iff_getElem?.1 hx
      exact key n x hn
    have hbe := hb e List.mem_cons_self
    rw [List.foldl_cons, List.foldl_cons]
    by_cases h1 : e.off ≤ p
    · rw [if_pos h1, if_pos (by omega)]
      exact find_mono_aux l _ _ (Int.le_refl _) hge hr' p q hpq
    · rw [if_neg h1]
      by_cases h2 : e.off ≤ q
      · rw [if_pos h2]
        exact find_mono_aux l _ _ (by omega) hge hr' p q hpq
      · rw [if_neg h2]
        exact find_mono_aux l _ _ hab (fun x hx => hb x (List.mem_cons_of_mem _ hx)) hr' p q hpq
theorem find_mono {every base : Int} (he : 1 ≤ every) {bs : List Ba} (h : MadeI base bs) {p q : Int} (hpq : p ≤ q) : findE (ents every bs) p ≤ findE (ents every bs) q := by
  refine find_mono_aux _ 0 0 (Int.le_refl _) (fun e hm => ?_) (fun i x y hx hy => ?_) p q hpq
  · obtain ⟨b, hb, rfl⟩ := ents_mem h e hm
    exact (made_all h b hb).2.2.1
  · have := rise_ents (every := every) h i x y hx hy
    exact ⟨this.1, by omega⟩
end Go.IxMath
