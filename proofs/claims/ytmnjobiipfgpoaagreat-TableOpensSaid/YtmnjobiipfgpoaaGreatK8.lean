/- Parts of a proof, merged: TabMath, TcMem, TcGet, PrMath, SeqAdd, SeqLast, SeqGap, SeqFollows, PrSmall, PrDup. -/
import Derived.Lib.SliceRun
import Derived.WalkKit
import Derived.IntWalk
import Derived.Lib.Hide
import Derived.Outline
import Derived.Laws.StructEq
import Derived.Test.YtmnjobiipfgpoaaGreatK7
import Derived.Test.YtmnjobiipfgpoaaGreatK1
import Derived.Test.YtmnjobiipfgpoaaGreatK3
import Derived.Test.YtmnjobiipfgpoaaGreatK5
import Derived.Test.YtmnjobiipfgpoaaGreatK4
namespace Go.ProdMath
open Go.SeqMath
open Go.BatMath
set_option linter.unusedVariables false

/-- In ascending order. -/
def Asc (l : List Pd) : Prop := l.Pairwise fun a b => a.id < b.id
def lookD (l : List Pd) (k : Int) : Option Pd := l.find? fun p => decide (p.id = k)
/-- Put in its place, or in the place of the one of its number. -/
def insD : List Pd → Pd → List Pd
  | [], x => [x]
  | p :: l, x => if p.id < x.id then p :: insD l x else if p.id = x.id then x :: l else x :: p :: l
theorem look_cons (p : Pd) (l : List Pd) (k : Int) : lookD (p :: l) k = if p.id = k then some p else lookD l k := by
  unfold lookD
  rw [List.find?_cons]
  by_cases h : p.id = k
  · rw [if_pos h, decide_eq_true h]
  · rw [if_neg h, decide_eq_false h]
theorem look_above {l : List Pd} {k : Int} (h : ∀ p ∈ l, k < p.id) : lookD l k = none := by
  unfold lookD
  rw [List.find?_eq_none]
  intro p hp
  have := h p hp
  simp; omega
theorem look_id {l : List Pd} {k : Int} {p : Pd} (h : lookD l k = some p) : p.id = k ∧ p ∈ l := by
  unfold lookD at h
  exact ⟨by simpa using List.find?_some h, List.mem_of_find?_eq_some h⟩
theorem asc_tail {p : Pd} {l : List Pd} (h : Asc (p :: l)) : Asc l := (List.pairwise_cons.1 h).2
theorem asc_head {p : Pd} {l : List Pd} (h : Asc (p :: l)) : ∀ q ∈ l, p.id < q.id := (List.pairwise_cons.1 h).1
/-- What the document's own look-up finds. -/
theorem has_look : ∀ {l : List Pd} (h : Asc l) (k : Int), hasD l k = (lookD l k).isSome ∧ getD l k = (lookD l k).getD Pd.zero
  | [], _, k => ⟨rfl, rfl⟩
  | p :: l, h, k => by
    have ih := has_look (asc_tail h) k
    rw [look_cons]
    by_cases h1 : p.id < k
    · rw [if_neg (by omega)]
      have e1 : hasD (p :: l) k = hasD l k := by
        unfold hasD
        rw [show atD (p :: l) k = atD l k + 1 from by rw [atD, if_pos h1]]
        rfl
      have e2 : getD (p :: l) k = getD l k := by
        unfold getD
        rw [e1, show atD (p :: l) k = atD l k + 1 from by rw [atD, if_pos h1]]
        rfl
      rw [e1, e2]
      exact ih
    · have e0 : atD (p :: l) k = 0 := by rw [atD, if_neg h1]
      by_cases h2 : p.id = k
      · rw [if_pos h2]
        have e1 : hasD (p :: l) k = true := by
          unfold hasD
          rw [e0]
          show decide (p.id = k) = true
          exact decide_eq_true h2
        refine ⟨by rw [e1]; rfl, ?_⟩
        unfold getD
        rw [e1, e0]; rfl
      · rw [if_neg h2]
        have e1 : hasD (p :: l) k = false := by
          unfold hasD
          rw [e0]
          show decide (p.id = k) = false
          exact decide_eq_false h2
        have e3 : lookD l k = none := look_above fun q hq => by have := asc_head h q hq; omega
        rw [e3]
        refine ⟨e1, ?_⟩
        unfold getD
        rw [e1]; rfl
theorem ins_ids : ∀ (l : List Pd) (x : Pd) (q : Pd), q ∈ insD l x → q = x ∨ q ∈ l
  | [], x, q, h => .inl (by simpa [insD] using h)
  | p :: l, x, q, h => by
    unfold insD at h
    split at h
    · rcases List.mem_cons.1 h with h | h
      · exact .inr (by simp [h])
      · rcases ins_ids l x q h with h | h
        · exact .inl h
        · exact .inr (by simp [h])
    · split at h
      · rcases List.mem_cons.1 h with h | h
        · exact .inl h
        · exact .inr (by simp [h])
      · rcases List.mem_cons.1 h with h | h
        · exact .inl h
        · exact .inr h
theorem ins_asc : ∀ {l : List Pd} (x : Pd), Asc l → Asc (insD l x)
  | [], x, _ => List.pairwise_singleton _ _
  | p :: l, x, h => by
    unfold insD
    split
    · rename_i h1
      refine List.pairwise_cons.2 ⟨fun q hq => ?_, ins_asc x (asc_tail h)⟩
      rcases ins_ids l x q hq with e | e
      · rw [e]; exact h1
      · exact asc_head h q e
    · rename_i h1
      split
      · rename_i h2
        exact List.pairwise_cons.2 ⟨fun q hq => by have := asc_head h q hq; omega, asc_tail h⟩
      · rename_i h2
        refine List.pairwise_cons.2 ⟨fun q hq => ?_, h⟩
        rcases List.mem_cons.1 hq with e | e
        · rw [e]; omega
        · have := asc_head h q e; omega
theorem look_ins : ∀ {l : List Pd} (x : Pd) (k : Int), Asc l → lookD (insD l x) k = if x.id = k then some x else lookD l k
  | [], x, k, _ => by show lookD [x] k = _; rw [look_cons]
  | p :: l, x, k, h => by
    unfold insD
    split
    · rename_i h1
      rw [look_cons, look_ins x k (asc_tail h), look_cons]
      by_cases h2 : p.id = k
      · rw [if_pos h2, if_neg (by omega), if_pos h2]
      · rw [if_neg h2, if_neg h2]
    · rename_i h1
      split
      · rename_i h2
        rw [look_cons, look_cons]
        by_cases h3 : x.id = k
        · rw [if_pos h3, if_pos h3]
        · rw [if_neg h3, if_neg h3, if_neg (by omega)]
      · rw [look_cons]
theorem apply_id (p : Pd) (k : Bool) (b : Bat) : (applyD p k b).id = b.prod := by
  unfold applyD
  split <;> rfl
/-- What a batch turns: its producer's state alone. -/
theorem tapply_ins : ∀ {l : List Pd} (h : Asc l) (b : Bat), rightE b = 0 → 0 ≤ b.prod → tapplyD l b = insD l (applyD ((lookD l b.prod).getD Pd.zero) (lookD l b.prod).isSome b) := by
  intro l h b h0 h1
  have hl := has_look h b.prod
  unfold tapplyD
  rw [if_neg (by omega)]
  have key : ∀ (l : List Pd) (x : Pd), x.id = b.prod → Asc l → (if hasD l b.prod = true then l.set (atD l b.prod) x else l.take (atD l b.prod) ++ x :: l.drop (atD l b.prod)) = insD l x := by
    intro l
    induction l with
    | nil => intro x hx _; rfl
    | cons p l ih =>
      intro x hx ha
      have hi := ih x hx (asc_tail ha)
      have hh := has_look ha b.prod
      have hh2 := has_look (asc_tail ha) b.prod
      by_cases h2 : p.id < b.prod
      · rw [show atD (p :: l) b.prod = atD l b.prod + 1 from by rw [atD, if_pos h2]]
        have e1 : hasD (p :: l) b.prod = hasD l b.prod := by rw [hh.1, hh2.1, look_cons, if_neg (by omega)]
        have e2 : insD (p :: l) x = p :: insD l x := by rw [insD, if_pos (show p.id < x.id by omega)]
        rw [e1, e2, ← hi]
        cases hasD l b.prod
        · rfl
        · rfl
      · rw [show atD (p :: l) b.prod = 0 from by rw [atD, if_neg h2]]
        by_cases h3 : p.id = b.prod
        · have e1 : hasD (p :: l) b.prod = true := by rw [hh.1, look_cons, if_pos h3]; rfl
          have e2 : insD (p :: l) x = x :: l := by rw [insD, if_neg (show ¬ p.id < x.id by omega), if_pos (show p.id = x.id by omega)]
          rw [e1, e2]; rfl
        · have e1 : hasD (p :: l) b.prod = false := by
            rw [hh.1, look_cons, if_neg h3, look_above fun q hq => by have := asc_head ha q hq; omega]; rfl
          have e2 : insD (p :: l) x = x :: p :: l := by rw [insD, if_neg (show ¬ p.id < x.id by omega), if_neg (show ¬ p.id = x.id by omega)]
          rw [e1, e2]; rfl
  have k1 := key l (applyD ((lookD l b.prod).getD Pd.zero) (lookD l b.prod).isSome b) (apply_id _ _ _) h
  rw [← k1]
  split
  · rename_i hs
    rw [hl.2]
    rw [hl.1] at hs
    rw [hs]
  · rename_i hs
    rw [hl.1] at hs
    have hn : lookD l b.prod = none := by cases hq : lookD l b.prod <;> simp_all
    rw [hn]; rfl
theorem tapply_no {l : List Pd} {b : Bat} (h : rightE b ≠ 0 ∨ b.prod < 0) : tapplyD l b = l := by unfold tapplyD; rw [if_pos h]
theorem tapply_asc {l : List Pd} (h : Asc l) (b : Bat) : Asc (tapplyD l b) := by
  by_cases h0 : rightE b ≠ 0 ∨ b.prod < 0
  · rw [tapply_no h0]; exact h
  · rw [tapply_ins h b (Classical.byContradiction fun h1 => h0 (.inl h1)) (by omega)]
    exact ins_asc _ h
theorem fold_asc : ∀ {l : List Pd} (bs : List Bat), Asc l → Asc (foldP l bs)
  | l, [], h => h
  | l, b :: bs, h => fold_asc bs (tapply_asc h b)
/-- What is known of one producer behind some batches. -/
noncomputable def stepD (s : Option Pd) (b : Bat) : Option Pd := some (applyD (s.getD Pd.zero) s.isSome b)
theorem look_tapply {l : List Pd} (h : Asc l) (b : Bat) (k : Int) : lookD (tapplyD l b) k = if rightE b = 0 ∧ 0 ≤ b.prod ∧ b.prod = k then stepD (lookD l k) b else lookD l k := by
  by_cases h0 : rightE b ≠ 0 ∨ b.prod < 0
  · rw [tapply_no h0, if_neg (fun h1 => by rcases h0 with h2 | h2; exact h2 h1.1; have := h1.2.1; omega)]
  · have h1 : rightE b = 0 := Classical.byContradiction fun h1 => h0 (.inl h1)
    have h2 : 0 ≤ b.prod := by omega
    rw [tapply_ins h b h1 h2, look_ins _ _ h, apply_id]
    by_cases h3 : b.prod = k
    · rw [if_pos h3, if_pos ⟨h1, h2, h3⟩, h3]; rfl
    · rw [if_neg h3, if_neg (fun h4 => h3 h4.2.2)]
noncomputable def stateD (k : Int) : Option Pd → List Bat → Option Pd
  | s, [] => s
  | s, b :: bs => stateD k (if rightE b = 0 ∧ 0 ≤ b.prod ∧ b.prod = k then stepD s b else s) bs
theorem look_fold (k : Int) : ∀ {l : List Pd} (bs : List Bat), Asc l → lookD (foldP l bs) k = stateD k (lookD l k) bs
  | l, [], h => rfl
  | l, b :: bs, h => by
    show lookD (foldP (tapplyD l b) bs) k = stateD k _ bs
    rw [look_fold k bs (tapply_asc h b), look_tapply h b k]
/-- What one producer does turns no other one. -/
theorem state_some (k : Int) : ∀ (s : Option Pd) (bs : List Bat), stateD k s (bs.filter fun b => decide (b.prod = k)) = stateD k s bs
  | s, [] => rfl
  | s, b :: bs => by
    by_cases h : b.prod = k
    · rw [List.filter_cons_of_pos (by simp [h])]
      exact state_some k _ bs
    · rw [List.filter_cons_of_neg (by simp [h])]
      show stateD k s _ = stateD k (if rightE b = 0 ∧ 0 ≤ b.prod ∧ b.prod = k then stepD s b else s) bs
      rw [if_neg (fun h2 => h h2.2.2)]
      exact state_some k s bs
end Go.ProdMath
namespace Go.Proofs.YtmnjobiipfgpoaaGreat
open Go.RowKit
open Go.SeqMath
open Go.ProdMath
open Go.BatMath hiding AllB getD_lt take_all
set_option linter.unusedVariables false

/-- An entry: the producer's number, and its state. -/
def pmE (m : PM) : Value × Value := (.int .i64 m.p.id, .agg #[.int .i64 m.p.id, .int .i64 m.p.epoch, .slice m.ad m.p.last.length m.cap, .int .i64 m.p.opn])
abbrev TcMap (w : World) (km : Nat) (ms : List PM) : Prop := MapAs Tryz.prog 2 pmE w km ms
theorem keyI : Maps.Keyed Tryz.prog 2 := Maps.int_keyed Tryz.underlying2
theorem tcMapT : Tryz.prog.underlying 70 = some (.map 2 36) := Tryz.underlying70
theorem wf_i64 {n : Int} (h0 : -9223372036854775808 ≤ n) (h1 : n ≤ 9223372036854775807) : (Lit.int .i64 n).wf = true := by
  have e1 : IntKind.i64.min = -9223372036854775808 := rfl
  have e2 : IntKind.i64.max = 9223372036854775807 := rfl
  simp only [Lit.wf, e1, e2, Bool.and_eq_true, decide_eq_true_eq]
  omega
theorem key_int {n : Int} (h0 : -9223372036854775808 ≤ n) (h1 : n ≤ 9223372036854775807) : ∃ l, keyOf Tryz.prog 2 (.int .i64 n) = some l := ⟨_, Maps.keyOf_int_mk Tryz.underlying2 (wf_i64 h0 h1)⟩
/-! lists of them -/
def lookM (ms : List PM) (k : Int) : Option PM := ms.find? fun m => decide (m.p.id = k)
theorem lookM_p : ∀ (ms : List PM) (k : Int), (lookM ms k).map (·.p) = lookD (pds ms) k
  | [], k => rfl
  | m :: ms, k => by
    have ih := lookM_p ms k
    show _ = lookD (m.p :: pds ms) k
    rw [look_cons]
    unfold lookM at ih ⊢
    rw [List.find?_cons]
    by_cases h : m.p.id = k
    · rw [decide_eq_true h, if_pos h]; rfl
    · rw [decide_eq_false h, if_neg h]; exact ih
theorem lookM_some {ms : List PM} {k : Int} {m : PM} (h : lookM ms k = some m) : m ∈ ms ∧ m.p.id = k := ⟨List.mem_of_find?_eq_some h, by simpa using List.find?_some h⟩
theorem lookM_none {ms : List PM} {k : Int} (h : lookM ms k = none) : ∀ m ∈ ms, m.p.id ≠ k := by
  unfold lookM at h
  rw [List.find?_eq_none] at h
  intro m hm e
  exact h m hm (by simp [e])
def insM : List PM → PM → List PM
  | [], x => [x]
  | m :: ms, x => if m.p.id < x.p.id then m :: insM ms x else if m.p.id = x.p.id then x :: ms else x :: m :: ms
theorem insM_pds : ∀ (ms : List PM) (x : PM), pds (insM ms x) = insD (pds ms) x.p
  | [], x => rfl
  | m :: ms, x => by
    have ih := insM_pds ms x
    show pds (insM (m :: ms) x) = insD (m.p :: pds ms) x.p
    unfold insM insD
    split
    · show m.p :: pds (insM ms x) = _
      rw [ih]
    · split <;> rfl
theorem insM_new : ∀ (ms : List PM) (x : PM), (∀ m ∈ ms, m.p.id ≠ x.p.id) → (insM ms x).Perm (x :: ms)
  | [], x, _ => List.Perm.refl _
  | m :: ms, x, h => by
    unfold insM
    split
    · exact ((insM_new ms x fun q hq => h q (by simp [hq])).cons m).trans (List.Perm.swap _ _ _)
    · rw [if_neg (h m (by simp))]
theorem insM_old : ∀ (ms : List PM) (x m0 : PM), Asc (pds ms) → m0 ∈ ms → m0.p.id = x.p.id → ∃ rest, ms.Perm (m0 :: rest) ∧ (insM ms x).Perm (x :: rest)
  | m :: ms, x, m0, ha, hm, e => by
    have h1 := asc_head (p := m.p) (l := pds ms) ha
    unfold insM
    rcases List.mem_cons.1 hm with rfl | hm
    · rw [if_neg (by omega), if_pos e]
      exact ⟨ms, List.Perm.refl _, List.Perm.refl _⟩
    · have h2 := h1 m0.p (List.mem_map.2 ⟨m0, hm, rfl⟩)
      rw [if_pos (by omega)]
      obtain ⟨rest, r1, r2⟩ := insM_old ms x m0 (asc_tail (p := m.p) (l := pds ms) ha) hm e
      exact ⟨m :: rest, (r1.cons m).trans (List.Perm.swap _ _ _), (r2.cons m).trans (List.Perm.swap _ _ _)⟩
theorem perm_lift {α β : Type} (f : α → β) : ∀ (q : List β) (l : List α), (l.map f).Perm q → ∃ l', l.Perm l' ∧ l'.map f = q
  | [], l, h => by
    have := h.length_eq
    simp only [List.length_map, List.length_nil] at this
    obtain rfl := List.eq_nil_of_length_eq_zero this
    exact ⟨[], List.Perm.refl _, rfl⟩
  | b :: q, l, h => by
    obtain ⟨x, hx, e⟩ := List.mem_map.1 (h.mem_iff.2 (List.mem_cons_self (a := b) (l := q)))
    obtain ⟨l1, l2, rfl⟩ := List.append_of_mem hx
    have hs : (l1 ++ x :: l2).Perm (x :: (l1 ++ l2)) := List.perm_middle
    have h2 := (hs.map f).symm.trans h
    rw [List.map_cons, e] at h2
    obtain ⟨l', r1, r2⟩ := perm_lift f q (l1 ++ l2) h2.cons_inv
    exact ⟨x :: l', hs.trans (r1.cons x), by rw [List.map_cons, r2, e]⟩
/-! what a block is -/
def IsMap (w : World) (k : Nat) : Prop := ∃ es c, w.heap[k]? = some (.map es c)
/-- A block that is one slice, of whatever type. -/
def IsSl (w : World) (k : Nat) : Prop := ∃ ad n cap t, w.heap[k]? = some (.cells #[.slice ad n cap] t (0, 0))
theorem cell_map {w : World} {k j : Nat} {x : Option Nat} (h : IsMap w k) : w.cell? ⟨k, j, none⟩ = none := by
  obtain ⟨es, c, h⟩ := h
  simp [World.cell?, h]
theorem MapAs.is {α : Type} {P : Program} {t : TypeId} {f : α → Value × Value} {w : World} {km : Nat} {ps : List α} (h : MapAs P t f w km ps) : IsMap w km := by
  obtain ⟨es, c, hb, _⟩ := h
  exact ⟨es, c, hb⟩
section
variable {α : Type} {K : Kind α} {w w' : World} {ad : Option Addr} {len cap k : Nat} {l : List α}
theorem RowAt.past_map (h : RowAt K w ad len cap l) (hg : w.grownBy w' (some k)) (hk : IsMap w k) : RowAt K w' ad len cap l := by
  refine ⟨h.length, h.fits, h.room, ?_⟩
  rcases h.cells with h0 | ⟨b, off, e, hlt, hc⟩
  · exact .inl h0
  · refine .inr ⟨b, off, e, Nat.lt_of_lt_of_le hlt hg.size, fun i x hi j u hj => hg.cell (hc i x hi j u hj) (fun e2 => ?_)⟩
    have h3 := hc i x hi j u hj
    have e3 : b = k := Option.some.inj e2
    rw [e3, cell_map (x := none) hk] at h3
    cases h3
theorem RowAt.past_box (hint : ∀ x, ∃ n, (K.enc x)[0]? = some (.int .i64 n)) (h : RowAt K w ad len cap l) (hg : w.grownBy w' (some k)) (hk : IsSl w k) : RowAt K w' ad len cap l := by
  refine ⟨h.length, h.fits, h.room, ?_⟩
  rcases h.cells with h0 | ⟨b, off, e, hlt, hc⟩
  · exact .inl h0
  · refine .inr ⟨b, off, e, Nat.lt_of_lt_of_le hlt hg.size, fun i x hi j u hj => hg.cell (hc i x hi j u hj) (fun e2 => ?_)⟩
    have e3 : b = k := Option.some.inj e2
    obtain ⟨n, hn⟩ := hint x
    have h3 := hc i x hi 0 _ hn
    obtain ⟨a2, n2, c2, t, hb⟩ := hk
    rw [e3, cell_of_row _ _ _ _ _ _ hb] at h3
    by_cases h4 : off + (i * K.size + 0) = 0
    · rw [h4] at h3; cases h3
    · rw [List.getElem?_toArray, List.getElem?_eq_none (by simp; omega)] at h3; cases h3
end
theorem LastsAt.past_map {w w' : World} {k : Nat} {ms : List PM} (h : LastsAt w ms) (hg : w.grownBy w' (some k)) (hk : IsMap w k) : LastsAt w' ms := fun m hm => (h m hm).past_map hg hk
theorem LastsAt.past_box {w w' : World} {k : Nat} {ms : List PM} (h : LastsAt w ms) (hg : w.grownBy w' (some k)) (hk : IsSl w k) : LastsAt w' ms := fun m hm => (h m hm).past_box (fun x => ⟨x.f, rfl⟩) hg hk
theorem TabBox.is {w : World} {k len cap : Nat} {ad : Option Addr} (h : TabBox w k (.slice ad len cap)) : IsSl w k := ⟨ad, len, cap, _, h⟩
/-- The document's own table stays where a map turns. -/
theorem TabOk.past_map {w w' : World} {kt k : Nat} {ad : Option Addr} {len cap : Nat} {ms : List PM} (h : TabOk w kt ad len cap ms) (hg : w.grownBy w' (some k)) (hk : IsMap w k) : TabOk w' kt ad len cap ms :=
  ⟨⟨h.tab.box.grown hg (fun e => by
      obtain ⟨es, c, hm⟩ := hk
      have hb := h.tab.box
      unfold TabBox at hb
      rw [← Option.some.inj e, hm] at hb
      cases hb), ⟨h.tab.pds.row.past_map hg hk, h.tab.pds.ins.past_map hg hk⟩⟩, fun a ha => ⟨(h.row a ha).1, Nat.lt_of_lt_of_le (h.row a ha).2 hg.size⟩, fun m hm a ha => ⟨(h.ins m hm a ha).1, Nat.lt_of_lt_of_le (h.ins m hm a ha).2 hg.size⟩⟩
/-! the code's table -/
def TcBox (w : World) (kt km : Nat) : Prop := w.heap[kt]? = some (.cells #[.map (some km)] 72 (0, 0))
section
variable {w w' : World} {kt km : Nat}
theorem TcBox.c0 (h : TcBox w kt km) : w.cell? ⟨kt, 0, none⟩ = some (.map (some km)) := by rw [cell_of_row _ _ 0 _ _ _ h]; rfl
theorem TcBox.free (h : TcBox w kt km) (j : Nat) : w.frozen? ⟨kt, j, none⟩ = false := frozen_of_row w kt j _ _ h
theorem TcBox.lt (h : TcBox w kt km) : kt < w.heap.size := lt_of_block h
theorem TcBox.same (h : TcBox w kt km) (he : w'.heap[kt]? = w.heap[kt]?) : TcBox w' kt km := he.trans h
theorem TcBox.on (h : TcBox w kt km) (hb : Below w.heap.size w w') : TcBox w' kt km := h.same (hb.block kt h.lt)
end
structure TcOk (w : World) (kt km : Nat) (ms : List PM) : Prop where
  box : TcBox w kt km
  map : TcMap w km ms
  ins : LastsAt w ms
section
variable {w w' : World} {kt km k : Nat} {ms : List PM}
theorem TcOk.keep (h : TcOk w kt km ms) (hb : Below w.heap.size w w') : TcOk w' kt km ms := ⟨h.box.on hb, h.map.on hb, h.ins.keep hb⟩
theorem TcBox.past_map (h : TcBox w kt km) (hg : w.grownBy w' (some k)) (hk : IsMap w k) : TcBox w' kt km := h.same (hg.block kt h.lt fun e => by
  obtain ⟨es, c, hm⟩ := hk
  unfold TcBox at h
  rw [Option.some.inj e, hm] at h
  cases h)
/-- Another map turns. -/
theorem TcOk.past_map (h : TcOk w kt km ms) (hg : w.grownBy w' (some k)) (hk : IsMap w k) (hne : k ≠ km) : TcOk w' kt km ms :=
  ⟨h.box.past_map hg hk, h.map.grown hg (fun e => hne (Option.some.inj e)), h.ins.past_map hg hk⟩
/-- A box that is a slice turns. -/
theorem TcOk.past_box (h : TcOk w kt km ms) (hg : w.grownBy w' (some k)) (hk : IsSl w k) : TcOk w' kt km ms :=
  ⟨h.box.same (hg.block kt h.box.lt fun e => by
    obtain ⟨ad, n, c, t, hm⟩ := hk
    have hb := h.box
    unfold TcBox at hb
    rw [Option.some.inj e, hm] at hb
    cases hb), h.map.grown hg (fun e => by
    obtain ⟨ad, n, c, t, hm⟩ := hk
    obtain ⟨es, c, hb⟩ := h.map.is
    rw [← Option.some.inj e, hm] at hb
    cases hb), h.ins.past_box hg hk⟩
end
def GivesNewT (w : World) (e : Ending) (w' : World) : Prop := ∃ kt km, e = .returned (.pointer (some ⟨kt, 0, none⟩)) ∧ TcOk w' kt km [] ∧ Below w.heap.size w w' ∧ w.heap.size ≤ kt ∧ w.heap.size ≤ km
set_option maxRecDepth 100000 in
theorem tcNew_any (w : World) : Calls Tryz.prog 17 #[] w (GivesNewT w) := by
  have hmm := @run_makeMap Tryz.prog
  go_enter Tryz.func17, Tryz.ntmps17
  go_wp2
  go_ret
  have hb : Below w.heap.size w ((w.alloc (.map #[] 0)).alloc (.cells #[.map (some w.heap.size)] 72)) := ((Below.refl _ w).alloc (Nat.le_refl _) _).alloc (by simp) _
  refine ⟨_, _, rfl, ⟨?_, ?_, fun m hm => by cases hm⟩, hb, by simp, Nat.le_refl _⟩
  · have h1 := heap_alloc_new (w.alloc (.map #[] 0)) (.cells #[.map (some w.heap.size)] 72)
    show (_ : World).heap[_]? = _
    simpa using h1
  · exact (mapAs_new Tryz.prog 2 pmE w).on ((Below.refl _ _).alloc (by simp) _)
/-- slices.Clone of what is known of latest batches. -/
def ClonedT (w : World) (l : List Tr) (e : Ending) (w' : World) : Prop := ∃ ad cap, e = .returned (.slice ad l.length cap) ∧ OwnRow trK w' w.heap.size (.slice ad l.length cap) l ∧ Below w.heap.size w w'
set_option maxRecDepth 100000 in
theorem trClone_any (w : World) (ad : Option Addr) (len cap : Nat) (l : List Tr) (hr : RowAt trK w ad len cap l) (hl : len ≤ 1000000) : Calls Tryz.prog 47 #[.slice ad len cap] w (ClonedT w l) := by
  have hroom := hr.room
  have hlen := hr.length
  have HR := Lib.hid hr
  clear hr
  cases ad with
  | none =>
    have hc := hroom rfl
    have hfits := HR.out.fits
    have h0 : len = 0 := by omega
    subst hc
    subst h0
    obtain rfl : l = [] := List.eq_nil_of_length_eq_zero hlen
    have hnil : ∀ W, (binOp .eql 34 (.slice none 0 0) (.slice none 0 0)).run Tryz.prog W = .ok (.bool true) W := fun W => Lib.run_eql_slice_nil (P := Tryz.prog) W 34 74 none 0 0 0 0 Tryz.underlying34
    go_enter Tryz.func47, Tryz.ntmps47
    go_wp2
    go_ret
    exact ⟨none, 0, rfl, ownRow_nil _ _ _, Below.refl _ _⟩
  | some a =>
    have hnil : ∀ W, (binOp .eql 34 (.slice (some a) len cap) (.slice none 0 0)).run Tryz.prog W = .ok (.bool false) W := fun W => Lib.run_eql_slice_nil (P := Tryz.prog) W 34 74 (some a) len cap 0 0 Tryz.underlying34
    have HL := Lib.hid hlen
    clear hroom hlen
    go_enter Tryz.func47, Tryz.ntmps47
    go_wp2_with (at_builtin; refine list_row (by rfl) trK_ok (.tmp 5) (.tmp 6) rfl w.heap.size [] l _ rfl (ownRow_lit trK_ok w w.heap.size [] (Nat.le_refl _) (by simp) _ rfl 0 rfl) (by simp) (some a) len cap rfl (HR.out.keep ((Below.refl _ w).alloc (Nat.le_refl _) _)) (by rw [List.length_nil]; omega) ?_)
    rintro v' w' hap
    have HAP := Lib.hid hap
    clear hap
    go_wp2
    go_ret
    have h1 := HAP.out
    obtain ⟨ad', cap', rfl, _, _⟩ := OwnRow.row trK_ok h1.1 rfl
    refine ⟨ad', cap', rfl, h1.1, ?_⟩
    exact appended_below h1 (ownRow_lit trK_ok w w.heap.size [] (Nat.le_refl _) (by simp) _ rfl 0 rfl) ((Below.refl _ w).alloc (Nat.le_refl _) _) (Nat.le_refl _) (by simp)
theorem tcOpen_any (w : World) (id ep op : Int) (ad : Option Addr) (n cap : Nat) (r : Bool) (hr : decide (0 ≤ op) = r) :
    Calls Tryz.prog 34 #[.agg #[.int .i64 id, .int .i64 ep, .slice ad n cap, .int .i64 op]] w fun e w' => e = .returned (.bool r) ∧ Below w.heap.size w w' := by
  have HR := Lib.hid hr
  clear hr
  obtain ⟨W0, hW0⟩ : ∃ W0, W0 = (w.alloc (.cells #[.int .i64 id, .int .i64 ep, .slice ad n cap, .int .i64 op] 36)) := ⟨_, rfl⟩
  have HB0 : Hid (Below w.heap.size w W0) := by show Below _ _ _; rw [hW0]; exact (Below.refl _ _).alloc (Nat.le_refl _) _
  have HP0 : Hid (PBox W0 w.heap.size (id) (ep) (.slice ad n cap) (op)) := by
    show PBox _ w.heap.size (id) (ep) (.slice ad n cap) (op)
    rw [hW0]
    have h1 := pbox_new w (id) (ep) (.slice ad n cap) (op)
    simpa using h1
  have HW0 := Lib.hid hW0
  clear hW0
  obtain ⟨B1, hB1⟩ : ∃ B, B = w.heap.size := ⟨_, rfl⟩
  rw [← hB1] at HP0
  go_enter Tryz.func34, Tryz.ntmps34
  go_upto_region 1 with fail
  rw [← HW0.out, ← hB1]
  clear HW0 hB1
  have q3 := HP0.out.c3
  go_wp2
  go_ret
  exact ⟨by rw [← HR.out]; rfl, HB0.out⟩
theorem resultsCopied {tmps : Array Value} {B : Nat} {W : World} {b0 b1 b3 : Int} {v : Value} (h : PBox W B b0 b1 v b3) (ht : tmps.getD 2 undef = .pointer (some ⟨B, 0, none⟩)) :
    (results Tryz.f30 tmps).run Tryz.prog W = .ok (.agg #[.int .i64 b0, .int .i64 b1, v, .int .i64 b3]) W := by
  rw [results_cell_one (p := 2) (ty := 36) Tryz.results30, ht]
  have hl := run_loadVar_row (P := Tryz.prog) W B 36 36 _ (0, 0) _ h Tryz.underlying36 rfl (by kernel_rfl)
  simp only [asAddr, Sem.run_pure, Result.andThen, hl]
/-- A producer in new memory. -/
def GivesP (w : World) (p : Pd) (e : Ending) (w' : World) : Prop :=
  ∃ ad cap, e = .returned (.agg #[.int .i64 p.id, .int .i64 p.epoch, .slice ad p.last.length cap, .int .i64 p.opn]) ∧ OwnRow trK w' (w.heap.size + 2) (.slice ad p.last.length cap) p.last ∧ Below w.heap.size w w'
set_option maxRecDepth 100000 in
set_option maxHeartbeats 4000000 in
theorem tcCopied_any (w : World) (id ep op : Int) (last : List Tr) (ad : Option Addr) (n cap : Nat) (hl : RowAt trK w ad n cap last) (hn : n ≤ 1000000) :
    Calls Tryz.prog 30 #[.agg #[.int .i64 id, .int .i64 ep, .slice ad n cap, .int .i64 op]] w (GivesP w ⟨id, ep, last, op⟩) := by
  obtain ⟨W0, hW0⟩ : ∃ W0, W0 = ((w.alloc (.cells #[.int .i64 id, .int .i64 ep, .slice ad n cap, .int .i64 op] 36)).alloc (.cells #[.int .i64 0, .int .i64 0, .slice none 0 0, .int .i64 0] 36)) := ⟨_, rfl⟩
  have HB0 : Hid (Below w.heap.size w W0) := by show Below _ _ _; rw [hW0]; exact ((Below.refl _ _).alloc (Nat.le_refl _) _).alloc (by simp) _
  have HP0 : Hid (PBox W0 w.heap.size id ep (.slice ad n cap) op) := by
    show PBox _ _ _ _ _ _
    rw [hW0]
    exact (pbox_new w id ep (.slice ad n cap) op).on ((Below.refl _ _).alloc (by simp) _)
  have HQ0 : Hid (PBox W0 (w.heap.size + 1) 0 0 (.slice none 0 0) 0) := by
    show PBox _ _ _ _ _ _
    rw [hW0]
    have h1 := pbox_new (w.alloc (.cells #[.int .i64 id, .int .i64 ep, .slice ad n cap, .int .i64 op] 36)) 0 0 (.slice none 0 0) 0
    simpa using h1
  have HS0 : Hid (W0.heap.size = w.heap.size + 2) := by show _ = _; rw [hW0]; simp
  have HL0 := Lib.hid (hl.keep HB0.out)
  have hln := hl.length
  have HLN := Lib.hid hln
  clear hl hln
  have HW0 := Lib.hid hW0
  clear hW0
  obtain ⟨B1, hB1⟩ : ∃ B, B = w.heap.size := ⟨_, rfl⟩
  obtain ⟨B2, hB2⟩ : ∃ B, B = w.heap.size + 1 := ⟨_, rfl⟩
  have HBN : Hid (B1 = w.heap.size ∧ B2 = w.heap.size + 1) := ⟨hB1, hB2⟩
  rw [← hB1] at HP0
  rw [← hB2] at HQ0
  go_enter Tryz.func30, Tryz.ntmps30
  go_upto_region 1 with fail
  rw [← HW0.out, ← hB2, ← hB1]
  clear HW0 hB1 hB2
  have q2 := HP0.out.c2
  have g2 := HP0.out.free 2
  go_wp2_with fail
  refine (trClone_any W0 ad n cap last HL0.out hn).mono ?_
  rintro e w1 ⟨ad1, cap1, rfl, ho, hb⟩
  have HO := Lib.hid ho
  have HB1 := Lib.hid (HB0.out.trans (hb.mono HB0.out.size))
  have HP1 := Lib.hid (HP0.out.on hb)
  have HQ1 := Lib.hid (HQ0.out.on hb)
  clear ho hb q2 g2 HP0 HQ0
  have q2 := HP1.out.c2
  have g2 := HP1.out.free 2
  go_upto_region 2 with fail
  obtain ⟨w2, hw2⟩ : ∃ z, z = w1.setCell ⟨B1, 2, none⟩ (.slice ad1 last.length cap1) := ⟨_, rfl⟩
  rw [← hw2]
  have hne : B2 ≠ B1 := by have := HBN.out; omega
  have HP2 : Hid (PBox w2 B1 id ep (.slice ad1 last.length cap1) op) := by show PBox _ _ _ _ _ _; rw [hw2]; exact HP1.out.s2 _
  have HQ2 : Hid (PBox w2 B2 0 0 (.slice none 0 0) 0) := by show PBox _ _ _ _ _ _; rw [hw2]; exact HQ1.out.off hne.symm _
  have HB2 : Hid (Below w.heap.size w w2) := by show Below _ _ _; rw [hw2]; exact HB1.out.setCell (show w.heap.size ≤ B1 by have := HBN.out; omega) _
  have HO2 : Hid (OwnRow trK w2 (w.heap.size + 2) (.slice ad1 last.length cap1) last) := by
    show OwnRow _ _ _ _ _
    have h1 := HO.out
    rw [HS0.out] at h1
    rw [hw2]
    exact h1.grown (grow_set (grow_refl w1 _) 2 _) (fun k hk e => by have := (h1.lt k hk).1; have := HBN.out; cases e; omega)
  clear hw2 HP1 HQ1 HB1 HO q2 g2
  have q0 := HP2.out.c0
  have q1 := HP2.out.c1
  have q2 := HP2.out.c2
  have q3 := HP2.out.c3
  have r0 := HQ2.out.c0
  have r1 := HQ2.out.c1
  have r2 := HQ2.out.c2
  have r3 := HQ2.out.c3
  have f0 := HQ2.out.free 0
  have f1 := HQ2.out.free 1
  have f2 := HQ2.out.free 2
  have f3 := HQ2.out.free 3
  go_wp2
  have hk : ∀ W (j : Nat) (u : Value), OwnRow trK W (w.heap.size + 2) (.slice ad1 last.length cap1) last → OwnRow trK (W.setCell ⟨B2, j, none⟩ u) (w.heap.size + 2) (.slice ad1 last.length cap1) last := fun W j u h =>
    h.grown (grow_set (grow_refl W _) j u) (fun k hk e => by have := (h.lt k hk).1; have := HBN.out; cases e; omega)
  have hB2 : w.heap.size ≤ B2 := by have := HBN.out; omega
  have hfin : GivesP w ⟨id, ep, last, op⟩ (.returned (.agg #[.int .i64 id, .int .i64 ep, .slice ad1 last.length cap1, .int .i64 op])) ((((w2.setCell ⟨B2, 0, none⟩ (.int .i64 id)).setCell ⟨B2, 1, none⟩ (.int .i64 ep)).setCell ⟨B2, 2, none⟩ (.slice ad1 last.length cap1)).setCell ⟨B2, 3, none⟩ (.int .i64 op)) :=
    ⟨ad1, cap1, rfl, hk _ _ _ (hk _ _ _ (hk _ _ _ (hk _ _ _ HO2.out))), (((HB2.out.setCell hB2 _).setCell hB2 _).setCell hB2 _).setCell hB2 _⟩
  exact bodyPost_ret (v := .agg #[.int .i64 id, .int .i64 ep, .slice ad1 last.length cap1, .int .i64 op]) (resultsCopied ((((HQ2.out.s0 id).s1 ep).s2 (.slice ad1 last.length cap1)).s3 op) rfl) rfl hfin
end Go.Proofs.YtmnjobiipfgpoaaGreat
namespace Go.Proofs.YtmnjobiipfgpoaaGreat
open Go.RowKit
open Go.SeqMath
open Go.ProdMath
open Go.BatMath hiding AllB getD_lt take_all
set_option linter.unusedVariables false

/-- What a look-up finds: the state of a producer, or none. -/
theorem tc_look (ms : List PM) (id : Int) (h0 : -9223372036854775808 ≤ id) (h1 : id ≤ 9223372036854775807) (hfew : fewP (pds ms)) :
    ∃ (p : Pd) (kn : Bool) (ad : Option Addr) (n cap : Nat), (lookD (pds ms) id).getD Pd.zero = p ∧ (lookD (pds ms) id).isSome = kn ∧ n ≤ 5 ∧
      (∀ W km, TcMap W km ms → (Instr.lookup 70 (.map (some km)) (.int .i64 id) true).run Tryz.prog W = .ok (.tuple #[.agg #[.int .i64 p.id, .int .i64 p.epoch, .slice ad n cap, .int .i64 p.opn], .bool kn]) W) ∧
      (∀ W km, TcMap W km ms → (Instr.lookup 70 (.map (some km)) (.int .i64 id) false).run Tryz.prog W = .ok (.agg #[.int .i64 p.id, .int .i64 p.epoch, .slice ad n cap, .int .i64 p.opn]) W) ∧
      ∀ W, LastsAt W ms → RowAt trK W ad n cap p.last := by
  have hl := lookM_p ms id
  cases hm : lookM ms id with
  | none =>
    rw [hm] at hl
    refine ⟨Pd.zero, false, none, 0, 0, by rw [← hl]; rfl, by rw [← hl]; rfl, by omega, fun W km hW => ?_, fun W km hW => ?_, fun W hW => rowAt_nil W⟩
    all_goals have hz : (zeroValue 36).run Tryz.prog W = .ok (.agg #[.int .i64 0, .int .i64 0, .slice none 0 0, .int .i64 0]) W := Tryz.zeroValue36 W
    · exact mapAs_none tcMapT keyI hW _ (key_int h0 h1) (fun q hq e => lookM_none hm q hq (by simpa [pmE] using e)) _ hz true
    · exact mapAs_none tcMapT keyI hW _ (key_int h0 h1) (fun q hq e => lookM_none hm q hq (by simpa [pmE] using e)) _ hz false
  | some m =>
    rw [hm] at hl
    obtain ⟨hmem, hid⟩ := lookM_some hm
    refine ⟨m.p, true, m.ad, m.p.last.length, m.cap, by rw [← hl]; rfl, by rw [← hl]; rfl, hfew m.p (List.mem_map.2 ⟨m, hmem, rfl⟩), fun W km hW => ?_, fun W km hW => ?_, fun W hW => hW m hmem⟩
    · have h2 := mapAs_some tcMapT keyI hW m hmem true
      rw [← hid]
      exact h2
    · have h2 := mapAs_some tcMapT keyI hW m hmem false
      rw [← hid]
      exact h2
theorem resultsTcGet {tmps : Array Value} {B : Nat} {W : World} {b0 b1 b3 : Int} {v x : Value} (h : PBox W B b0 b1 v b3) (ht : tmps.getD 4 undef = .pointer (some ⟨B, 0, none⟩)) (hx : tmps.getD 5 undef = x) :
    (results Tryz.f12 tmps).run Tryz.prog W = .ok (.tuple #[.agg #[.int .i64 b0, .int .i64 b1, v, .int .i64 b3], x]) W := by
  rw [results_cell_tmp (p := 4) (u := 5) (ty := 36) Tryz.results12, ht]
  have hl := run_loadVar_row (P := Tryz.prog) W B 36 36 _ (0, 0) _ h Tryz.underlying36 rfl (by kernel_rfl)
  simp only [asAddr, Sem.run_pure, Result.andThen, hl, hx]
theorem gives_tget2 {w W : World} {b : Bool} {b0 b1 b3 : Int} {ad : Option Addr} {n cap : Nat} {u0 u1 u2 u3 : Value} {l : List Tr} (hb : Below w.heap.size w W) (hr : RowAt trK W ad n cap l) (hne : ∀ a, ad = some a → a.block ≠ w.heap.size) :
    GivesTGet w ⟨b0, b1, l, b3⟩ b (.returned (.tuple #[.agg #[.int .i64 b0, .int .i64 b1, .slice ad n cap, .int .i64 b3], .bool b])) ((((W.setCell ⟨w.heap.size, 0, none⟩ u0).setCell ⟨w.heap.size, 1, none⟩ u1).setCell ⟨w.heap.size, 2, none⟩ u2).setCell ⟨w.heap.size, 3, none⟩ u3) :=
  ⟨ad, n, cap, rfl, (((hr.off hne _ _).off hne _ _).off hne _ _).off hne _ _, (((hb.setCell (Nat.le_refl _) _).setCell (Nat.le_refl _) _).setCell (Nat.le_refl _) _).setCell (Nat.le_refl _) _⟩
set_option maxRecDepth 100000 in
set_option maxHeartbeats 4000000 in
theorem tcGet_any (w : World) (kt km : Nat) (ms : List PM) (h : TcOk w kt km ms) (hfew : fewP (pds ms)) (id : Int) (h0 : -9223372036854775808 ≤ id) (h1 : id ≤ 9223372036854775807) :
    Calls Tryz.prog 12 #[.pointer (some ⟨kt, 0, none⟩), .int .i64 id] w (GivesTGet w ((lookD (pds ms) id).getD Pd.zero) (lookD (pds ms) id).isSome) := by
  obtain ⟨p, kn, ad, n, cap, hp, hk, hn, hlk, _, hrow⟩ := tc_look ms id h0 h1 hfew
  rw [hp, hk]
  clear hp hk
  obtain ⟨W0, hW0⟩ : ∃ W0, W0 = w.alloc (.cells #[.int .i64 0, .int .i64 0, .slice none 0 0, .int .i64 0] 36) := ⟨_, rfl⟩
  have HB0 : Hid (Below w.heap.size w W0) := by show Below _ _ _; rw [hW0]; exact (Below.refl _ _).alloc (Nat.le_refl _) _
  have HR0 : Hid (PBox W0 w.heap.size 0 0 (.slice none 0 0) 0) := by show PBox _ _ _ _ _ _; rw [hW0]; exact pbox_new w _ _ _ _
  have HT0 := Lib.hid (h.keep HB0.out)
  have HROW0 := Lib.hid (hrow W0 HT0.out.ins)
  have HLK := Lib.hid (hlk W0 km HT0.out.map)
  clear hlk hrow h
  have HW0 := Lib.hid hW0
  clear hW0
  obtain ⟨pid, pep, pl, po⟩ := p
  simp only at HLK HROW0
  go_enter Tryz.func12, Tryz.ntmps12
  go_upto_region 1 with fail
  obtain ⟨B0, hB0⟩ : ∃ B, B = w.heap.size := ⟨_, rfl⟩
  rw [← HW0.out, ← hB0]
  rw [← hB0] at HR0
  have HBE := Lib.hid hB0
  clear HW0 hB0
  have hlk := HLK.out
  have t0 := HT0.out.box.c0
  go_upto_region 2 with fail
  obtain ⟨W1, hW1⟩ : ∃ z, z = W0.alloc (.cells #[.int .i64 pid, .int .i64 pep, .slice ad n cap, .int .i64 po] 36) := ⟨_, rfl⟩
  obtain ⟨B1, hB1⟩ : ∃ B, B = W0.heap.size := ⟨_, rfl⟩
  have hb : Below W0.heap.size W0 W1 := by rw [hW1]; exact (Below.refl _ _).alloc (Nat.le_refl _) _
  have HP1 : Hid (PBox W1 B1 pid pep (.slice ad n cap) po) := by show PBox _ _ _ _ _ _; rw [hW1, hB1]; exact pbox_new W0 _ _ _ _
  have HR1 := Lib.hid (HR0.out.on hb)
  have HB1 := Lib.hid (HB0.out.trans (hb.mono HB0.out.size))
  have HROW1 := Lib.hid (HROW0.out.keep hb)
  rw [← hW1, ← hB1]
  clear hW1 hB1 hb hlk t0 HLK HT0 HR0 HB0 HROW0
  have q0 := HP1.out.c0
  have q1 := HP1.out.c1
  have q2 := HP1.out.c2
  have q3 := HP1.out.c3
  go_wp2_with fail
  refine (tcCopied_any W1 pid pep po pl ad n cap HROW1.out (by omega)).mono ?_
  rintro e w2 ⟨ad2, cap2, rfl, ho, hb⟩
  simp only at ho
  obtain ⟨ad3, cap3, e3, hrow2, hown2⟩ := OwnRow.row trK_ok ho rfl
  have HROW2 := Lib.hid hrow2
  have HR2 := Lib.hid (HR1.out.on hb)
  have HB2 := Lib.hid (HB1.out.trans (hb.mono HB1.out.size))
  injection e3 with e31 e32 e33
  subst e31 e33
  have HNE : Hid (∀ a, ad2 = some a → a.block ≠ w.heap.size) := fun a ha => by
    have h1 := (hown2 a ha).1
    have h2 := HR1.out.lt
    have h3 := HBE.out
    omega
  clear hown2 hb ho hrow2 e32 HR1 HB1 HP1 HROW1 q0 q1 q2 q3
  have r0 := HR2.out.c0
  have r1 := HR2.out.c1
  have r2 := HR2.out.c2
  have r3 := HR2.out.c3
  have f0 := HR2.out.free 0
  have f1 := HR2.out.free 1
  have f2 := HR2.out.free 2
  have f3 := HR2.out.free 3
  obtain ⟨L, hL⟩ : ∃ L, L = pl.length := ⟨_, rfl⟩
  rw [← hL] at HROW2
  simp only
  rw [← hL]
  have HL := Lib.hid hL
  clear hL
  go_wp2
  have hBE := HBE.out
  subst hBE
  exact bodyPost_ret (v := .tuple #[.agg #[.int .i64 pid, .int .i64 pep, .slice ad2 L cap2, .int .i64 po], .bool kn]) (resultsTcGet ((((HR2.out.s0 pid).s1 pep).s2 (.slice ad2 L cap2)).s3 po) rfl rfl) rfl (gives_tget2 (l := pl) HB2.out HROW2.out HNE.out)
end Go.Proofs.YtmnjobiipfgpoaaGreat
namespace Go.Proofs.YtmnjobiipfgpoaaGreat
open Go.RowKit
open Go.SeqMath
set_option linter.unusedVariables false

theorem seq_wrap (n : Int) (w : World) (v : Int) (h0 : -2147483648 ≤ n) (h1 : n ≤ 4294967295) (hv : n % 2147483648 = v) :
    Calls Tryz.prog 115 #[.int .i64 n] w fun e w' => e = .returned (.int .i64 v) ∧ w = w' := by
  have HV := Lib.hid hv
  clear hv
  go_enter Tryz.func115, Tryz.ntmps115
  go_wp2
  go_ret
  exact ⟨seq_ret (by have := HV.out; omega), rfl⟩
set_option maxHeartbeats 400000 in
theorem seq_add (n k : Int) (w : World) (v : Int) (k0 : -9223372036854775808 ≤ k) (k1 : k ≤ 9223372036854775807) (hv : addI n k = v) :
    Calls Tryz.prog 106 #[.int .i64 n, .int .i64 k] w fun e w' => e = .returned (.int .i64 v) ∧ w = w' := by
  rcases hr : rightB n with _ | _
  · have HV : Hid (v = -1) := by show _ = _; rw [← hv, add_no hr]
    have HR := Lib.hid hr
    clear hv hr
    go_enter Tryz.func106, Tryz.ntmps106
    go_wp2_with (go_at_call 77; refine (seq_right n _ false HR.out).mono ?_; rintro e w' ⟨rfl, rfl⟩)
    go_ret
    exact ⟨seq_ret HV.out.symm, rfl⟩
  · obtain ⟨n0, n1⟩ := of_right hr
    have HV : Hid ((n + k) % 2147483648 = v) := by show _ = _; rw [← hv, add_yes n0 n1]
    have HR := Lib.hid hr
    clear hv hr
    by_cases hk : 0 ≤ k
    · go_enter Tryz.func106, Tryz.ntmps106
      go_wp2_with (first | (go_at_call 77; refine (seq_right n _ true HR.out).mono ?_; rintro e w' ⟨rfl, rfl⟩) | (go_at_call 115; refine (seq_wrap _ _ v (by omega) (by omega) (by have := HV.out; omega)).mono ?_; rintro e w' ⟨rfl, rfl⟩))
      go_ret
      exact ⟨rfl, rfl⟩
    · have hk' : k < 0 := by omega
      obtain ⟨t, ht⟩ : ∃ t, t = k.tmod 2147483648 := ⟨_, rfl⟩
      have ht2 : t = -((-k) % 2147483648) := by
        rw [ht, ← Int.tmod_eq_emod_of_nonneg (by omega : 0 ≤ -k), Int.neg_tmod, Int.neg_neg]
      have HT : Hid (k.tmod 2147483648 = t) := ht.symm
      have HT2 := Lib.hid ht2
      have t0 : -2147483648 < t := by omega
      have t1 : t ≤ 0 := by omega
      have htt := HT.out
      clear ht ht2
      go_enter Tryz.func106, Tryz.ntmps106
      go_wp2_with (first | (go_at_call 77; refine (seq_right n _ true HR.out).mono ?_; rintro e w' ⟨rfl, rfl⟩) | (go_at_call 115; refine (seq_wrap _ _ v (by omega) (by omega) (by have := HV.out; have := HT2.out; omega)).mono ?_; rintro e w' ⟨rfl, rfl⟩))
      go_ret
      exact ⟨rfl, rfl⟩
end Go.Proofs.YtmnjobiipfgpoaaGreat
namespace Go.Proofs.YtmnjobiipfgpoaaGreat
open Go.RowKit
open Go.SeqMath
set_option linter.unusedVariables false

theorem seq_last (n c : Int) (w : World) (v : Int) (c0 : -9223372036854775808 ≤ c) (c1 : c ≤ 9223372036854775807) (hv : lastI n c = v) :
    Calls Tryz.prog 88 #[.int .i64 n, .int .i64 c] w fun e w' => e = .returned (.int .i64 v) ∧ w = w' := by
  by_cases h0 : c < 1
  · have HV : Hid (v = -1) := by show _ = _; rw [← hv, last_no (.inl h0)]
    clear hv
    go_enter Tryz.func88, Tryz.ntmps88
    go_wp2
    go_ret
    exact ⟨seq_ret HV.out.symm, rfl⟩
  · have h0' : 1 ≤ c := by omega
    by_cases h1 : 16 < c
    · have HV : Hid (v = -1) := by show _ = _; rw [← hv, last_no (.inr h1)]
      clear hv
      go_enter Tryz.func88, Tryz.ntmps88
      go_wp2
      go_ret
      exact ⟨seq_ret HV.out.symm, rfl⟩
    · have h1' : c ≤ 16 := by omega
      have HV : Hid (addI n (c - 1) = v) := by show _ = _; rw [← hv, last_yes h0' h1']
      clear hv
      go_enter Tryz.func88, Tryz.ntmps88
      go_wp2_with (go_at_call 106; refine (seq_add n _ _ v (by omega) (by omega) HV.out).mono ?_; rintro e w' ⟨rfl, rfl⟩)
      go_ret
      exact ⟨rfl, rfl⟩
end Go.Proofs.YtmnjobiipfgpoaaGreat
namespace Go.Proofs.YtmnjobiipfgpoaaGreat
open Go.RowKit
open Go.SeqMath
set_option linter.unusedVariables false

set_option maxHeartbeats 400000 in
theorem seq_follows (l f : Int) (w : World) (r : Bool) (hr : followsB l f = r) :
    Calls Tryz.prog 103 #[.int .i64 l, .int .i64 f] w fun e w' => e = .returned (.bool r) ∧ w = w' := by
  by_cases hl : l = -1
  · subst hl
    rw [follows_none] at hr
    by_cases hf : f = 0
    · subst hf
      obtain rfl : r = true := by rw [← hr]; rfl
      clear hr
      go_enter Tryz.func103, Tryz.ntmps103
      go_wp2
      go_ret
      exact ⟨rfl, rfl⟩
    · obtain rfl : r = false := by rw [← hr]; exact decide_eq_false hf
      have hf1 : (f == 0) = false := by simpa using hf
      clear hr
      go_enter Tryz.func103, Tryz.ntmps103
      go_wp2
      go_ret
      exact ⟨rfl, rfl⟩
  · have hl1 : (l == -1) = false := by simpa using hl
    rcases hq : rightB l with _ | _
    · obtain rfl : r = false := by rw [← hr, follows_no hl hq]
      have HQ := Lib.hid hq
      clear hr hq
      go_enter Tryz.func103, Tryz.ntmps103
      go_wp2_with (go_at_call 77; refine (seq_right l _ false HQ.out).mono ?_; rintro e w' ⟨rfl, rfl⟩)
      go_ret
      exact ⟨rfl, rfl⟩
    · obtain ⟨l0, l1⟩ := of_right hq
      rw [follows_yes l0 l1] at hr
      obtain ⟨v, hv⟩ : ∃ v, addI l 1 = v := ⟨_, rfl⟩
      rw [hv] at hr
      have HV := Lib.hid hv
      have HQ := Lib.hid hq
      by_cases hf : f = v
      · subst hf
        obtain rfl : r = true := by rw [← hr]; exact decide_eq_true rfl
        clear hr hv hq
        go_enter Tryz.func103, Tryz.ntmps103
        go_wp2_with (first | (go_at_call 77; refine (seq_right l _ true HQ.out).mono ?_; rintro e w' ⟨rfl, rfl⟩) | (go_at_call 106; refine (seq_add l _ _ f (by omega) (by omega) HV.out).mono ?_; rintro e w' ⟨rfl, rfl⟩))
        go_ret
        exact ⟨rfl, rfl⟩
      · obtain rfl : r = false := by rw [← hr]; exact decide_eq_false hf
        have hf1 : (f == v) = false := by simpa using hf
        clear hr hv hq
        go_enter Tryz.func103, Tryz.ntmps103
        go_wp2_with (first | (go_at_call 77; refine (seq_right l _ true HQ.out).mono ?_; rintro e w' ⟨rfl, rfl⟩) | (go_at_call 106; refine (seq_add l _ _ v (by omega) (by omega) HV.out).mono ?_; rintro e w' ⟨rfl, rfl⟩))
        go_ret
        exact ⟨rfl, rfl⟩
end Go.Proofs.YtmnjobiipfgpoaaGreat
namespace Go.Proofs.YtmnjobiipfgpoaaGreat
open Go.RowKit
open Go.SeqMath
open Go.ProdMath
open Go.BatMath hiding AllB getD_lt take_all
set_option linter.unusedVariables false

/-- Three numbers as a value. -/
def Tr.val (x : Tr) : Value := .agg #[.int .i64 x.f, .int .i64 x.l, .int .i64 x.b]
theorem eq_three (a b c d e f : Int) (w : World) : (Op.equalIn 10000 74 (.agg #[.int .i64 a, .int .i64 b, .int .i64 c]) (.agg #[.int .i64 d, .int .i64 e, .int .i64 f])).run Tryz.prog w = .ok (a == d && (b == e && c == f)) w := by
  have u3 := Tryz.underlying2
  have a3 := Tryz.isAgg2
  have z3 := Tryz.sizeOf2
  rw [show (10000 : Nat) = 9999 + 1 from rfl, Op.equalIn]
  simp only [Sem.run_bind, run_underlying Tryz.underlying74, Result.andThen_ok]
  simp only [Std.Legacy.Range.forIn_eq_forIn_range', Std.Legacy.Range.size, Nat.sub_zero, Nat.add_sub_cancel, Nat.div_one, List.range'_succ, List.range'_zero, List.forIn_cons, List.forIn_nil]
  go_simp
  by_cases h1 : a = d <;> by_cases h2 : b = e <;> by_cases h3 : c = f <;> simp [h1, h2, h3]
theorem guard_three : Tryz.prog.eqGuardType Tryz.prog.depth 74 = false := by kernel_rfl
theorem neq_three (a b c d e f : Int) (r : Bool) (hr : (a == d && (b == e && c == f)) = r) (w : World) : (binOp .neq 74 (.agg #[.int .i64 a, .int .i64 b, .int .i64 c]) (.agg #[.int .i64 d, .int .i64 e, .int .i64 f])).run Tryz.prog w = .ok (.bool (!r)) w := by
  rw [run_neq_struct, eq_three, hr]; rfl
theorem prOpen_any (w : World) (id ep op : Int) (ad : Option Addr) (n cap : Nat) (r : Bool) (hr : decide (0 ≤ op) = r) :
    Calls Tryz.prog 63 #[.agg #[.int .i64 id, .int .i64 ep, .slice ad n cap, .int .i64 op]] w fun e w' => e = .returned (.bool r) ∧ Below w.heap.size w w' := by
  have HR := Lib.hid hr
  clear hr
  obtain ⟨W0, hW0⟩ : ∃ W0, W0 = (w.alloc (.cells #[.int .i64 id, .int .i64 ep, .slice ad n cap, .int .i64 op] 36)) := ⟨_, rfl⟩
  have HB0 : Hid (Below w.heap.size w W0) := by show Below _ _ _; rw [hW0]; exact (Below.refl _ _).alloc (Nat.le_refl _) _
  have HP0 : Hid (PBox W0 w.heap.size (id) (ep) (.slice ad n cap) (op)) := by
    show PBox _ w.heap.size (id) (ep) (.slice ad n cap) (op)
    rw [hW0]
    have h1 := pbox_new w (id) (ep) (.slice ad n cap) (op)
    simpa using h1
  have HW0 := Lib.hid hW0
  clear hW0
  obtain ⟨B1, hB1⟩ : ∃ B, B = w.heap.size := ⟨_, rfl⟩
  rw [← hB1] at HP0
  go_enter Tryz.func63, Tryz.ntmps63
  go_upto_region 1 with fail
  rw [← HW0.out, ← hB1]
  clear HW0 hB1
  have q3 := HP0.out.c3
  go_wp2
  go_ret
  exact ⟨by rw [← HR.out]; rfl, HB0.out⟩
set_option maxHeartbeats 1000000 in
theorem prEnd_any (w : World) (b0 b1 b2 b3 : Int) (b4 : Bool) (b5 : Int) (rd : Option Addr) (rn rc : Nat) (hm : b5 = 0) (hrn : rn ≤ 140737488355328) (v : Int) (hv : lastI b3 rn = v) :
    Calls Tryz.prog 62 #[.agg #[.int .i64 b0, .int .i64 b1, .int .i64 b2, .int .i64 b3, .bool b4, .int .i64 b5, .slice rd rn rc]] w fun e w' => e = .returned (.int .i64 v) ∧ Below w.heap.size w w' := by
  have HM := Lib.hid hm
  have HV := Lib.hid hv
  clear hm hv
  obtain ⟨W0, hW0⟩ : ∃ W0, W0 = (w.alloc (.cells #[.int .i64 b0, .int .i64 b1, .int .i64 b2, .int .i64 b3, .bool b4, .int .i64 b5, .slice rd rn rc] 30)) := ⟨_, rfl⟩
  have HB0 : Hid (Below w.heap.size w W0) := by show Below _ _ _; rw [hW0]; exact (Below.refl _ _).alloc (Nat.le_refl _) _
  have HX0 : Hid (BoxAt W0 w.heap.size b0 b1 b2 b3 b4 b5 (.slice rd rn rc)) := by
    show BoxAt _ w.heap.size b0 b1 b2 b3 b4 b5 (.slice rd rn rc)
    rw [hW0]
    have h1 := boxAt_new w b0 b1 b2 b3 b4 b5 (.slice rd rn rc)
    simpa using h1
  have HW0 := Lib.hid hW0
  clear hW0
  obtain ⟨B1, hB1⟩ : ∃ B, B = w.heap.size := ⟨_, rfl⟩
  rw [← hB1] at HX0
  go_enter Tryz.func62, Tryz.ntmps62
  go_upto_region 1 with fail
  rw [← HW0.out, ← hB1]
  clear HW0 hB1
  have KS : Hid (∀ W, Below W0.heap.size W0 W → (fun (W : World) => W.cell? ⟨B1, 0, none⟩ = some (.int .i64 b0) ∧ W.cell? ⟨B1, 1, none⟩ = some (.int .i64 b1) ∧ W.cell? ⟨B1, 2, none⟩ = some (.int .i64 b2) ∧ W.cell? ⟨B1, 3, none⟩ = some (.int .i64 b3) ∧ W.cell? ⟨B1, 4, none⟩ = some (.bool b4) ∧ W.cell? ⟨B1, 5, none⟩ = some (.int .i64 b5) ∧ W.cell? ⟨B1, 6, none⟩ = some (.slice rd rn rc) ∧ Below W0.heap.size W0 W) W) := by
    intro W hW
    have hX := HX0.out.on hW
    exact ⟨hX.c0, hX.c1, hX.c2, hX.c3, hX.c4, hX.c5, hX.c6, hW⟩
  refine wp_region_noPanic ?_
  refine wp_region_z [] (fun (W : World) => W.cell? ⟨B1, 0, none⟩ = some (.int .i64 b0) ∧ W.cell? ⟨B1, 1, none⟩ = some (.int .i64 b1) ∧ W.cell? ⟨B1, 2, none⟩ = some (.int .i64 b2) ∧ W.cell? ⟨B1, 3, none⟩ = some (.int .i64 b3) ∧ W.cell? ⟨B1, 4, none⟩ = some (.bool b4) ∧ W.cell? ⟨B1, 5, none⟩ = some (.int .i64 b5) ∧ W.cell? ⟨B1, 6, none⟩ = some (.slice rd rn rc) ∧ Below W0.heap.size W0 W) (by kernel_rfl) ?_
  have hHeld : (fun (W : World) => W.cell? ⟨B1, 0, none⟩ = some (.int .i64 b0) ∧ W.cell? ⟨B1, 1, none⟩ = some (.int .i64 b1) ∧ W.cell? ⟨B1, 2, none⟩ = some (.int .i64 b2) ∧ W.cell? ⟨B1, 3, none⟩ = some (.int .i64 b3) ∧ W.cell? ⟨B1, 4, none⟩ = some (.bool b4) ∧ W.cell? ⟨B1, 5, none⟩ = some (.int .i64 b5) ∧ W.cell? ⟨B1, 6, none⟩ = some (.slice rd rn rc) ∧ Below W0.heap.size W0 W) _ := KS.out _ (Below.refl _ W0).drew
  obtain ⟨u0, hu0⟩ : ∃ u, u = W0.drew := ⟨_, rfl⟩
  have HU0 : Hid (Below W0.heap.size W0 u0) := by show Below _ _ _; rw [hu0]; exact (Below.refl _ W0).drew
  rw [← hu0] at hHeld
  rw [← hu0]
  clear hu0
  refine wpAnyZ_take (i := 0) (oi := ⟨_, _, _, _, _, _⟩) (v := ?_) rfl (by kernel_rfl) (by kernel_rfl) (by kernel_rfl) (by kernel_rfl) (by kernel_rfl) (fun _ _ _ h => h) (Or.inl ⟨by rfl, ?_⟩) (by assumption) ?_
  rotate_left
  · intro W hSw
    (try dsimp only at hSw)
    go_simp
    (try with_reducible rfl)
  (try simp only [Act.put, List.setIfInBounds_toArray, List.set_cons_zero, List.set_cons_succ])
  refine wpAnyZ_take (i := 1) (oi := ⟨_, _, _, _, _, _⟩) (v := ?_) rfl (by kernel_rfl) (by kernel_rfl) (by kernel_rfl) (by kernel_rfl) (by kernel_rfl) (fun _ _ _ h => h) (Or.inl ⟨by rfl, ?_⟩) (by assumption) ?_
  rotate_left
  · intro W hSw
    (try dsimp only at hSw)
    go_simp
    (try with_reducible rfl)
  (try simp only [Act.put, List.setIfInBounds_toArray, List.set_cons_zero, List.set_cons_succ])
  refine wpAnyZ_take (i := 2) (oi := ⟨_, _, _, _, _, _⟩) (v := ?_) rfl (by kernel_rfl) (by kernel_rfl) (by kernel_rfl) (by kernel_rfl) (by kernel_rfl) (fun _ _ _ h => h) (Or.inl ⟨by rfl, ?_⟩) (by assumption) ?_
  rotate_left
  · intro W hSw
    (try dsimp only at hSw)
    go_simp
    (try with_reducible rfl)
  (try simp only [Act.put, List.setIfInBounds_toArray, List.set_cons_zero, List.set_cons_succ])
  refine wpAnyZ_ready (rs := [3]) (by kernel_rfl) (by simp) ?_
  refine AllReadyZ.cons (o := ⟨_, _, _, _, _, _⟩) rfl (fun C hC => ?_) AllReadyZ.nil
  go_simp
  refine (batCount_any u0 b0 b1 b2 b3 b4 b5 rd rn rc (rn : Int) (by rw [if_neg (fun h => h HM.out)])).mono ?_
  rintro e u1 ⟨rfl, hb1⟩
  have HU1 := Lib.hid (HU0.out.trans (hb1.mono HU0.out.size))
  clear hb1
  go_wp2_with fail
  have hHeld : (fun (W : World) => W.cell? ⟨B1, 0, none⟩ = some (.int .i64 b0) ∧ W.cell? ⟨B1, 1, none⟩ = some (.int .i64 b1) ∧ W.cell? ⟨B1, 2, none⟩ = some (.int .i64 b2) ∧ W.cell? ⟨B1, 3, none⟩ = some (.int .i64 b3) ∧ W.cell? ⟨B1, 4, none⟩ = some (.bool b4) ∧ W.cell? ⟨B1, 5, none⟩ = some (.int .i64 b5) ∧ W.cell? ⟨B1, 6, none⟩ = some (.slice rd rn rc) ∧ Below W0.heap.size W0 W) u1 := KS.out _ HU1.out
  refine hC.out _ _ (fun _ => hHeld) (fun _ => ?_)
  clear hC C
  (try simp only [Act.put, List.setIfInBounds_toArray, List.set_cons_zero, List.set_cons_succ])
  refine wpAnyZ_ready (rs := [4]) (by kernel_rfl) (by simp) ?_
  refine AllReadyZ.cons (o := ⟨_, _, _, _, _, _⟩) rfl (fun C hC => ?_) AllReadyZ.nil
  go_simp
  refine (seq_last b3 rn u1 v (by omega) (by omega) HV.out).mono ?_
  rintro e u2 ⟨rfl, rfl⟩
  go_wp2_with fail
  have hHeld : (fun (W : World) => W.cell? ⟨B1, 0, none⟩ = some (.int .i64 b0) ∧ W.cell? ⟨B1, 1, none⟩ = some (.int .i64 b1) ∧ W.cell? ⟨B1, 2, none⟩ = some (.int .i64 b2) ∧ W.cell? ⟨B1, 3, none⟩ = some (.int .i64 b3) ∧ W.cell? ⟨B1, 4, none⟩ = some (.bool b4) ∧ W.cell? ⟨B1, 5, none⟩ = some (.int .i64 b5) ∧ W.cell? ⟨B1, 6, none⟩ = some (.slice rd rn rc) ∧ Below W0.heap.size W0 W) _ := hHeld
  refine hC.out _ _ (fun _ => hHeld) (fun _ => ?_)
  clear hC C
  (try simp only [Act.put, List.setIfInBounds_toArray, List.set_cons_zero, List.set_cons_succ])
  refine wpAnyZ_take (i := 5) (oi := ⟨_, _, _, _, _, _⟩) (v := ?_) rfl (by kernel_rfl) (by kernel_rfl) (by kernel_rfl) (by kernel_rfl) (by kernel_rfl) (fun _ _ _ h => h) (Or.inl ⟨by rfl, ?_⟩) (by assumption) ?_
  rotate_left
  · intro W hSw
    (try dsimp only at hSw)
    go_simp
    (try with_reducible rfl)
  (try simp only [Act.put, List.setIfInBounds_toArray, List.set_cons_zero, List.set_cons_succ])
  refine wpAnyZ_done (by kernel_rfl) ?_ _
  refine NoPanic.normal ?_
  clear hHeld
  go_wp2
  go_ret
  exact ⟨rfl, HB0.out.trans (HU1.out.mono HB0.out.size)⟩
end Go.Proofs.YtmnjobiipfgpoaaGreat
namespace Go.Proofs.YtmnjobiipfgpoaaGreat
open Go.RowKit
open Go.SeqMath
open Go.ProdMath
open Go.BatMath hiding AllB getD_lt take_all
set_option linter.unusedVariables false

set_option maxRecDepth 100000 in
set_option maxHeartbeats 4000000 in
theorem prDup_any (w : World) (id ep op : Int) (last : List Tr) (ad : Option Addr) (n cap : Nat) (hl : RowAt trK w ad n cap last) (hn : n ≤ 100000000000) (b0 b1 b2 b3 : Int) (b4 : Bool) (b5 : Int) (rd : Option Addr) (rn rc : Nat) (hrn : rn ≤ 140737488355328) (r : Option Int) (hr : (if b2 = ep ∧ b5 = 0 then dupL last b3 rn else none) = r) :
    Calls Tryz.prog 80 #[.agg #[.int .i64 id, .int .i64 ep, .slice ad n cap, .int .i64 op], .agg #[.int .i64 b0, .int .i64 b1, .int .i64 b2, .int .i64 b3, .bool b4, .int .i64 b5, .slice rd rn rc]] w (GivesDup w r) := by
  have HR := Lib.hid hr
  clear hr
  obtain ⟨W0, hW0⟩ : ∃ W0, W0 = ((w.alloc (.cells #[.int .i64 id, .int .i64 ep, .slice ad n cap, .int .i64 op] 36)).alloc (.cells #[.int .i64 b0, .int .i64 b1, .int .i64 b2, .int .i64 b3, .bool b4, .int .i64 b5, .slice rd rn rc] 30)) := ⟨_, rfl⟩
  have HB0 : Hid (Below w.heap.size w W0) := by show Below _ _ _; rw [hW0]; exact ((Below.refl _ _).alloc (Nat.le_refl _) _).alloc (by simp) _
  have HP0 : Hid (PBox W0 w.heap.size (id) (ep) (.slice ad n cap) (op)) := by
    show PBox _ w.heap.size (id) (ep) (.slice ad n cap) (op)
    rw [hW0]
    have h1 := pbox_new w (id) (ep) (.slice ad n cap) (op)
    have h2 := h1.on ((Below.refl _ _).alloc (Nat.le_refl _) (.cells #[.int .i64 b0, .int .i64 b1, .int .i64 b2, .int .i64 b3, .bool b4, .int .i64 b5, .slice rd rn rc] 30))
    simpa using h2
  have HX1 : Hid (BoxAt W0 (w.heap.size + 1) b0 b1 b2 b3 b4 b5 (.slice rd rn rc)) := by
    show BoxAt _ (w.heap.size + 1) b0 b1 b2 b3 b4 b5 (.slice rd rn rc)
    rw [hW0]
    have h1 := boxAt_new (w.alloc (.cells #[.int .i64 id, .int .i64 ep, .slice ad n cap, .int .i64 op] 36)) b0 b1 b2 b3 b4 b5 (.slice rd rn rc)
    simpa using h1
  have HW0 := Lib.hid hW0
  clear hW0
  obtain ⟨B1, hB1⟩ : ∃ B, B = w.heap.size := ⟨_, rfl⟩
  obtain ⟨B2, hB2⟩ : ∃ B, B = w.heap.size + 1 := ⟨_, rfl⟩
  rw [← hB1] at HP0
  rw [← hB2] at HX1
  go_enter Tryz.func80, Tryz.ntmps80
  go_upto_region 1 with fail
  rw [← HW0.out, ← hB2, ← hB1]
  clear HW0 hB1 hB2
  have HL0 := Lib.hid (hl.keep HB0.out)
  clear hl
  have q0 := HP0.out.c0
  have q1 := HP0.out.c1
  have q2 := HP0.out.c2
  have q3 := HP0.out.c3
  have p2 := HX1.out.c2
  have p5 := HX1.out.c5
  by_cases hm : b5 = 0
  · have hd1 : (b5 == 0) = true := by rw [hm]; rfl
    have hd1n : (b5 != 0) = false := by rw [hm]; rfl
    by_cases he : b2 = ep
    · have hd2 : (b2 == ep) = true := by rw [he]; simp
      have hd2n : (b2 != ep) = false := by rw [he]; simp
      have HRR : Hid (dupL (last.drop 0) b3 rn = r) := by show _ = _; rw [← HR.out, if_pos ⟨he, hm⟩]; rfl
      have HM := Lib.hid hm
      clear HR he hm
      go_wp2
      go_loopw [21] (fun v21 wr => ∃ j : Nat, v21 = .int .i64 (j : Int) ∧ j ≤ n ∧ dupL (last.drop j) b3 rn = r ∧ Below W0.heap.size W0 wr) (fun v21 _ => n - (intOf v21).toNat)
      case atStart => exact ⟨0, rfl, Nat.zero_le _, HRR.out, Below.refl _ _⟩
      case round =>
        obtain ⟨j, rfl, hj, hdu, hbel⟩ := hrel
        have HD := Lib.hid hdu
        have HB := Lib.hid hbel
        clear hdu hbel HRR q0 q1 q2 q3 p2 p5
        obtain ⟨wo, hwo⟩ : ∃ wo : World, wo = wr := ⟨_, rfl⟩
        subst hwo
        by_cases hlt : j < n
        · have hd3 : decide (j < n) = true := decide_eq_true hlt
          have hjn : (j : Int) < (n : Int) := by omega
          obtain ⟨bk, off, x, rfl, hbk, hx, c0, c1, c2⟩ := tr_get (HL0.out.keep HB.out) hlt
          have hdrop : last.drop j = x :: last.drop (j + 1) := by
            obtain ⟨hjl, hxe⟩ := List.getElem?_eq_some_iff.1 hx
            rw [List.drop_eq_getElem_cons hjl, hxe]
          have HDR := Lib.hid hdrop
          clear hdrop hx hbk
          go_upto_region 6 with fail
          obtain ⟨W1, hW1⟩ : ∃ W1, W1 = wo.alloc (.cells #[.int .i64 x.f, .int .i64 x.l, .int .i64 x.b] 74) := ⟨_, rfl⟩
          have HB1 : Hid (Below W0.heap.size W0 W1) := by show Below _ _ _; rw [hW1]; exact HB.out.alloc HB.out.size _
          obtain ⟨K, hK⟩ : ∃ K, K = wo.heap.size := ⟨_, rfl⟩
          have HT1 : Hid (TBox W1 K x) := by show TBox _ _ _; rw [hW1, hK]; exact tbox_new wo x
          have HXX := Lib.hid (HX1.out.on HB1.out)
          rw [← hW1, ← hK]
          clear hW1 hK c0 c1 c2 HB
          have KS : Hid (∀ W, Below W1.heap.size W1 W → (fun (W : World) => W.cell? ⟨K, 0, none⟩ = some (.int .i64 x.f) ∧ W.cell? ⟨K, 1, none⟩ = some (.int .i64 x.l) ∧ W.cell? ⟨K, 2, none⟩ = some (.int .i64 x.b) ∧ W.cell? ⟨B2, 0, none⟩ = some (.int .i64 b0) ∧ W.cell? ⟨B2, 1, none⟩ = some (.int .i64 b1) ∧ W.cell? ⟨B2, 2, none⟩ = some (.int .i64 b2) ∧ W.cell? ⟨B2, 3, none⟩ = some (.int .i64 b3) ∧ W.cell? ⟨B2, 4, none⟩ = some (.bool b4) ∧ W.cell? ⟨B2, 5, none⟩ = some (.int .i64 b5) ∧ W.cell? ⟨B2, 6, none⟩ = some (.slice rd rn rc) ∧ Below W1.heap.size W1 W) W) := by
            intro W hW
            have hX := HXX.out.on hW
            have hT := HT1.out.on hW
            exact ⟨hT.c0, hT.c1, hT.c2, hX.c0, hX.c1, hX.c2, hX.c3, hX.c4, hX.c5, hX.c6, hW⟩
          have hb1d : Below W1.heap.size W1 W1.drew := (Below.refl _ W1).drew
          by_cases hf : x.f = b3
          · have hd4 : (x.f == b3) = true := by rw [hf]; simp
            obtain ⟨lv, hlv⟩ : ∃ lv, lastI b3 rn = lv := ⟨_, rfl⟩
            have HLV := Lib.hid hlv
            by_cases hll : x.l = lv
            · have hd5 : (x.l == lv) = true := by rw [hll]; simp
              have HEND : Hid (r = some x.b) := by
                show r = _
                rw [← HD.out, HDR.out, dup_hit]
                unfold hitB
                rw [hf, hlv, hll]
                simp
              clear hlv
              refine wp_region_noPanic ?_
              refine wp_region_z [] (fun (W : World) => W.cell? ⟨K, 0, none⟩ = some (.int .i64 x.f) ∧ W.cell? ⟨K, 1, none⟩ = some (.int .i64 x.l) ∧ W.cell? ⟨K, 2, none⟩ = some (.int .i64 x.b) ∧ W.cell? ⟨B2, 0, none⟩ = some (.int .i64 b0) ∧ W.cell? ⟨B2, 1, none⟩ = some (.int .i64 b1) ∧ W.cell? ⟨B2, 2, none⟩ = some (.int .i64 b2) ∧ W.cell? ⟨B2, 3, none⟩ = some (.int .i64 b3) ∧ W.cell? ⟨B2, 4, none⟩ = some (.bool b4) ∧ W.cell? ⟨B2, 5, none⟩ = some (.int .i64 b5) ∧ W.cell? ⟨B2, 6, none⟩ = some (.slice rd rn rc) ∧ Below W1.heap.size W1 W) (by kernel_rfl) ?_
              have hHeld : (fun (W : World) => W.cell? ⟨K, 0, none⟩ = some (.int .i64 x.f) ∧ W.cell? ⟨K, 1, none⟩ = some (.int .i64 x.l) ∧ W.cell? ⟨K, 2, none⟩ = some (.int .i64 x.b) ∧ W.cell? ⟨B2, 0, none⟩ = some (.int .i64 b0) ∧ W.cell? ⟨B2, 1, none⟩ = some (.int .i64 b1) ∧ W.cell? ⟨B2, 2, none⟩ = some (.int .i64 b2) ∧ W.cell? ⟨B2, 3, none⟩ = some (.int .i64 b3) ∧ W.cell? ⟨B2, 4, none⟩ = some (.bool b4) ∧ W.cell? ⟨B2, 5, none⟩ = some (.int .i64 b5) ∧ W.cell? ⟨B2, 6, none⟩ = some (.slice rd rn rc) ∧ Below W1.heap.size W1 W) _ := KS.out _ hb1d
              obtain ⟨u0, hu0⟩ : ∃ u, u = W1.drew := ⟨_, rfl⟩
              rw [← hu0] at hHeld hb1d
              rw [← hu0]
              clear hu0
              have HU0 := Lib.hid hb1d
              clear hb1d
              refine wpAnyZ_take (i := 0) (oi := ⟨_, _, _, _, _, _⟩) (v := ?_) rfl (by kernel_rfl) (by kernel_rfl) (by kernel_rfl) (by kernel_rfl) (by kernel_rfl) (fun _ _ _ h => h) (Or.inl ⟨by rfl, ?_⟩) (by assumption) ?_
              rotate_left
              · intro W hSw
                (try dsimp only at hSw)
                go_simp
                (try with_reducible rfl)
              (try simp only [Act.put, List.setIfInBounds_toArray, List.set_cons_zero, List.set_cons_succ])
              refine wpAnyZ_take (i := 1) (oi := ⟨_, _, _, _, _, _⟩) (v := ?_) rfl (by kernel_rfl) (by kernel_rfl) (by kernel_rfl) (by kernel_rfl) (by kernel_rfl) (fun _ _ _ h => h) (Or.inl ⟨by rfl, ?_⟩) (by assumption) ?_
              rotate_left
              · intro W hSw
                (try dsimp only at hSw)
                go_simp
                (try with_reducible rfl)
              (try simp only [Act.put, List.setIfInBounds_toArray, List.set_cons_zero, List.set_cons_succ])
              refine wpAnyZ_take (i := 2) (oi := ⟨_, _, _, _, _, _⟩) (v := ?_) rfl (by kernel_rfl) (by kernel_rfl) (by kernel_rfl) (by kernel_rfl) (by kernel_rfl) (fun _ _ _ h => h) (Or.inl ⟨by rfl, ?_⟩) (by assumption) ?_
              rotate_left
              · intro W hSw
                (try dsimp only at hSw)
                go_simp
                (try with_reducible rfl)
              (try simp only [Act.put, List.setIfInBounds_toArray, List.set_cons_zero, List.set_cons_succ])
              refine wpAnyZ_take (i := 3) (oi := ⟨_, _, _, _, _, _⟩) (v := ?_) rfl (by kernel_rfl) (by kernel_rfl) (by kernel_rfl) (by kernel_rfl) (by kernel_rfl) (fun _ _ _ h => h) (Or.inl ⟨by rfl, ?_⟩) (by assumption) ?_
              rotate_left
              · intro W hSw
                (try dsimp only at hSw)
                go_simp
                (try with_reducible rfl)
              (try simp only [Act.put, List.setIfInBounds_toArray, List.set_cons_zero, List.set_cons_succ])
              refine wpAnyZ_take (i := 4) (oi := ⟨_, _, _, _, _, _⟩) (v := ?_) rfl (by kernel_rfl) (by kernel_rfl) (by kernel_rfl) (by kernel_rfl) (by kernel_rfl) (fun _ _ _ h => h) (Or.inl ⟨by rfl, ?_⟩) (by assumption) ?_
              rotate_left
              · intro W hSw
                (try dsimp only at hSw)
                go_simp
                (try with_reducible rfl)
              (try simp only [Act.put, List.setIfInBounds_toArray, List.set_cons_zero, List.set_cons_succ])
              refine wpAnyZ_take (i := 5) (oi := ⟨_, _, _, _, _, _⟩) (v := ?_) rfl (by kernel_rfl) (by kernel_rfl) (by kernel_rfl) (by kernel_rfl) (by kernel_rfl) (fun _ _ _ h => h) (Or.inl ⟨by rfl, ?_⟩) (by assumption) ?_
              rotate_left
              · intro W hSw
                (try dsimp only at hSw)
                go_simp
                (try with_reducible rfl)
              (try simp only [Act.put, List.setIfInBounds_toArray, List.set_cons_zero, List.set_cons_succ])
              refine wpAnyZ_take (i := 6) (oi := ⟨_, _, _, _, _, _⟩) (v := ?_) rfl (by kernel_rfl) (by kernel_rfl) (by kernel_rfl) (by kernel_rfl) (by kernel_rfl) (fun _ _ _ h => h) (Or.inl ⟨by rfl, ?_⟩) (by assumption) ?_
              rotate_left
              · intro W hSw
                (try dsimp only at hSw)
                go_simp
                (try with_reducible rfl)
              (try simp only [Act.put, List.setIfInBounds_toArray, List.set_cons_zero, List.set_cons_succ])
              refine wpAnyZ_take (i := 7) (oi := ⟨_, _, _, _, _, _⟩) (v := ?_) rfl (by kernel_rfl) (by kernel_rfl) (by kernel_rfl) (by kernel_rfl) (by kernel_rfl) (fun _ _ _ h => h) (Or.inl ⟨by rfl, ?_⟩) (by assumption) ?_
              rotate_left
              · intro W hSw
                (try dsimp only at hSw)
                go_simp
                (try with_reducible rfl)
              (try simp only [Act.put, List.setIfInBounds_toArray, List.set_cons_zero, List.set_cons_succ])
              refine wpAnyZ_take (i := 8) (oi := ⟨_, _, _, _, _, _⟩) (v := ?_) rfl (by kernel_rfl) (by kernel_rfl) (by kernel_rfl) (by kernel_rfl) (by kernel_rfl) (fun _ _ _ h => h) (Or.inl ⟨by rfl, ?_⟩) (by assumption) ?_
              rotate_left
              · intro W hSw
                (try dsimp only at hSw)
                go_simp
                (try with_reducible rfl)
              (try simp only [Act.put, List.setIfInBounds_toArray, List.set_cons_zero, List.set_cons_succ])
              refine wpAnyZ_ready (rs := [9]) (by kernel_rfl) (by simp) ?_
              refine AllReadyZ.cons (o := ⟨_, _, _, _, _, _⟩) rfl (fun C hC => ?_) AllReadyZ.nil
              go_simp
              refine (prEnd_any u0 b0 b1 b2 b3 b4 b5 rd rn rc HM.out hrn lv HLV.out).mono ?_
              rintro e u1 ⟨rfl, hb2⟩
              have HU := Lib.hid (HU0.out.trans (hb2.mono HU0.out.size))
              clear hb2
              go_wp2_with fail
              have hHeld : (fun (W : World) => W.cell? ⟨K, 0, none⟩ = some (.int .i64 x.f) ∧ W.cell? ⟨K, 1, none⟩ = some (.int .i64 x.l) ∧ W.cell? ⟨K, 2, none⟩ = some (.int .i64 x.b) ∧ W.cell? ⟨B2, 0, none⟩ = some (.int .i64 b0) ∧ W.cell? ⟨B2, 1, none⟩ = some (.int .i64 b1) ∧ W.cell? ⟨B2, 2, none⟩ = some (.int .i64 b2) ∧ W.cell? ⟨B2, 3, none⟩ = some (.int .i64 b3) ∧ W.cell? ⟨B2, 4, none⟩ = some (.bool b4) ∧ W.cell? ⟨B2, 5, none⟩ = some (.int .i64 b5) ∧ W.cell? ⟨B2, 6, none⟩ = some (.slice rd rn rc) ∧ Below W1.heap.size W1 W) u1 := KS.out _ HU.out
              refine hC.out _ _ (fun _ => hHeld) (fun _ => ?_)
              clear hC C
              (try simp only [Act.put, List.setIfInBounds_toArray, List.set_cons_zero, List.set_cons_succ])
              refine wpAnyZ_take (i := 10) (oi := ⟨_, _, _, _, _, _⟩) (v := ?_) rfl (by kernel_rfl) (by kernel_rfl) (by kernel_rfl) (by kernel_rfl) (by kernel_rfl) (fun _ _ _ h => h) (Or.inl ⟨by rfl, ?_⟩) (by assumption) ?_
              rotate_left
              · intro W hSw
                (try dsimp only at hSw)
                go_simp
                (try with_reducible rfl)
              (try simp only [Act.put, List.setIfInBounds_toArray, List.set_cons_zero, List.set_cons_succ])
              refine wpAnyZ_take (i := 11) (oi := ⟨_, _, _, _, _, _⟩) (v := ?_) rfl (by kernel_rfl) (by kernel_rfl) (by kernel_rfl) (by kernel_rfl) (by kernel_rfl) (fun _ _ _ h => h) (Or.inl ⟨by rfl, ?_⟩) (by assumption) ?_
              rotate_left
              · intro W hSw
                (try dsimp only at hSw)
                go_simp
                (try with_reducible rfl)
              (try simp only [Act.put, List.setIfInBounds_toArray, List.set_cons_zero, List.set_cons_succ])
              refine wpAnyZ_done (by kernel_rfl) ?_ _
              refine NoPanic.normal ?_
              clear hHeld
              have k2 := (KS.out _ HU.out).2.2.1
              go_wp2
              go_ret2
              exact gives_dup_some HEND.out (HB0.out.trans ((HB1.out.trans (HU.out.mono HB1.out.size)).mono HB0.out.size))
            · have hd5 : (x.l == lv) = false := beq_false_of_ne hll
              have HNX : Hid (dupL (last.drop (j + 1)) b3 rn = r) := by
                show _ = _
                rw [← HD.out, HDR.out, dup_miss]
                unfold hitB
                rw [hlv, decide_eq_false hll, Bool.and_false]
              clear hlv
              refine wp_region_noPanic ?_
              refine wp_region_z [] (fun (W : World) => W.cell? ⟨K, 0, none⟩ = some (.int .i64 x.f) ∧ W.cell? ⟨K, 1, none⟩ = some (.int .i64 x.l) ∧ W.cell? ⟨K, 2, none⟩ = some (.int .i64 x.b) ∧ W.cell? ⟨B2, 0, none⟩ = some (.int .i64 b0) ∧ W.cell? ⟨B2, 1, none⟩ = some (.int .i64 b1) ∧ W.cell? ⟨B2, 2, none⟩ = some (.int .i64 b2) ∧ W.cell? ⟨B2, 3, none⟩ = some (.int .i64 b3) ∧ W.cell? ⟨B2, 4, none⟩ = some (.bool b4) ∧ W.cell? ⟨B2, 5, none⟩ = some (.int .i64 b5) ∧ W.cell? ⟨B2, 6, none⟩ = some (.slice rd rn rc) ∧ Below W1.heap.size W1 W) (by kernel_rfl) ?_
              have hHeld : (fun (W : World) => W.cell? ⟨K, 0, none⟩ = some (.int .i64 x.f) ∧ W.cell? ⟨K, 1, none⟩ = some (.int .i64 x.l) ∧ W.cell? ⟨K, 2, none⟩ = some (.int .i64 x.b) ∧ W.cell? ⟨B2, 0, none⟩ = some (.int .i64 b0) ∧ W.cell? ⟨B2, 1, none⟩ = some (.int .i64 b1) ∧ W.cell? ⟨B2, 2, none⟩ = some (.int .i64 b2) ∧ W.cell? ⟨B2, 3, none⟩ = some (.int .i64 b3) ∧ W.cell? ⟨B2, 4, none⟩ = some (.bool b4) ∧ W.cell? ⟨B2, 5, none⟩ = some (.int .i64 b5) ∧ W.cell? ⟨B2, 6, none⟩ = some (.slice rd rn rc) ∧ Below W1.heap.size W1 W) _ := KS.out _ hb1d
              obtain ⟨u0, hu0⟩ : ∃ u, u = W1.drew := ⟨_, rfl⟩
              rw [← hu0] at hHeld hb1d
              rw [← hu0]
              clear hu0
              have HU0 := Lib.hid hb1d
              clear hb1d
              refine wpAnyZ_take (i := 0) (oi := ⟨_, _, _, _, _, _⟩) (v := ?_) rfl (by kernel_rfl) (by kernel_rfl) (by kernel_rfl) (by kernel_rfl) (by kernel_rfl) (fun _ _ _ h => h) (Or.inl ⟨by rfl, ?_⟩) (by assumption) ?_
              rotate_left
              · intro W hSw
                (try dsimp only at hSw)
                go_simp
                (try with_reducible rfl)
              (try simp only [Act.put, List.setIfInBounds_toArray, List.set_cons_zero, List.set_cons_succ])
              refine wpAnyZ_take (i := 1) (oi := ⟨_, _, _, _, _, _⟩) (v := ?_) rfl (by kernel_rfl) (by kernel_rfl) (by kernel_rfl) (by kernel_rfl) (by kernel_rfl) (fun _ _ _ h => h) (Or.inl ⟨by rfl, ?_⟩) (by assumption) ?_
              rotate_left
              · intro W hSw
                (try dsimp only at hSw)
                go_simp
                (try with_reducible rfl)
              (try simp only [Act.put, List.setIfInBounds_toArray, List.set_cons_zero, List.set_cons_succ])
              refine wpAnyZ_take (i := 2) (oi := ⟨_, _, _, _, _, _⟩) (v := ?_) rfl (by kernel_rfl) (by kernel_rfl) (by kernel_rfl) (by kernel_rfl) (by kernel_rfl) (fun _ _ _ h => h) (Or.inl ⟨by rfl, ?_⟩) (by assumption) ?_
              rotate_left
              · intro W hSw
                (try dsimp only at hSw)
                go_simp
                (try with_reducible rfl)
              (try simp only [Act.put, List.setIfInBounds_toArray, List.set_cons_zero, List.set_cons_succ])
              refine wpAnyZ_take (i := 3) (oi := ⟨_, _, _, _, _, _⟩) (v := ?_) rfl (by kernel_rfl) (by kernel_rfl) (by kernel_rfl) (by kernel_rfl) (by kernel_rfl) (fun _ _ _ h => h) (Or.inl ⟨by rfl, ?_⟩) (by assumption) ?_
              rotate_left
              · intro W hSw
                (try dsimp only at hSw)
                go_simp
                (try with_reducible rfl)
              (try simp only [Act.put, List.setIfInBounds_toArray, List.set_cons_zero, List.set_cons_succ])
              refine wpAnyZ_take (i := 4) (oi := ⟨_, _, _, _, _, _⟩) (v := ?_) rfl (by kernel_rfl) (by kernel_rfl) (by kernel_rfl) (by kernel_rfl) (by kernel_rfl) (fun _ _ _ h => h) (Or.inl ⟨by rfl, ?_⟩) (by assumption) ?_
              rotate_left
              · intro W hSw
                (try dsimp only at hSw)
                go_simp
                (try with_reducible rfl)
              (try simp only [Act.put, List.setIfInBounds_toArray, List.set_cons_zero, List.set_cons_succ])
              refine wpAnyZ_take (i := 5) (oi := ⟨_, _, _, _, _, _⟩) (v := ?_) rfl (by kernel_rfl) (by kernel_rfl) (by kernel_rfl) (by kernel_rfl) (by kernel_rfl) (fun _ _ _ h => h) (Or.inl ⟨by rfl, ?_⟩) (by assumption) ?_
              rotate_left
              · intro W hSw
                (try dsimp only at hSw)
                go_simp
                (try with_reducible rfl)
              (try simp only [Act.put, List.setIfInBounds_toArray, List.set_cons_zero, List.set_cons_succ])
              refine wpAnyZ_take (i := 6) (oi := ⟨_, _, _, _, _, _⟩) (v := ?_) rfl (by kernel_rfl) (by kernel_rfl) (by kernel_rfl) (by kernel_rfl) (by kernel_rfl) (fun _ _ _ h => h) (Or.inl ⟨by rfl, ?_⟩) (by assumption) ?_
              rotate_left
              · intro W hSw
                (try dsimp only at hSw)
                go_simp
                (try with_reducible rfl)
              (try simp only [Act.put, List.setIfInBounds_toArray, List.set_cons_zero, List.set_cons_succ])
              refine wpAnyZ_take (i := 7) (oi := ⟨_, _, _, _, _, _⟩) (v := ?_) rfl (by kernel_rfl) (by kernel_rfl) (by kernel_rfl) (by kernel_rfl) (by kernel_rfl) (fun _ _ _ h => h) (Or.inl ⟨by rfl, ?_⟩) (by assumption) ?_
              rotate_left
              · intro W hSw
                (try dsimp only at hSw)
                go_simp
                (try with_reducible rfl)
              (try simp only [Act.put, List.setIfInBounds_toArray, List.set_cons_zero, List.set_cons_succ])
              refine wpAnyZ_take (i := 8) (oi := ⟨_, _, _, _, _, _⟩) (v := ?_) rfl (by kernel_rfl) (by kernel_rfl) (by kernel_rfl) (by kernel_rfl) (by kernel_rfl) (fun _ _ _ h => h) (Or.inl ⟨by rfl, ?_⟩) (by assumption) ?_
              rotate_left
              · intro W hSw
                (try dsimp only at hSw)
                go_simp
                (try with_reducible rfl)
              (try simp only [Act.put, List.setIfInBounds_toArray, List.set_cons_zero, List.set_cons_succ])
              refine wpAnyZ_ready (rs := [9]) (by kernel_rfl) (by simp) ?_
              refine AllReadyZ.cons (o := ⟨_, _, _, _, _, _⟩) rfl (fun C hC => ?_) AllReadyZ.nil
              go_simp
              refine (prEnd_any u0 b0 b1 b2 b3 b4 b5 rd rn rc HM.out hrn lv HLV.out).mono ?_
              rintro e u1 ⟨rfl, hb2⟩
              have HU := Lib.hid (HU0.out.trans (hb2.mono HU0.out.size))
              clear hb2
              go_wp2_with fail
              have hHeld : (fun (W : World) => W.cell? ⟨K, 0, none⟩ = some (.int .i64 x.f) ∧ W.cell? ⟨K, 1, none⟩ = some (.int .i64 x.l) ∧ W.cell? ⟨K, 2, none⟩ = some (.int .i64 x.b) ∧ W.cell? ⟨B2, 0, none⟩ = some (.int .i64 b0) ∧ W.cell? ⟨B2, 1, none⟩ = some (.int .i64 b1) ∧ W.cell? ⟨B2, 2, none⟩ = some (.int .i64 b2) ∧ W.cell? ⟨B2, 3, none⟩ = some (.int .i64 b3) ∧ W.cell? ⟨B2, 4, none⟩ = some (.bool b4) ∧ W.cell? ⟨B2, 5, none⟩ = some (.int .i64 b5) ∧ W.cell? ⟨B2, 6, none⟩ = some (.slice rd rn rc) ∧ Below W1.heap.size W1 W) u1 := KS.out _ HU.out
              refine hC.out _ _ (fun _ => hHeld) (fun _ => ?_)
              clear hC C
              (try simp only [Act.put, List.setIfInBounds_toArray, List.set_cons_zero, List.set_cons_succ])
              refine wpAnyZ_take (i := 10) (oi := ⟨_, _, _, _, _, _⟩) (v := ?_) rfl (by kernel_rfl) (by kernel_rfl) (by kernel_rfl) (by kernel_rfl) (by kernel_rfl) (fun _ _ _ h => h) (Or.inl ⟨by rfl, ?_⟩) (by assumption) ?_
              rotate_left
              · intro W hSw
                (try dsimp only at hSw)
                go_simp
                (try with_reducible rfl)
              (try simp only [Act.put, List.setIfInBounds_toArray, List.set_cons_zero, List.set_cons_succ])
              refine wpAnyZ_take (i := 11) (oi := ⟨_, _, _, _, _, _⟩) (v := ?_) rfl (by kernel_rfl) (by kernel_rfl) (by kernel_rfl) (by kernel_rfl) (by kernel_rfl) (fun _ _ _ h => h) (Or.inl ⟨by rfl, ?_⟩) (by assumption) ?_
              rotate_left
              · intro W hSw
                (try dsimp only at hSw)
                go_simp
                (try with_reducible rfl)
              (try simp only [Act.put, List.setIfInBounds_toArray, List.set_cons_zero, List.set_cons_succ])
              refine wpAnyZ_done (by kernel_rfl) ?_ _
              refine NoPanic.normal ?_
              clear hHeld
              have HBU := Lib.hid (HB1.out.trans (HU.out.mono HB1.out.size))
              go_wp2
              go_roundw
              case rel => exact ⟨j + 1, by go_num, by omega, HNX.out, HBU.out⟩
              case measure => simp [intOf]; omega
          · have hd4 : (x.f == b3) = false := beq_false_of_ne hf
            have HNX : Hid (dupL (last.drop (j + 1)) b3 rn = r) := by
              show _ = _
              rw [← HD.out, HDR.out, dup_miss]
              unfold hitB
              rw [decide_eq_false hf, Bool.false_and]
            refine wp_region_noPanic ?_
            refine wp_region_z [] (fun (W : World) => W.cell? ⟨K, 0, none⟩ = some (.int .i64 x.f) ∧ W.cell? ⟨K, 1, none⟩ = some (.int .i64 x.l) ∧ W.cell? ⟨K, 2, none⟩ = some (.int .i64 x.b) ∧ W.cell? ⟨B2, 0, none⟩ = some (.int .i64 b0) ∧ W.cell? ⟨B2, 1, none⟩ = some (.int .i64 b1) ∧ W.cell? ⟨B2, 2, none⟩ = some (.int .i64 b2) ∧ W.cell? ⟨B2, 3, none⟩ = some (.int .i64 b3) ∧ W.cell? ⟨B2, 4, none⟩ = some (.bool b4) ∧ W.cell? ⟨B2, 5, none⟩ = some (.int .i64 b5) ∧ W.cell? ⟨B2, 6, none⟩ = some (.slice rd rn rc) ∧ Below W1.heap.size W1 W) (by kernel_rfl) ?_
            have hHeld : (fun (W : World) => W.cell? ⟨K, 0, none⟩ = some (.int .i64 x.f) ∧ W.cell? ⟨K, 1, none⟩ = some (.int .i64 x.l) ∧ W.cell? ⟨K, 2, none⟩ = some (.int .i64 x.b) ∧ W.cell? ⟨B2, 0, none⟩ = some (.int .i64 b0) ∧ W.cell? ⟨B2, 1, none⟩ = some (.int .i64 b1) ∧ W.cell? ⟨B2, 2, none⟩ = some (.int .i64 b2) ∧ W.cell? ⟨B2, 3, none⟩ = some (.int .i64 b3) ∧ W.cell? ⟨B2, 4, none⟩ = some (.bool b4) ∧ W.cell? ⟨B2, 5, none⟩ = some (.int .i64 b5) ∧ W.cell? ⟨B2, 6, none⟩ = some (.slice rd rn rc) ∧ Below W1.heap.size W1 W) _ := KS.out _ hb1d
            obtain ⟨u0, hu0⟩ : ∃ u, u = W1.drew := ⟨_, rfl⟩
            rw [← hu0] at hHeld hb1d
            rw [← hu0]
            clear hu0
            have HU := Lib.hid hb1d
            clear hb1d
            refine wpAnyZ_take (i := 0) (oi := ⟨_, _, _, _, _, _⟩) (v := ?_) rfl (by kernel_rfl) (by kernel_rfl) (by kernel_rfl) (by kernel_rfl) (by kernel_rfl) (fun _ _ _ h => h) (Or.inl ⟨by rfl, ?_⟩) (by assumption) ?_
            rotate_left
            · intro W hSw
              (try dsimp only at hSw)
              go_simp
              (try with_reducible rfl)
            (try simp only [Act.put, List.setIfInBounds_toArray, List.set_cons_zero, List.set_cons_succ])
            refine wpAnyZ_take (i := 1) (oi := ⟨_, _, _, _, _, _⟩) (v := ?_) rfl (by kernel_rfl) (by kernel_rfl) (by kernel_rfl) (by kernel_rfl) (by kernel_rfl) (fun _ _ _ h => h) (Or.inl ⟨by rfl, ?_⟩) (by assumption) ?_
            rotate_left
            · intro W hSw
              (try dsimp only at hSw)
              go_simp
              (try with_reducible rfl)
            (try simp only [Act.put, List.setIfInBounds_toArray, List.set_cons_zero, List.set_cons_succ])
            refine wpAnyZ_take (i := 2) (oi := ⟨_, _, _, _, _, _⟩) (v := ?_) rfl (by kernel_rfl) (by kernel_rfl) (by kernel_rfl) (by kernel_rfl) (by kernel_rfl) (fun _ _ _ h => h) (Or.inl ⟨by rfl, ?_⟩) (by assumption) ?_
            rotate_left
            · intro W hSw
              (try dsimp only at hSw)
              go_simp
              (try with_reducible rfl)
            (try simp only [Act.put, List.setIfInBounds_toArray, List.set_cons_zero, List.set_cons_succ])
            refine wpAnyZ_take (i := 3) (oi := ⟨_, _, _, _, _, _⟩) (v := ?_) rfl (by kernel_rfl) (by kernel_rfl) (by kernel_rfl) (by kernel_rfl) (by kernel_rfl) (fun _ _ _ h => h) (Or.inl ⟨by rfl, ?_⟩) (by assumption) ?_
            rotate_left
            · intro W hSw
              (try dsimp only at hSw)
              go_simp
              (try with_reducible rfl)
            (try simp only [Act.put, List.setIfInBounds_toArray, List.set_cons_zero, List.set_cons_succ])
            refine wpAnyZ_take (i := 4) (oi := ⟨_, _, _, _, _, _⟩) (v := ?_) rfl (by kernel_rfl) (by kernel_rfl) (by kernel_rfl) (by kernel_rfl) (by kernel_rfl) (fun _ _ _ h => h) (Or.inl ⟨by rfl, ?_⟩) (by assumption) ?_
            rotate_left
            · intro W hSw
              (try dsimp only at hSw)
              go_simp
              (try with_reducible rfl)
            (try simp only [Act.put, List.setIfInBounds_toArray, List.set_cons_zero, List.set_cons_succ])
            refine wpAnyZ_take (i := 5) (oi := ⟨_, _, _, _, _, _⟩) (v := ?_) rfl (by kernel_rfl) (by kernel_rfl) (by kernel_rfl) (by kernel_rfl) (by kernel_rfl) (fun _ _ _ h => h) (Or.inl ⟨by rfl, ?_⟩) (by assumption) ?_
            rotate_left
            · intro W hSw
              (try dsimp only at hSw)
              go_simp
              (try with_reducible rfl)
            (try simp only [Act.put, List.setIfInBounds_toArray, List.set_cons_zero, List.set_cons_succ])
            refine wpAnyZ_take (i := 6) (oi := ⟨_, _, _, _, _, _⟩) (v := undef) rfl (by kernel_rfl) (by kernel_rfl) (by kernel_rfl) (by kernel_rfl) (by kernel_rfl) (fun _ _ _ h => h) (Or.inr ⟨by rfl, rfl⟩) (by assumption) ?_
            (try simp only [Act.put, List.setIfInBounds_toArray, List.set_cons_zero, List.set_cons_succ])
            refine wpAnyZ_take (i := 7) (oi := ⟨_, _, _, _, _, _⟩) (v := undef) rfl (by kernel_rfl) (by kernel_rfl) (by kernel_rfl) (by kernel_rfl) (by kernel_rfl) (fun _ _ _ h => h) (Or.inr ⟨by rfl, rfl⟩) (by assumption) ?_
            (try simp only [Act.put, List.setIfInBounds_toArray, List.set_cons_zero, List.set_cons_succ])
            refine wpAnyZ_take (i := 8) (oi := ⟨_, _, _, _, _, _⟩) (v := undef) rfl (by kernel_rfl) (by kernel_rfl) (by kernel_rfl) (by kernel_rfl) (by kernel_rfl) (fun _ _ _ h => h) (Or.inr ⟨by rfl, rfl⟩) (by assumption) ?_
            (try simp only [Act.put, List.setIfInBounds_toArray, List.set_cons_zero, List.set_cons_succ])
            refine wpAnyZ_take (i := 9) (oi := ⟨_, _, _, _, _, _⟩) (v := undef) rfl (by kernel_rfl) (by kernel_rfl) (by kernel_rfl) (by kernel_rfl) (by kernel_rfl) (fun _ _ _ h => h) (Or.inr ⟨by rfl, rfl⟩) (by assumption) ?_
            (try simp only [Act.put, List.setIfInBounds_toArray, List.set_cons_zero, List.set_cons_succ])
            refine wpAnyZ_take (i := 10) (oi := ⟨_, _, _, _, _, _⟩) (v := undef) rfl (by kernel_rfl) (by kernel_rfl) (by kernel_rfl) (by kernel_rfl) (by kernel_rfl) (fun _ _ _ h => h) (Or.inr ⟨by rfl, rfl⟩) (by assumption) ?_
            (try simp only [Act.put, List.setIfInBounds_toArray, List.set_cons_zero, List.set_cons_succ])
            refine wpAnyZ_take (i := 11) (oi := ⟨_, _, _, _, _, _⟩) (v := ?_) rfl (by kernel_rfl) (by kernel_rfl) (by kernel_rfl) (by kernel_rfl) (by kernel_rfl) (fun _ _ _ h => h) (Or.inl ⟨by rfl, ?_⟩) (by assumption) ?_
            rotate_left
            · intro W hSw
              (try dsimp only at hSw)
              go_simp
              (try with_reducible rfl)
            (try simp only [Act.put, List.setIfInBounds_toArray, List.set_cons_zero, List.set_cons_succ])
            refine wpAnyZ_done (by kernel_rfl) ?_ _
            refine NoPanic.normal ?_
            clear hHeld
            have HBU := Lib.hid (HB1.out.trans (HU.out.mono HB1.out.size))
            go_wp2
            go_roundw
            case rel => exact ⟨j + 1, by go_num, by omega, HNX.out, HBU.out⟩
            case measure => simp [intOf]; omega
        · have hd3 : decide (j < n) = false := decide_eq_false hlt
          have hln := HL0.out.length
          have HEND : Hid (r = none) := by show r = none; rw [← HD.out, List.drop_of_length_le (by omega), dup_none]
          clear hln
          go_wp2
          go_ret2
          exact gives_dup_none HEND.out (HB0.out.trans (HB.out.mono HB0.out.size))
    · have hd2 : (b2 == ep) = false := beq_false_of_ne he
      have hd2n : (b2 != ep) = true := by unfold bne; rw [hd2]; rfl
      have HEND : Hid (r = none) := by show r = none; rw [← HR.out, if_neg (fun h => he h.1)]
      clear HR
      go_wp2
      go_ret2
      exact gives_dup_none HEND.out HB0.out
  · have hd1 : (b5 == 0) = false := beq_false_of_ne hm
    have hd1n : (b5 != 0) = true := by unfold bne; rw [hd1]; rfl
    have HEND : Hid (r = none) := by show r = none; rw [← HR.out, if_neg (fun h => hm h.2)]
    clear HR
    go_wp2
    go_ret2
    exact gives_dup_none HEND.out HB0.out
end Go.Proofs.YtmnjobiipfgpoaaGreat
