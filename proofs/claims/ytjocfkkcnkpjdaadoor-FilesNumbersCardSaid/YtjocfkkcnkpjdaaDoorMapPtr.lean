/- Maps from texts to pointers, in memory: a list of pairs says what is in one; look-up, store, delete, len, and a range over one, whose round may make memory. -/
import Derived.Test.YtjocfkkcnkpjdaaDoorGrow
import Derived.Maps.RangeRun
import Derived.Maps.RangeWalk
namespace Go.Proofs.YtjocfkkcnkpjdaaDoor
open Go.RowKit
open Go.ChangeMaps (setBlock)
set_option linter.unusedVariables false

/-- A pair as a map has it: a name, a block. -/
def ptrV (k : Nat) : Value := .pointer (some ⟨k, 0, none⟩)
def pairV (p : ByteArray × Nat) : Value × Value := (.string p.1, ptrV p.2)
def entryV (e : MapEntry) : Value × Value := (e.key, e.val)
theorem pairV_inj {p q : ByteArray × Nat} (h : pairV p = pairV q) : p = q := by
  obtain ⟨a, b⟩ := p
  obtain ⟨c, d⟩ := q
  simp only [pairV, ptrV, Prod.mk.injEq, Value.string.injEq, Value.pointer.injEq, Option.some.injEq, Addr.mk.injEq, and_true] at h
  rw [h.1, h.2]
/-- Block km is a map of these pairs. -/
def MapOf (w : World) (km : Nat) (ps : List (ByteArray × Nat)) : Prop :=
  ∃ es clock, w.heap[km]? = some (.map es clock) ∧ MapKept.Stamped es clock ∧ (es.toList.map entryV).Perm (ps.map pairV) ∧ ∀ p ∈ ps, p.1.size ≤ maxLen
section
variable {w w' : World} {km : Nat} {ps : List (ByteArray × Nat)}
theorem MapOf.lt (h : MapOf w km ps) : km < w.heap.size := by
  obtain ⟨es, clock, hb, _⟩ := h
  exact (Array.getElem?_eq_some_iff.1 hb).1
theorem MapOf.same (h : MapOf w km ps) (he : w'.heap[km]? = w.heap[km]?) : MapOf w' km ps := by
  obtain ⟨es, clock, hb, r⟩ := h
  exact ⟨es, clock, he.trans hb, r⟩
theorem MapOf.on (h : MapOf w km ps) (hb : Below w.heap.size w w') : MapOf w' km ps := h.same (hb.block km h.lt)
theorem MapOf.grown {r : Option Nat} (h : MapOf w km ps) (hg : w.grownBy w' r) (hr : r ≠ some km) : MapOf w' km ps := h.same (hg.block km h.lt fun e => hr e.symm)
theorem MapOf.perm {qs : List (ByteArray × Nat)} (h : MapOf w km ps) (hp : ps.Perm qs) : MapOf w km qs := by
  obtain ⟨es, clock, hb, hs, hq, hn⟩ := h
  exact ⟨es, clock, hb, hs, hq.trans (hp.map _), fun p h => hn p (hp.mem_iff.2 h)⟩
theorem mapOf_new (w : World) : MapOf (w.alloc (.map #[] 0)) w.heap.size [] := ⟨#[], 0, heap_alloc_new w _, MapKept.stamped_empty 0, List.Perm.refl _, fun p h => by cases h⟩
theorem key_str {P : Program} {t : TypeId} (ht : P.underlying t = some .string) {s : ByteArray} (hs : s.size ≤ maxLen) : keyOf P t (.string s) = some (.string s.data.toList) := by
  simp [keyOf, ht, mapKey, hs]
theorem MapOf.names (h : MapOf w km ps) : (ps.map (·.1)).Nodup := by
  obtain ⟨es, clock, hb, hs, hq, hn⟩ := h
  have h3 := ((MapKept.stamped_iff es clock).1 hs).2.2
  have h4 : (es.toList.map entryV).Pairwise (fun a b => a.1 ≠ b.1) := by rw [List.pairwise_map]; exact h3
  have h5 : (ps.map pairV).Pairwise (fun a b => a.1 ≠ b.1) := (hq.pairwise_iff (fun {_ _} h => Ne.symm h)).1 h4
  rw [List.pairwise_map] at h5
  unfold List.Nodup
  rw [List.pairwise_map]
  refine h5.imp ?_
  intro a b hab e
  exact hab (by show Value.string a.1 = Value.string b.1; rw [e])
theorem MapOf.size (h : MapOf w km ps) : ∃ es clock, w.heap[km]? = some (.map es clock) ∧ es.size = ps.length := by
  obtain ⟨es, clock, hb, hs, hq, hn⟩ := h
  refine ⟨es, clock, hb, ?_⟩
  have := hq.length_eq
  simpa using this
theorem MapOf.one (h : MapOf w km ps) {p q : ByteArray × Nat} (hp : p ∈ ps) (hq : q ∈ ps) (e : p.1 = q.1) : p = q := by
  have hn := h.names
  obtain ⟨i, hi⟩ := List.getElem?_of_mem hp
  obtain ⟨j, hj⟩ := List.getElem?_of_mem hq
  have hi' : (ps.map (·.1))[i]? = some p.1 := by rw [List.getElem?_map, hi]; rfl
  have hj' : (ps.map (·.1))[j]? = some p.1 := by rw [List.getElem?_map, hj, e]; rfl
  have hil : i < (ps.map (·.1)).length := (List.getElem?_eq_some_iff.1 hi').1
  have := (List.getElem?_inj (i := i) (j := j) hil hn).1 (hi'.trans hj'.symm)
  subst this
  exact Option.some.inj (hi.symm.trans hj)
theorem perm_set {α : Type} : ∀ (l : List α) (j : Nat) (x y : α), l[j]? = some x → (l.set j y).Perm (y :: l.eraseIdx j) ∧ l.Perm (x :: l.eraseIdx j)
  | [], j, x, y, h => by cases j <;> cases h
  | a :: l, 0, x, y, h => by cases h; exact ⟨List.Perm.refl _, List.Perm.refl _⟩
  | a :: l, j + 1, x, y, h => by
    obtain ⟨h1, h2⟩ := perm_set l j x y h
    exact ⟨(h1.cons a).trans (List.Perm.swap _ _ _), (h2.cons a).trans (List.Perm.swap _ _ _)⟩
theorem filter_names {ps : List (ByteArray × Nat)} {n : ByteArray} (h : ∀ p ∈ ps, p.1 ≠ n) : ps.filter (fun p => decide (p.1 ≠ n)) = ps := List.filter_eq_self.2 fun p hp => decide_eq_true (h p hp)
theorem filter_one {ps : List (ByteArray × Nat)} {n : ByteArray} {c : Nat} (hn : (ps.map (·.1)).Nodup) (hm : (n, c) ∈ ps) : ps.Perm ((n, c) :: ps.filter (fun p => decide (p.1 ≠ n))) := by
  induction ps with
  | nil => cases hm
  | cons a ps ih =>
    rw [List.map_cons, List.nodup_cons] at hn
    rcases List.mem_cons.1 hm with rfl | hm
    · rw [List.filter_cons_of_neg (by simp), filter_names (fun p hp e => hn.1 (List.mem_map.2 ⟨p, hp, e⟩))]
    · have hne : a.1 ≠ n := fun e => hn.1 (List.mem_map.2 ⟨_, hm, e.symm⟩)
      rw [List.filter_cons_of_pos (by simpa using hne)]
      exact ((ih hn.2 hm).cons a).trans (List.Perm.swap _ _ _)
section
variable {P : Program} {t k e : TypeId} (ht : P.underlying t = some (.map k e)) (hk : P.underlying k = some .string)
include hk in
theorem map_find (h : MapOf w km ps) (n : ByteArray) (hn : n.size ≤ maxLen) : ∃ es clock, w.heap[km]? = some (.map es clock) ∧ MapKept.Stamped es clock ∧ (es.toList.map entryV).Perm (ps.map pairV) ∧
    (((Instr.findKey k (.string n) es.toList).run P w = .ok none w ∧ (∀ e ∈ es.toList, e.key ≠ .string n) ∧ ∀ p ∈ ps, p.1 ≠ n) ∨
     ∃ j e0 c, (Instr.findKey k (.string n) es.toList).run P w = .ok (some (j, ptrV c)) w ∧ es.toList[j]? = some e0 ∧ e0.key = .string n ∧ e0.val = ptrV c ∧ (n, c) ∈ ps) := by
  obtain ⟨es, clock, hb, hs, hq, hz⟩ := h
  refine ⟨es, clock, hb, hs, hq, ?_⟩
  have hes : ∀ x ∈ es.toList, ∃ p ∈ ps, x.key = .string p.1 ∧ x.val = ptrV p.2 := fun x hx => by
    obtain ⟨p, hp, e⟩ := List.mem_map.1 (hq.mem_iff.1 (List.mem_map.2 ⟨x, hx, rfl⟩))
    simp only [pairV, entryV, Prod.mk.injEq] at e
    exact ⟨p, hp, e.1.symm, e.2.symm⟩
  rcases (Maps.string_keyed hk).find w (key_str hk hn) es.toList (fun x hx => by
    obtain ⟨p, hp, e, _⟩ := hes x hx
    exact ⟨_, by rw [e]; exact key_str hk (hz p hp)⟩) with ⟨h1, h2⟩ | ⟨j, e0, h1, h2, h3⟩
  · refine .inl ⟨h1, h2, fun p hp en => ?_⟩
    obtain ⟨x, hx, e⟩ := List.mem_map.1 (hq.mem_iff.2 (List.mem_map.2 ⟨p, hp, rfl⟩))
    simp only [pairV, entryV, Prod.mk.injEq] at e
    exact h2 x hx (by rw [e.1, en])
  · obtain ⟨p, hp, e1, e2⟩ := hes e0 (List.mem_of_getElem? h2)
    rw [h3] at e1
    simp only [Value.string.injEq] at e1
    refine .inr ⟨j, e0, p.2, by rw [← e2]; exact h1, h2, h3, e2, ?_⟩
    rw [e1]
    exact hp
include ht hk
theorem map_none (h : MapOf w km ps) (n : ByteArray) (hn : n.size ≤ maxLen) (h0 : ∀ p ∈ ps, p.1 ≠ n) (hz : (zeroValue e).run P w = .ok (.pointer none) w) : (Instr.lookup t (.map (some km)) (.string n) false).run P w = .ok (.pointer none) w := by
  obtain ⟨es, clock, hb, hs, hq, h1⟩ := map_find hk h n hn
  rcases h1 with ⟨h1, _, _⟩ | ⟨j, e0, c, _, _, _, _, hm⟩
  · simp [Instr.lookup, run_underlying ht, MapKept.run_getObj_map hb, (Maps.string_keyed hk).check w _ (key_str hk hn), h1, hz, Result.andThen]
  · exact absurd rfl (h0 _ hm)
theorem map_some (h : MapOf w km ps) (n : ByteArray) (hn : n.size ≤ maxLen) (c : Nat) (hm : (n, c) ∈ ps) : (Instr.lookup t (.map (some km)) (.string n) false).run P w = .ok (ptrV c) w := by
  obtain ⟨es, clock, hb, hs, hq, h1⟩ := map_find hk h n hn
  rcases h1 with ⟨_, _, h2⟩ | ⟨j, e0, c', h1, _, _, _, hm'⟩
  · exact absurd rfl (h2 _ hm)
  · have e := h.one hm hm' rfl
    simp only [Prod.mk.injEq, true_and] at e
    subst e
    simp [Instr.lookup, run_underlying ht, MapKept.run_getObj_map hb, (Maps.string_keyed hk).check w _ (key_str hk hn), h1, Result.andThen]
/-- 'm[n] = c'. -/
theorem map_store (h : MapOf w km ps) (n : ByteArray) (hn : n.size ≤ maxLen) (c : Nat) (hl : ps.length ≤ 1000000) : ∃ w', (Instr.mapUpdate t (.map (some km)) (.string n) (ptrV c)).run P w = .ok () w' ∧ MapOf w' km ((n, c) :: ps.filter (fun p => decide (p.1 ≠ n))) ∧ w.grownBy w' (some km) ∧ w'.heap.size = w.heap.size := by
  have hnm := h.names
  have hz : ∀ p ∈ ps, p.1.size ≤ maxLen := by obtain ⟨_, _, _, _, _, hz⟩ := h; exact hz
  obtain ⟨es, clock, hb, hs, hq, h1⟩ := map_find hk h n hn
  have hz' : ∀ p ∈ (n, c) :: ps.filter (fun p => decide (p.1 ≠ n)), p.1.size ≤ maxLen := fun p hp => by
    rcases List.mem_cons.1 hp with rfl | hp
    · exact hn
    · exact hz p (List.mem_filter.1 hp).1
  have hgr : ∀ o', w.grownBy (setBlock w km o') (some km) := fun o' => ⟨rfl, rfl, rfl, by simp [setBlock], fun i _ hi => ChangeMaps.heap_setBlock_other hb _ (fun e => hi (by rw [e]))⟩
  rcases h1 with ⟨h1, h2, h0⟩ | ⟨j, e0, c', h1, h2, h3, h4, hm⟩
  · refine ⟨setBlock w km (.map (es.push ⟨.string n, ptrV c, clock⟩) (clock + 1)), ?_, ⟨_, _, ChangeMaps.heap_setBlock_same hb _, MapKept.stamped_push hs h2, ?_, hz'⟩, hgr _, by simp [setBlock]⟩
    · simp [Instr.mapUpdate, run_underlying ht, MapKept.run_getObj_map hb, (Maps.string_keyed hk).check w false (key_str hk hn), h1, MapKept.run_setObj_map _ hb, Result.andThen, setBlock]
    · rw [filter_names h0, Array.toList_push, List.map_append, List.map_cons]
      exact (List.perm_append_singleton _ _).trans (hq.cons _)
  · have hj : es[j]? = some e0 := by simpa using h2
    have hst := (MapKept.stamped_iff es clock).1 hs
    have hkeyf : ∀ e', es[j]? = some e' → ({ e' with key := .string n, val := ptrV c } : MapEntry).key = e'.key := fun e' he' => by rw [hj] at he'; cases he'; exact h3.symm
    have hlist : (es.modify j (fun e' => { e' with key := .string n, val := ptrV c })).toList = es.toList.set j { e0 with key := .string n, val := ptrV c } := by rw [Array.toList_modify, ChangeMaps.modify_eq_set _ _ _ _ h2]
    refine ⟨setBlock w km (.map (es.modify j (fun e' => { e' with key := .string n, val := ptrV c })) clock), ?_, ⟨_, _, ChangeMaps.heap_setBlock_same hb _, MapKept.stamped_modify hs _ _ (fun _ _ => rfl) (fun e' _ he' => hkeyf e' he'), ?_, hz'⟩, hgr _, by simp [setBlock]⟩
    · simp [Instr.mapUpdate, run_underlying ht, MapKept.run_getObj_map hb, (Maps.string_keyed hk).check w false (key_str hk hn), h1, hj, h3, (Maps.string_keyed hk).stays w (key_str hk hn), MapKept.run_setObj_map _ hb, Result.andThen, setBlock]
    · have q2 := filter_one hnm hm
      obtain ⟨s1, s2⟩ := perm_set es.toList j e0 { e0 with key := .string n, val := ptrV c } h2
      have e1 : entryV e0 = pairV (n, c') := by simp only [entryV, pairV, h3, h4]
      have q3 : ((es.toList.eraseIdx j).map entryV).Perm ((ps.filter (fun p => decide (p.1 ≠ n))).map pairV) := by
        have a1 := (s2.map entryV).symm.trans (hq.trans (q2.map pairV))
        rw [List.map_cons, List.map_cons, e1] at a1
        exact a1.cons_inv
      rw [hlist]
      refine (s1.map entryV).trans ?_
      rw [List.map_cons, List.map_cons]
      exact q3.cons _
/-- 'delete(m, n)'. -/
theorem map_drop (h : MapOf w km ps) (n : ByteArray) (hn : n.size ≤ maxLen) (ty : TypeId) : ∃ w', (Builtin.delete_ #[t, k] ty #[.map (some km), .string n]).run P w = .ok (.tuple #[]) w' ∧ MapOf w' km (ps.filter (fun p => decide (p.1 ≠ n))) ∧ w.grownBy w' (some km) ∧ w'.heap.size = w.heap.size := by
  have hnm := h.names
  have hz : ∀ p ∈ ps, p.1.size ≤ maxLen := by obtain ⟨_, _, _, _, _, hz⟩ := h; exact hz
  obtain ⟨es, clock, hb, hs, hq, h1⟩ := map_find hk h n hn
  have hz' : ∀ p ∈ ps.filter (fun p => decide (p.1 ≠ n)), p.1.size ≤ maxLen := fun p hp => hz p (List.mem_filter.1 hp).1
  have hgr : ∀ o', w.grownBy (setBlock w km o') (some km) := fun o' => ⟨rfl, rfl, rfl, by simp [setBlock], fun i _ hi => ChangeMaps.heap_setBlock_other hb _ (fun e => hi (by rw [e]))⟩
  rcases h1 with ⟨h1, h2, h0⟩ | ⟨j, e0, c', h1, h2, h3, h4, hm⟩
  · refine ⟨setBlock w km (.map es clock), ?_, ⟨_, _, ChangeMaps.heap_setBlock_same hb _, hs, ?_, hz'⟩, hgr _, by simp [setBlock]⟩
    · simp [Builtin.delete_, run_underlying ht, MapKept.run_getObj_map hb, (Maps.string_keyed hk).check w _ (key_str hk hn), h1, MapKept.run_setObj_map _ hb, Result.andThen, setBlock]
    · rw [filter_names h0]; exact hq
  · have hjl : j < es.toList.length := (List.getElem?_eq_some_iff.1 h2).1
    have hjs : j < es.size := by simpa using hjl
    have hsub : (es.eraseIdxIfInBounds j).toList = es.toList.eraseIdx j := by
      unfold Array.eraseIdxIfInBounds
      rw [dif_pos hjs]
      simp
    refine ⟨setBlock w km (.map (es.eraseIdxIfInBounds j) clock), ?_, ⟨_, _, ChangeMaps.heap_setBlock_same hb _, MapKept.stamped_erase hs j, ?_, hz'⟩, hgr _, by simp [setBlock]⟩
    · simp [Builtin.delete_, run_underlying ht, MapKept.run_getObj_map hb, (Maps.string_keyed hk).check w _ (key_str hk hn), h1, MapKept.run_setObj_map _ hb, Result.andThen, setBlock]
    · have q2 := filter_one hnm hm
      obtain ⟨_, s2⟩ := perm_set es.toList j e0 e0 h2
      have e1 : entryV e0 = pairV (n, c') := by simp only [entryV, pairV, h3, h4]
      have a1 := (s2.map entryV).symm.trans (hq.trans (q2.map pairV))
      rw [List.map_cons, List.map_cons, e1] at a1
      rw [hsub]
      exact a1.cons_inv
end
/-- 'for .. range m' under way: block km is the map, block r the iterator; 'left' has not come yet. -/
def Ranging (w : World) (km r : Nat) (ps left : List (ByteArray × Nat)) : Prop :=
  ∃ es clock since seen c0, w.heap[km]? = some (.map es clock) ∧ MapKept.Stamped es clock ∧ (es.toList.map entryV).Perm (ps.map pairV) ∧ (∀ p ∈ ps, p.1.size ≤ maxLen) ∧
    w.heap[r]? = some (.mapIter (some km) since seen c0) ∧ (∀ x ∈ es.toList, x.born < since) ∧ since ≤ c0 ∧ since ≤ clock ∧ ((leftOf es seen).toList.map entryV).Perm (left.map pairV)
theorem Ranging.map {r : Nat} {left : List (ByteArray × Nat)} (h : Ranging w km r ps left) : MapOf w km ps := by
  obtain ⟨es, clock, since, seen, c0, hb, hs, hq, hz, _⟩ := h
  exact ⟨es, clock, hb, hs, hq, hz⟩
theorem Ranging.lt {r : Nat} {left : List (ByteArray × Nat)} (h : Ranging w km r ps left) : r < w.heap.size := by
  obtain ⟨es, clock, since, seen, c0, hb, hs, hq, hz, hr, _⟩ := h
  exact (Array.getElem?_eq_some_iff.1 hr).1
theorem Ranging.same {r : Nat} {left : List (ByteArray × Nat)} (h : Ranging w km r ps left) (h1 : w'.heap[km]? = w.heap[km]?) (h2 : w'.heap[r]? = w.heap[r]?) : Ranging w' km r ps left := by
  obtain ⟨es, clock, since, seen, c0, hb, hs, hq, hz, hr, rest⟩ := h
  exact ⟨es, clock, since, seen, c0, h1.trans hb, hs, hq, hz, h2.trans hr, rest⟩
theorem Ranging.on {r : Nat} {left : List (ByteArray × Nat)} (h : Ranging w km r ps left) (hb : Below w.heap.size w w') : Ranging w' km r ps left := h.same (hb.block km h.map.lt) (hb.block r h.lt)
theorem Ranging.ne {r : Nat} {left : List (ByteArray × Nat)} (h : Ranging w km r ps left) : r ≠ km := by
  obtain ⟨es, clock, since, seen, c0, hb, hs, hq, hz, hr, _⟩ := h
  intro e
  rw [e, hb] at hr
  cases hr
theorem left_all (es : Array MapEntry) : leftOf es #[] = es := by
  unfold leftOf
  exact Array.filter_eq_self.2 fun x hx => by simp
theorem map_range {P : Program} {t k e : TypeId} (ht : P.underlying t = some (.map k e)) (h : MapOf w km ps) : ∃ w', (Instr.range t (.map (some km))).run P w = .ok (ptrV w.heap.size) w' ∧ Ranging w' km w.heap.size ps ps ∧ Below w.heap.size w w' ∧ w'.heap.size = w.heap.size + 1 := by
  have hlt := h.lt
  obtain ⟨es, clock, hb, hs, hq, hz⟩ := h
  refine ⟨_, run_range_map w t k e km es clock ht hb, ⟨es, clock, clock, #[], clock, (heap_alloc_old w _ hlt).trans hb, hs, hq, hz, heap_alloc_new w _, hs.1, Nat.le_refl _, Nat.le_refl _, ?_⟩, (Below.refl _ w).alloc (Nat.le_refl _) _, by simp⟩
  rw [left_all]
  exact hq
theorem nodup_split (e : MapEntry) : ∀ (l : List MapEntry), (l.map (·.born)).Nodup → e ∈ l → l.Perm (e :: l.filter fun x => !(x.born == e.born))
  | x :: l, hn, he => by
    rw [List.map_cons, List.nodup_cons] at hn
    rcases List.mem_cons.1 he with rfl | h
    · rw [List.filter_cons_of_neg (by simp), List.filter_eq_self.2 fun y hy => by
        have : y.born ≠ e.born := fun e1 => hn.1 (by rw [← e1]; exact List.mem_map.2 ⟨y, hy, rfl⟩)
        simp [this]]
    · have hne : x.born ≠ e.born := fun e1 => hn.1 (by rw [e1]; exact List.mem_map.2 ⟨e, h, rfl⟩)
      rw [List.filter_cons_of_pos (by simp [hne])]
      exact ((nodup_split e l hn.2 h).cons x).trans (List.Perm.swap _ _ _)
theorem left_push (es : Array MapEntry) (seen : Array Nat) (b : Nat) : (leftOf es (seen.push b)).toList = (leftOf es seen).toList.filter fun x => !(x.born == b) := by
  unfold leftOf
  rw [Array.toList_filter, Array.toList_filter, List.filter_filter]
  refine List.filter_congr fun x _ => ?_
  rw [contains_push]
  cases seen.contains x.born <;> cases (x.born == b) <;> rfl
/-- The step. -/
theorem map_next {P : Program} {r : Nat} {left : List (ByteArray × Nat)} (h : Ranging w km r ps left) (ty : TypeId) :
    (left = [] ∧ (Instr.next (ptrV r) false ty).run P w = .ok (.tuple #[.bool false]) w) ∨
    ∃ (p : ByteArray × Nat) (left' : List (ByteArray × Nat)) (w' : World), left.Perm (p :: left') ∧ p ∈ ps ∧ (Instr.next (ptrV r) false ty).run P w = .ok (.tuple #[.bool true, .string p.1, ptrV p.2]) w' ∧
      Ranging w' km r ps left' ∧ w.grownBy w' (some r) ∧ w'.heap.size = w.heap.size ∧ (Instr.entry (ptrV r)).run P w' = .ok (.tuple #[.string p.1, ptrV p.2]) w' := by
  have hne := h.ne
  obtain ⟨es, clock, since, seen, c0, hb, hs, hq, hz, hr, hold, hsc, hsk, hl⟩ := h
  have hst := (MapKept.stamped_iff es clock).1 hs
  rcases run_next_at (P := P) w ty r km since c0 seen es clock hr hb hold hsc with ⟨h0, hrun⟩ | ⟨e, he, w1, hal, hrun⟩
  · left
    refine ⟨?_, hrun⟩
    have := hl.length_eq
    rw [List.length_map, List.length_map, Array.length_toList, h0] at this
    exact List.eq_nil_of_length_eq_zero this.symm
  · right
    obtain ⟨hem, _⟩ := mem_left he
    obtain ⟨p, hp, e1⟩ := List.mem_map.1 (hl.mem_iff.1 (List.mem_map.2 ⟨e, he, rfl⟩))
    obtain ⟨q, hqm, e2⟩ := List.mem_map.1 (hq.mem_iff.1 (List.mem_map.2 ⟨e, hem, rfl⟩))
    have hpq : p = q := pairV_inj (e1.trans e2.symm)
    subst hpq
    obtain ⟨l1, l2, rfl⟩ := List.append_of_mem hp
    have hsplit : (l1 ++ p :: l2).Perm (p :: (l1 ++ l2)) := List.perm_middle
    have ek : e.key = .string p.1 := (congrArg Prod.fst e1).symm
    have ev : e.val = ptrV p.2 := (congrArg Prod.snd e1).symm
    have hr1 : w1.heap[r]? = some (.mapIter (some km) since seen c0) := by rcases hal with rfl | rfl <;> exact hr
    have hb1 : w1.heap[km]? = some (.map es clock) := by rcases hal with rfl | rfl <;> exact hb
    have hset := MapKept.heap_set (o' := .mapIter (some km) since (seen.push e.born) clock) hr1
    have hb' : (setBlock w1 r (.mapIter (some km) since (seen.push e.born) clock)).heap[km]? = some (.map es clock) := (hset.2 km (fun e1 => hne e1.symm)).trans hb1
    refine ⟨p, l1 ++ l2, setBlock w1 r (.mapIter (some km) since (seen.push e.born) clock), hsplit, hqm, by rw [← ek, ← ev]; exact hrun, ⟨es, clock, since, seen.push e.born, clock, hb', hs, hq, hz, hset.1, hold, hsk, hsk, ?_⟩, ?_, ?_, ?_⟩
    · rw [left_push]
      have hnd : ((leftOf es seen).toList.map (·.born)).Nodup := by
        unfold leftOf
        rw [Array.toList_filter]
        exact hst.2.1.sublist (List.filter_sublist.map _)
      have a1 := ((nodup_split e _ hnd he).map entryV).symm.trans (hl.trans (hsplit.map pairV))
      rw [List.map_cons, List.map_cons, e1] at a1
      exact a1.cons_inv
    · rcases hal with rfl | rfl <;> exact ⟨rfl, rfl, rfl, by simp [setBlock], fun i _ hi => hset.2 i (fun e1 => hi (by rw [e1]))⟩
    · rcases hal with rfl | rfl <;> simp [setBlock]
    · have := run_entry_at (P := P) _ r km since seen es clock e hset.1 hb' hem hst.2.1
      rw [ek, ev] at this
      exact this
/-- How many are still to come, read off the world. -/
theorem Ranging.count {r : Nat} {left : List (ByteArray × Nat)} (h : Ranging w km r ps left) : w.rangeLeft km r = left.length := by
  obtain ⟨es, clock, since, seen, c0, hb, hs, hq, hz, hr, hold, hsc, hsk, hl⟩ := h
  have := hl.length_eq
  rw [List.length_map, List.length_map, Array.length_toList] at this
  simp only [World.rangeLeft, hb, hr]
  exact this
end
end Go.Proofs.YtjocfkkcnkpjdaaDoor
