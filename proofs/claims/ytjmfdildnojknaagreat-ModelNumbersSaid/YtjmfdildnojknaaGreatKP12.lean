/- Parts of a proof. -/
import Derived.Maps.RangeRun
import Derived.Maps.RangeWalk
import Derived.Maps.Keyed
import Derived.Lib.SliceRun
import Derived.Test.YtjmfdildnojknaaGreatKP9
set_option maxRecDepth 100000
set_option maxHeartbeats 16000000
set_option linter.unusedVariables false
namespace Go.Proofs.YtjmfdildnojknaaGreat
open Go.RowKit
open Go.ChangeMaps (setBlock)
open Go.Maps (Keyed)
def entryP (e : MapEntry) : Value × Value := (e.key, e.val)
def MapAs {α : Type} (P : Program) (k : TypeId) (f : α → Value × Value) (w : World) (km : Nat) (ps : List α) : Prop :=
 ∃ es clock, w.heap[km]? = some (.map es clock) ∧ MapKept.Stamped es clock ∧ (es.toList.map entryP).Perm (ps.map f) ∧ ∀ p ∈ ps, ∃ l, keyOf P k (f p).1 = some l
section
variable {α : Type} {P : Program} {k : TypeId} {f : α → Value × Value} {w w' : World} {km : Nat} {ps : List α}
theorem MapAs.lt (h : MapAs P k f w km ps) : km < w.heap.size := by
 obtain ⟨es, clock, hb, _⟩ := h
 exact (Array.getElem?_eq_some_iff.1 hb).1
theorem MapAs.same (h : MapAs P k f w km ps) (he : w'.heap[km]? = w.heap[km]?) : MapAs P k f w' km ps := by
 obtain ⟨es, clock, hb, r⟩ := h
 exact ⟨es, clock, he.trans hb, r⟩
theorem MapAs.on (h : MapAs P k f w km ps) (hb : Below w.heap.size w w') : MapAs P k f w' km ps := h.same (hb.block km h.lt)
theorem MapAs.perm {qs : List α} (h : MapAs P k f w km ps) (hp : ps.Perm qs) : MapAs P k f w km qs := by
 obtain ⟨es, clock, hb, hs, hq, hn⟩ := h
 exact ⟨es, clock, hb, hs, hq.trans (hp.map _), fun p h => hn p (hp.mem_iff.2 h)⟩
theorem mapAs_new (P : Program) (k : TypeId) (f : α → Value × Value) (w : World) : MapAs P k f (w.alloc (.map #[] 0)) w.heap.size ([] : List α) := ⟨#[], 0, heap_alloc_new w _, MapKept.stamped_empty 0, List.Perm.refl _, fun p h => by cases h⟩
theorem MapAs.keys (h : MapAs P k f w km ps) : (ps.map fun p => (f p).1).Pairwise (· ≠ ·) := by
 obtain ⟨es, clock, hb, hs, hq, hn⟩ := h
 have h3 := ((MapKept.stamped_iff es clock).1 hs).2.2
 have h4 : (es.toList.map entryP).Pairwise (fun a b => a.1 ≠ b.1) := by rw [List.pairwise_map]; exact h3
 have h5 : (ps.map f).Pairwise (fun a b => a.1 ≠ b.1) := (hq.pairwise_iff (fun {_ _} h => Ne.symm h)).1 h4
 rw [List.pairwise_map] at h5 ⊢
 exact h5
theorem MapAs.one (h : MapAs P k f w km ps) {p q : α} (hp : p ∈ ps) (hq : q ∈ ps) (e : (f p).1 = (f q).1) : p = q := by
 have hn := h.keys
 obtain ⟨i, hi⟩ := List.getElem?_of_mem hp
 obtain ⟨j, hj⟩ := List.getElem?_of_mem hq
 have hi' : (ps.map fun p => (f p).1)[i]? = some (f p).1 := by rw [List.getElem?_map, hi]; rfl
 have hj' : (ps.map fun p => (f p).1)[j]? = some (f p).1 := by rw [List.getElem?_map, hj, e]; rfl
 have hil : i < (ps.map fun p => (f p).1).length := (List.getElem?_eq_some_iff.1 hi').1
 have := (List.getElem?_inj (i := i) (j := j) hil hn).1 (hi'.trans hj'.symm)
 subst this
 exact Option.some.inj (hi.symm.trans hj)
theorem permAs_set {α : Type} : ∀ (l : List α) (j : Nat) (x y : α), l[j]? = some x → (l.set j y).Perm (y :: l.eraseIdx j) ∧ l.Perm (x :: l.eraseIdx j)
 | [], j, x, y, h => by cases j <;> cases h
 | a :: l, 0, x, y, h => by cases h; exact ⟨List.Perm.refl _, List.Perm.refl _⟩
 | a :: l, j + 1, x, y, h => by
   obtain ⟨h1, h2⟩ := permAs_set l j x y h
   exact ⟨(h1.cons a).trans (List.Perm.swap _ _ _), (h2.cons a).trans (List.Perm.swap _ _ _)⟩
section
variable {t e : TypeId} (ht : P.underlying t = some (.map k e)) (K : Keyed P k)
include K in
theorem mapAs_find (h : MapAs P k f w km ps) (key : Value) (hk : ∃ l, keyOf P k key = some l) : ∃ es clock, w.heap[km]? = some (.map es clock) ∧ MapKept.Stamped es clock ∧ (es.toList.map entryP).Perm (ps.map f) ∧
 (((Instr.findKey k key es.toList).run P w = .ok none w ∧ (∀ e ∈ es.toList, e.key ≠ key) ∧ ∀ p ∈ ps, (f p).1 ≠ key) ∨
  ∃ j e0 p, (Instr.findKey k key es.toList).run P w = .ok (some (j, (f p).2)) w ∧ es.toList[j]? = some e0 ∧ e0.key = key ∧ e0.val = (f p).2 ∧ p ∈ ps ∧ (f p).1 = key) := by
 obtain ⟨es, clock, hb, hs, hq, hz⟩ := h
 refine ⟨es, clock, hb, hs, hq, ?_⟩
 obtain ⟨lk, hlk⟩ := hk
 have hes : ∀ x ∈ es.toList, ∃ p ∈ ps, x.key = (f p).1 ∧ x.val = (f p).2 := fun x hx => by
  obtain ⟨p, hp, e⟩ := List.mem_map.1 (hq.mem_iff.1 (List.mem_map.2 ⟨x, hx, rfl⟩))
  exact ⟨p, hp, by rw [e]; rfl, by rw [e]; rfl⟩
 rcases K.find w hlk es.toList (fun x hx => by
  obtain ⟨p, hp, e, _⟩ := hes x hx
  obtain ⟨l, hl⟩ := hz p hp
  exact ⟨l, by rw [e]; exact hl⟩) with ⟨h1, h2⟩ | ⟨j, e0, h1, h2, h3⟩
 · refine .inl ⟨h1, h2, fun p hp en => ?_⟩
   obtain ⟨x, hx, e⟩ := List.mem_map.1 (hq.mem_iff.2 (List.mem_map.2 ⟨p, hp, rfl⟩))
   have e1 : x.key = (f p).1 := by rw [← e]; rfl
   exact h2 x hx (by rw [e1, en])
 obtain ⟨p, hp, e1, e2⟩ := hes e0 (List.mem_of_getElem? h2)
 rw [h3] at e1
 exact .inr ⟨j, e0, p, by rw [← e2]; exact h1, h2, h3, e2, hp, e1.symm⟩
include ht K
theorem mapAs_none (h : MapAs P k f w km ps) (key : Value) (hk : ∃ l, keyOf P k key = some l) (h0 : ∀ p ∈ ps, (f p).1 ≠ key) (z : Value) (hz : (zeroValue e).run P w = .ok z w) (ok : Bool) : (Instr.lookup t (.map (some km)) key ok).run P w = .ok (if ok = true then .tuple #[z, .bool false] else z) w := by
 obtain ⟨es, clock, hb, hs, hq, h1⟩ := mapAs_find K h key hk
 obtain ⟨lk, hlk⟩ := hk
 rcases h1 with ⟨h1, _, _⟩ | ⟨j, e0, p, _, _, _, _, hm, he⟩
 · cases ok <;> simp [Instr.lookup, run_underlying ht, MapKept.run_getObj_map hb, K.check w _ hlk, h1, hz, Result.andThen]
 exact absurd he (h0 _ hm)
theorem mapAs_some (h : MapAs P k f w km ps) (p : α) (hm : p ∈ ps) (ok : Bool) : (Instr.lookup t (.map (some km)) (f p).1 ok).run P w = .ok (if ok = true then .tuple #[(f p).2, .bool true] else (f p).2) w := by
 have hk : ∃ l, keyOf P k (f p).1 = some l := by obtain ⟨_, _, _, _, _, hz⟩ := h; exact hz p hm
 obtain ⟨es, clock, hb, hs, hq, h1⟩ := mapAs_find K h (f p).1 hk
 obtain ⟨lk, hlk⟩ := hk
 rcases h1 with ⟨_, _, h2⟩ | ⟨j, e0, p', h1, _, _, _, hm', he⟩
 · exact absurd rfl (h2 _ hm)
 have e := h.one hm hm' he.symm
 subst e
 cases ok <;> simp [Instr.lookup, run_underlying ht, MapKept.run_getObj_map hb, K.check w _ hlk, h1, Result.andThen]
theorem mapAs_put (h : MapAs P k f w km ps) (p : α) (hk : ∃ l, keyOf P k (f p).1 = some l) (h0 : ∀ q ∈ ps, (f q).1 ≠ (f p).1) : ∃ w', (Instr.mapUpdate t (.map (some km)) (f p).1 (f p).2).run P w = .ok () w' ∧ MapAs P k f w' km (p :: ps) ∧ w.grownBy w' (some km) ∧ w'.heap.size = w.heap.size := by
 have hz : ∀ p ∈ ps, ∃ l, keyOf P k (f p).1 = some l := by obtain ⟨_, _, _, _, _, hz⟩ := h; exact hz
 have hk2 := hk
 obtain ⟨es, clock, hb, hs, hq, h1⟩ := mapAs_find K h (f p).1 hk
 obtain ⟨lk, hlk⟩ := hk
 have hgr : ∀ o', w.grownBy (setBlock w km o') (some km) := fun o' => ⟨rfl, rfl, rfl, by simp [setBlock], fun i _ hi => ChangeMaps.heap_setBlock_other hb _ (fun e => hi (by rw [e]))⟩
 rcases h1 with ⟨h1, h2, _⟩ | ⟨j, e0, p', _, _, _, _, hm, he⟩
 rotate_left
 · exact absurd he (h0 _ hm)
 refine ⟨setBlock w km (.map (es.push ⟨(f p).1, (f p).2, clock⟩) (clock + 1)), ?_, ⟨_, _, ChangeMaps.heap_setBlock_same hb _, MapKept.stamped_push hs h2, ?_, fun q hq => ?_⟩, hgr _, by simp [setBlock]⟩
 · simp [Instr.mapUpdate, run_underlying ht, MapKept.run_getObj_map hb, K.check w false hlk, h1, MapKept.run_setObj_map _ hb, Result.andThen, setBlock]
 · rw [Array.toList_push, List.map_append, List.map_cons]
   exact (List.perm_append_singleton _ _).trans (hq.cons _)
 rcases List.mem_cons.1 hq with rfl | hq
 · exact hk2
 exact hz q hq
theorem mapAs_set {p0 : α} (h : MapAs P k f w km (p0 :: ps)) (p : α) (h0 : (f p0).1 = (f p).1) : ∃ w', (Instr.mapUpdate t (.map (some km)) (f p).1 (f p).2).run P w = .ok () w' ∧ MapAs P k f w' km (p :: ps) ∧ w.grownBy w' (some km) ∧ w'.heap.size = w.heap.size := by
 have hz : ∀ p ∈ p0 :: ps, ∃ l, keyOf P k (f p).1 = some l := by obtain ⟨_, _, _, _, _, hz⟩ := h; exact hz
 have hk : ∃ l, keyOf P k (f p).1 = some l := by have := hz p0 (by simp); rw [h0] at this; exact this
 have hk2 := hk
 obtain ⟨es, clock, hb, hs, hq, h1⟩ := mapAs_find K h (f p).1 hk
 obtain ⟨lk, hlk⟩ := hk
 have hgr : ∀ o', w.grownBy (setBlock w km o') (some km) := fun o' => ⟨rfl, rfl, rfl, by simp [setBlock], fun i _ hi => ChangeMaps.heap_setBlock_other hb _ (fun e => hi (by rw [e]))⟩
 rcases h1 with ⟨h1, h2, h3⟩ | ⟨j, e0, p', h1, h2, h3, h4, hm, he⟩
 · exact absurd h0 (h3 _ (by simp))
 have e2 : p0 = p' := h.one (by simp) hm (h0.trans he.symm)
 subst e2
 have hj : es[j]? = some e0 := by simpa using h2
 have hkeyf : ∀ e', es[j]? = some e' → ({ e' with key := (f p).1, val := (f p).2 } : MapEntry).key = e'.key := fun e' he' => by rw [hj] at he'; cases he'; exact h3.symm
 have hlist : (es.modify j (fun e' => { e' with key := (f p).1, val := (f p).2 })).toList = es.toList.set j { e0 with key := (f p).1, val := (f p).2 } := by rw [Array.toList_modify, ChangeMaps.modify_eq_set _ _ _ _ h2]
 refine ⟨setBlock w km (.map (es.modify j (fun e' => { e' with key := (f p).1, val := (f p).2 })) clock), ?_, ⟨_, _, ChangeMaps.heap_setBlock_same hb _, MapKept.stamped_modify hs _ _ (fun _ _ => rfl) (fun e' _ he' => hkeyf e' he'), ?_, fun q hq => ?_⟩, hgr _, by simp [setBlock]⟩
 · simp [Instr.mapUpdate, run_underlying ht, MapKept.run_getObj_map hb, K.check w false hlk, h1, hj, h3, K.stays w hlk, MapKept.run_setObj_map _ hb, Result.andThen, setBlock]
 · obtain ⟨s1, s2⟩ := permAs_set es.toList j e0 { e0 with key := (f p).1, val := (f p).2 } h2
   have e1 : entryP e0 = f p0 := by
    show (e0.key, e0.val) = _
    rw [h3, h4, ← h0]
   have a1 := (s2.map entryP).symm.trans hq
   rw [List.map_cons, List.map_cons, e1] at a1
   rw [hlist]
   refine (s1.map entryP).trans ?_
   rw [List.map_cons, List.map_cons]
   exact a1.cons_inv.cons _
 rcases List.mem_cons.1 hq with rfl | hq
 · exact hk2
 exact hz q (by simp [hq])
end
def RangeAs (P : Program) (k : TypeId) (f : α → Value × Value) (w : World) (km r : Nat) (ps dn left : List α) : Prop :=
 ∃ es clock since seen c0, w.heap[km]? = some (.map es clock) ∧ MapKept.Stamped es clock ∧ (es.toList.map entryP).Perm (ps.map f) ∧ (∀ p ∈ ps, ∃ l, keyOf P k (f p).1 = some l) ∧
   w.heap[r]? = some (.mapIter (some km) since seen c0) ∧ (∀ x ∈ es.toList, x.born < since) ∧ since ≤ c0 ∧ since ≤ clock ∧ ((leftOf es seen).toList.map entryP).Perm (left.map f) ∧ ps.Perm (dn ++ left)
variable {dn left : List α} {r : Nat}
theorem RangeAs.map (h : RangeAs P k f w km r ps dn left) : MapAs P k f w km ps := by
 obtain ⟨es, clock, since, seen, c0, hb, hs, hq, hz, _⟩ := h
 exact ⟨es, clock, hb, hs, hq, hz⟩
theorem RangeAs.all (h : RangeAs P k f w km r ps dn left) : ps.Perm (dn ++ left) := by
 obtain ⟨es, clock, since, seen, c0, hb, hs, hq, hz, hr, h1, h2, h3, h4, h5⟩ := h
 exact h5
theorem RangeAs.lt (h : RangeAs P k f w km r ps dn left) : r < w.heap.size := by
 obtain ⟨es, clock, since, seen, c0, hb, hs, hq, hz, hr, _⟩ := h
 exact (Array.getElem?_eq_some_iff.1 hr).1
theorem RangeAs.same (h : RangeAs P k f w km r ps dn left) (h1 : w'.heap[km]? = w.heap[km]?) (h2 : w'.heap[r]? = w.heap[r]?) : RangeAs P k f w' km r ps dn left := by
 obtain ⟨es, clock, since, seen, c0, hb, hs, hq, hz, hr, rest⟩ := h
 exact ⟨es, clock, since, seen, c0, h1.trans hb, hs, hq, hz, h2.trans hr, rest⟩
theorem RangeAs.on (h : RangeAs P k f w km r ps dn left) (hb : Below w.heap.size w w') : RangeAs P k f w' km r ps dn left := h.same (hb.block km h.map.lt) (hb.block r h.lt)
theorem RangeAs.grown {q : Option Nat} (h : RangeAs P k f w km r ps dn left) (hg : w.grownBy w' q) (h1 : q ≠ some km) (h2 : q ≠ some r) : RangeAs P k f w' km r ps dn left := h.same (hg.block km h.map.lt fun e => h1 e.symm) (hg.block r h.lt fun e => h2 e.symm)
theorem RangeAs.ne (h : RangeAs P k f w km r ps dn left) : r ≠ km := by
 obtain ⟨es, clock, since, seen, c0, hb, hs, hq, hz, hr, _⟩ := h
 intro e
 rw [e, hb] at hr
 cases hr
theorem leftAs_all (es : Array MapEntry) : leftOf es #[] = es := by
 unfold leftOf
 exact Array.filter_eq_self.2 fun x hx => by simp
theorem mapHeapOld {w : World} {c} {j : Nat} (h : j < w.heap.size) : (w.alloc c).heap[j]? = w.heap[j]? := ((Below.refl w.heap.size w).alloc (Nat.le_refl _) c).block j h
theorem mapAs_range {t e : TypeId} (ht : P.underlying t = some (.map k e)) (h : MapAs P k f w km ps) : ∃ w', (Instr.range t (.map (some km))).run P w = .ok (.pointer (some ⟨w.heap.size, 0, none⟩)) w' ∧ RangeAs P k f w' km w.heap.size ps [] ps ∧ Below w.heap.size w w' ∧ w'.heap.size = w.heap.size + 1 := by
 have hlt := h.lt
 obtain ⟨es, clock, hb, hs, hq, hz⟩ := h
 refine ⟨_, run_range_map w t k e km es clock ht hb, ⟨es, clock, clock, #[], clock, (mapHeapOld hlt).trans hb, hs, hq, hz, heap_alloc_new w _, hs.1, Nat.le_refl _, Nat.le_refl _, ?_, List.Perm.refl _⟩, (bal w _), by simp⟩
 rw [leftAs_all]
 exact hq
theorem nodupAs_split (e : MapEntry) : ∀ (l : List MapEntry), (l.map (·.born)).Nodup → e ∈ l → l.Perm (e :: l.filter fun x => !(x.born == e.born))
 | x :: l, hn, he => by
   rw [List.map_cons, List.nodup_cons] at hn
   rcases List.mem_cons.1 he with rfl | h
   · rw [List.filter_cons_of_neg (by simp), List.filter_eq_self.2 fun y hy => by
      have : y.born ≠ e.born := fun e1 => hn.1 (by rw [← e1]; exact List.mem_map.2 ⟨y, hy, rfl⟩)
      simp [this]]
   have hne : x.born ≠ e.born := fun e1 => hn.1 (by rw [e1]; exact List.mem_map.2 ⟨e, h, rfl⟩)
   rw [List.filter_cons_of_pos (by simp [hne])]
   exact ((nodupAs_split e l hn.2 h).cons x).trans (List.Perm.swap _ _ _)
theorem leftAs_push (es : Array MapEntry) (seen : Array Nat) (b : Nat) : (leftOf es (seen.push b)).toList = (leftOf es seen).toList.filter fun x => !(x.born == b) := by
 unfold leftOf
 rw [Array.toList_filter, Array.toList_filter, List.filter_filter]
 refine List.filter_congr fun x _ => ?_
 rw [contains_push]
 cases seen.contains x.born <;> cases (x.born == b) <;> rfl
theorem mapAs_next (h : RangeAs P k f w km r ps dn left) (ty : TypeId) :
 (left = [] ∧ (Instr.next (.pointer (some ⟨r, 0, none⟩)) false ty).run P w = .ok (.tuple #[.bool false]) w) ∨
 ∃ (p : α) (left' : List α) (w' : World), left.Perm (p :: left') ∧ p ∈ ps ∧ (Instr.next (.pointer (some ⟨r, 0, none⟩)) false ty).run P w = .ok (.tuple #[.bool true, (f p).1, (f p).2]) w' ∧
   RangeAs P k f w' km r ps (dn ++ [p]) left' ∧ w.grownBy w' (some r) ∧ w'.heap.size = w.heap.size ∧ (Instr.entry (.pointer (some ⟨r, 0, none⟩))).run P w' = .ok (.tuple #[(f p).1, (f p).2]) w' := by
 have hne := h.ne
 obtain ⟨es, clock, since, seen, c0, hb, hs, hq, hz, hr, hold, hsc, hsk, hl, hall⟩ := h
 have hst := (MapKept.stamped_iff es clock).1 hs
 rcases run_next_at (P := P) w ty r km since c0 seen es clock hr hb hold hsc with ⟨h0, hrun⟩ | ⟨e, he, w1, hal, hrun⟩
 · left
   refine ⟨?_, hrun⟩
   have := hl.length_eq
   rw [List.length_map, List.length_map, Array.length_toList, h0] at this
   exact List.eq_nil_of_length_eq_zero this.symm
 right
 obtain ⟨hem, _⟩ := mem_left he
 obtain ⟨p, hp, e1⟩ := List.mem_map.1 (hl.mem_iff.1 (List.mem_map.2 ⟨e, he, rfl⟩))
 obtain ⟨l1, l2, rfl⟩ := List.append_of_mem hp
 have hsplit : (l1 ++ p :: l2).Perm (p :: (l1 ++ l2)) := List.perm_middle
 have hpm : p ∈ ps := hall.mem_iff.2 (by simp)
 have hall2 : ps.Perm ((dn ++ [p]) ++ (l1 ++ l2)) := by
  refine hall.trans ?_
  rw [List.append_assoc]
  exact hsplit.append_left dn
 have ek : e.key = (f p).1 := (congrArg Prod.fst e1).symm
 have ev : e.val = (f p).2 := (congrArg Prod.snd e1).symm
 have hr1 : w1.heap[r]? = some (.mapIter (some km) since seen c0) := by rcases hal with rfl | rfl <;> exact hr
 have hb1 : w1.heap[km]? = some (.map es clock) := by rcases hal with rfl | rfl <;> exact hb
 have hset := MapKept.heap_set (o' := .mapIter (some km) since (seen.push e.born) clock) hr1
 have hb' : (setBlock w1 r (.mapIter (some km) since (seen.push e.born) clock)).heap[km]? = some (.map es clock) := (hset.2 km (fun e1 => hne e1.symm)).trans hb1
 refine ⟨p, l1 ++ l2, setBlock w1 r (.mapIter (some km) since (seen.push e.born) clock), hsplit, hpm, by rw [← ek, ← ev]; exact hrun, ⟨es, clock, since, seen.push e.born, clock, hb', hs, hq, hz, hset.1, hold, hsk, hsk, ?_, hall2⟩, ?_, ?_, ?_⟩
 · rw [leftAs_push]
   have hnd : ((leftOf es seen).toList.map (·.born)).Nodup := by
    unfold leftOf
    rw [Array.toList_filter]
    exact hst.2.1.sublist (List.filter_sublist.map _)
   have a1 := ((nodupAs_split e _ hnd he).map entryP).symm.trans (hl.trans (hsplit.map f))
   rw [List.map_cons, List.map_cons] at a1
   have e2 : entryP e = f p := e1.symm
   rw [e2] at a1
   exact a1.cons_inv
 · rcases hal with rfl | rfl <;> exact ⟨rfl, rfl, rfl, by simp [setBlock], fun i _ hi => hset.2 i (fun e1 => hi (by rw [e1]))⟩
 · rcases hal with rfl | rfl <;> simp [setBlock]
 have := run_entry_at (P := P) _ r km since seen es clock e hset.1 hb' hem hst.2.1
 rw [ek, ev] at this
 exact this
theorem RangeAs.count (h : RangeAs P k f w km r ps dn left) : w.rangeLeft km r = left.length := by
 obtain ⟨es, clock, since, seen, c0, hb, hs, hq, hz, hr, hold, hsc, hsk, hl, hall⟩ := h
 have := hl.length_eq
 rw [List.length_map, List.length_map, Array.length_toList] at this
 simp only [World.rangeLeft, hb, hr]
 exact this
end
end Go.Proofs.YtjmfdildnojknaaGreat
namespace Go.Proofs.YtjmfdildnojknaaGreat
open Go.RowKit
open Go.SeqMath
open Go.ProdMath
open Go.BatMath hiding AllB getD_lt take_all
def pmE (m : PM) : Value × Value := (.int .i64 m.p.id, .agg #[.int .i64 m.p.id, .int .i64 m.p.epoch, .slice m.ad m.p.last.length m.cap, .int .i64 m.p.opn])
abbrev TcMap (w : World) (km : Nat) (ms : List PM) : Prop := MapAs Tryz.prog 2 pmE w km ms
theorem keyI : Maps.Keyed Tryz.prog 2 := Maps.int_keyed Tryz.underlying2
theorem tcMapT : Tryz.prog.underlying 110 = some (.map 2 58) := Tryz.underlying110
theorem wf_i64 {n : Int} (h0 : -9223372036854775808 ≤ n) (h1 : n ≤ 9223372036854775807) : (Lit.int .i64 n).wf = true := by
 have e1 : IntKind.i64.min = -9223372036854775808 := rfl
 have e2 : IntKind.i64.max = 9223372036854775807 := rfl
 simp only [Lit.wf, e1, e2, Bool.and_eq_true, decide_eq_true_eq]
 omega
theorem key_int {n : Int} (h0 : -9223372036854775808 ≤ n) (h1 : n ≤ 9223372036854775807) : ∃ l, keyOf Tryz.prog 2 (.int .i64 n) = some l := ⟨_, Maps.keyOf_int_mk Tryz.underlying2 (wf_i64 h0 h1)⟩
def lookM (ms : List PM) (k : Int) : Option PM := ms.find? fun m => decide (m.p.id = k)
theorem lookM_p : ∀ (ms : List PM) (k : Int), (lookM ms k).map (·.p) = lookD (pds ms) k
 | [], k => rfl
 | m :: ms, k => by
   have ih := lookM_p ms k
   show _ = lookD (m.p :: pds ms) k
   rw [look_cons]
   unfold lookM at ih ⊢
   rw [List.find?_cons]
   by_cases h : m.p.id = k
   · rw [decide_eq_true h, if_pos h]; rfl
   rw [decide_eq_false h, if_neg h]; exact ih
theorem lookM_some {ms : List PM} {k : Int} {m : PM} (h : lookM ms k = some m) : m ∈ ms ∧ m.p.id = k := ⟨List.mem_of_find?_eq_some h, by simpa using List.find?_some h⟩
theorem lookM_none {ms : List PM} {k : Int} (h : lookM ms k = none) : ∀ m ∈ ms, m.p.id ≠ k := by
 unfold lookM at h
 rw [List.find?_eq_none] at h
 intro m hm e
 exact h m hm (by simp [e])
def insM : List PM → PM → List PM
 | [], x => [x]
 | m :: ms, x => if m.p.id < x.p.id then m :: insM ms x else if m.p.id = x.p.id then x :: ms else x :: m :: ms
theorem insM_pds : ∀ (ms : List PM) (x : PM), pds (insM ms x) = insD (pds ms) x.p
 | [], x => rfl
 | m :: ms, x => by
   have ih := insM_pds ms x
   show pds (insM (m :: ms) x) = insD (m.p :: pds ms) x.p
   unfold insM insD
   split
   · show m.p :: pds (insM ms x) = _
     rw [ih]
   split <;> rfl
theorem insM_new : ∀ (ms : List PM) (x : PM), (∀ m ∈ ms, m.p.id ≠ x.p.id) → (insM ms x).Perm (x :: ms)
 | [], x, _ => List.Perm.refl _
 | m :: ms, x, h => by
   unfold insM
   split
   · exact ((insM_new ms x fun q hq => h q (by simp [hq])).cons m).trans (List.Perm.swap _ _ _)
   rw [if_neg (h m (by simp))]
theorem insM_old : ∀ (ms : List PM) (x m0 : PM), Asc (pds ms) → m0 ∈ ms → m0.p.id = x.p.id → ∃ rest, ms.Perm (m0 :: rest) ∧ (insM ms x).Perm (x :: rest)
 | m :: ms, x, m0, ha, hm, e => by
   have h1 := asc_head (p := m.p) (l := pds ms) ha
   unfold insM
   rcases List.mem_cons.1 hm with rfl | hm
   · rw [if_neg (by omega), if_pos e]
     exact ⟨ms, List.Perm.refl _, List.Perm.refl _⟩
   have h2 := h1 m0.p (List.mem_map.2 ⟨m0, hm, rfl⟩)
   rw [if_pos (by omega)]
   obtain ⟨rest, r1, r2⟩ := insM_old ms x m0 (asc_tail (p := m.p) (l := pds ms) ha) hm e
   exact ⟨m :: rest, (r1.cons m).trans (List.Perm.swap _ _ _), (r2.cons m).trans (List.Perm.swap _ _ _)⟩
theorem perm_lift {α β : Type} (f : α → β) : ∀ (q : List β) (l : List α), (l.map f).Perm q → ∃ l', l.Perm l' ∧ l'.map f = q
 | [], l, h => by
   have := h.length_eq
   simp only [List.length_map, List.length_nil] at this
   obtain rfl := List.eq_nil_of_length_eq_zero this
   exact ⟨[], List.Perm.refl _, rfl⟩
 | b :: q, l, h => by
   obtain ⟨x, hx, e⟩ := List.mem_map.1 (h.mem_iff.2 (List.mem_cons_self (a := b) (l := q)))
   obtain ⟨l1, l2, rfl⟩ := List.append_of_mem hx
   have hs : (l1 ++ x :: l2).Perm (x :: (l1 ++ l2)) := List.perm_middle
   have h2 := (hs.map f).symm.trans h
   rw [List.map_cons, e] at h2
   obtain ⟨l', r1, r2⟩ := perm_lift f q (l1 ++ l2) h2.cons_inv
   exact ⟨x :: l', hs.trans (r1.cons x), by rw [List.map_cons, r2, e]⟩
def IsMap (w : World) (k : Nat) : Prop := ∃ es c, w.heap[k]? = some (.map es c)
theorem cell_map {w : World} {k j : Nat} {x : Option Nat} (h : IsMap w k) : w.cell? ⟨k, j, none⟩ = none := by
 obtain ⟨es, c, h⟩ := h
 simp [World.cell?, h]
theorem MapAs.is {α : Type} {P : Program} {t : TypeId} {f : α → Value × Value} {w : World} {km : Nat} {ps : List α} (h : MapAs P t f w km ps) : IsMap w km := by
 obtain ⟨es, c, hb, _⟩ := h
 exact ⟨es, c, hb⟩
section
variable {α : Type} {K : Kind α} {w w' : World} {ad : Option Addr} {len cap k : Nat} {l : List α}
theorem RowAt.past_map (h : RowAt K w ad len cap l) (hg : w.grownBy w' (some k)) (hk : IsMap w k) : RowAt K w' ad len cap l := by
 refine ⟨h.length, h.fits, h.room, ?_⟩
 rcases h.cells with h0 | ⟨b, off, e, hlt, hc⟩
 · exact .inl h0
 refine .inr ⟨b, off, e, Nat.lt_of_lt_of_le hlt hg.size, fun i x hi j u hj => hg.cell (hc i x hi j u hj) (fun e2 => ?_)⟩
 have h3 := hc i x hi j u hj
 have e3 : b = k := Option.some.inj e2
 rw [e3, cell_map (x := none) hk] at h3
 cases h3
end
def TcBox (w : World) (kt km : Nat) : Prop := w.heap[kt]? = some (.cells #[.map (some km)] 112 (0, 0))
section
variable {w w' : World} {kt km : Nat}
theorem TcBox.c0 (h : TcBox w kt km) : w.cell? ⟨kt, 0, none⟩ = some (.map (some km)) := by rw [cell_of_row _ _ 0 _ _ _ h]; rfl
theorem TcBox.lt (h : TcBox w kt km) : kt < w.heap.size := lt_of_block h
theorem TcBox.same (h : TcBox w kt km) (he : w'.heap[kt]? = w.heap[kt]?) : TcBox w' kt km := he.trans h
theorem TcBox.on (h : TcBox w kt km) (hb : Below w.heap.size w w') : TcBox w' kt km := h.same (hb.block kt h.lt)
end
structure TcOk (w : World) (kt km : Nat) (ms : List PM) : Prop where
 box : TcBox w kt km
 map : TcMap w km ms
 ins : LastsAt w ms
section
variable {w w' : World} {kt km k : Nat} {ms : List PM}
theorem TcOk.keep (h : TcOk w kt km ms) (hb : Below w.heap.size w w') : TcOk w' kt km ms := ⟨h.box.on hb, h.map.on hb, h.ins.keep hb⟩
theorem TcBox.past_map (h : TcBox w kt km) (hg : w.grownBy w' (some k)) (hk : IsMap w k) : TcBox w' kt km := h.same (hg.block kt h.lt fun e => by
 obtain ⟨es, c, hm⟩ := hk
 unfold TcBox at h
 rw [Option.some.inj e, hm] at h
 cases h)
end
def GivesNewT (w : World) (e : Ending) (w' : World) : Prop := ∃ kt km, e = .returned (.pointer (some ⟨kt, 0, none⟩)) ∧ TcOk w' kt km [] ∧ Below w.heap.size w w' ∧ w.heap.size ≤ kt ∧ w.heap.size ≤ km
theorem tcNew_any (w : World) : Calls Tryz.prog 39 #[] w (GivesNewT w) := by
 have hmm := @run_makeMap Tryz.prog
 go_enter Tryz.func39, Tryz.ntmps39
 go_wp2
 go_ret
 have hb : Below w.heap.size w ((w.alloc (.map #[] 0)).alloc (.cells #[.map (some w.heap.size)] 112)) := (bal w _).alloc (by simp) _
 refine ⟨_, _, rfl, ⟨?_, ?_, fun m hm => by cases hm⟩, hb, by simp, Nat.le_refl _⟩
 · have h1 := heap_alloc_new (w.alloc (.map #[] 0)) (.cells #[.map (some w.heap.size)] 112)
   show (_ : World).heap[_]? = _
   simpa using h1
 exact (mapAs_new Tryz.prog 2 pmE w).on ((Below.refl _ _).alloc (by simp) _)
def ClonedT (w : World) (l : List Tr) (e : Ending) (w' : World) : Prop := ∃ ad cap, e = .returned (.slice ad l.length cap) ∧ OwnRow trK w' w.heap.size (.slice ad l.length cap) l ∧ Below w.heap.size w w'
theorem trClone_any (w : World) (ad : Option Addr) (len cap : Nat) (l : List Tr) (hr : RowAt trK w ad len cap l) (hl : len ≤ 1000000) : Calls Tryz.prog 120 #[.slice ad len cap] w (ClonedT w l) := by
 have hroom := hr.room
 have hlen := hr.length
 have HR := qh hr
 clear hr
 cases ad with
 | none =>
   have hc := hroom rfl
   have hfits := HR.out.fits
   have h0 : len = 0 := by omega
   subst hc
   subst h0
   obtain rfl : l = [] := List.eq_nil_of_length_eq_zero hlen
   have hnil : ∀ W, (binOp .eql 56 (.slice none 0 0) (.slice none 0 0)).run Tryz.prog W = .ok (.bool true) W := fun W => Lib.run_eql_slice_nil (P := Tryz.prog) W 56 59 none 0 0 0 0 Tryz.underlying56
   go_enter Tryz.func120, Tryz.ntmps120
   go_wp2
   go_ret
   exact ⟨none, 0, rfl, ownRow_nil _ _ _, Below.refl _ _⟩
 | some a =>
   have hnil : ∀ W, (binOp .eql 56 (.slice (some a) len cap) (.slice none 0 0)).run Tryz.prog W = .ok (.bool false) W := fun W => Lib.run_eql_slice_nil (P := Tryz.prog) W 56 59 (some a) len cap 0 0 Tryz.underlying56
   have HL := qh hlen
   clear hroom hlen
   go_enter Tryz.func120, Tryz.ntmps120
   go_wp2_with (at_builtin; refine list_row (by rfl) trK_ok (.tmp 5) (.tmp 6) rfl w.heap.size [] l _ rfl (ownRow_lit trK_ok w w.heap.size [] (Nat.le_refl _) (by simp) _ rfl 0 rfl) (by simp) (some a) len cap rfl (HR.out.keep (bal w _)) (by rw [List.length_nil]; omega) ?_)
   rintro v' w' hap
   have HAP := qh hap
   clear hap
   go_wp2
   go_ret
   have h1 := HAP.out
   obtain ⟨ad', cap', rfl, _, _⟩ := OwnRow.row trK_ok h1.1 rfl
   refine ⟨ad', cap', rfl, h1.1, ?_⟩
   exact appended_below h1 (ownRow_lit trK_ok w w.heap.size [] (Nat.le_refl _) (by simp) _ rfl 0 rfl) (bal w _) (Nat.le_refl _) (by simp)
theorem tcOpen_any (w : World) (id ep op : Int) (ad : Option Addr) (n cap : Nat) (r : Bool) (hr : decide (0 ≤ op) = r) :
 Calls Tryz.prog 104 #[.agg #[.int .i64 id, .int .i64 ep, .slice ad n cap, .int .i64 op]] w fun e w' => e = .returned (.bool r) ∧ Below w.heap.size w w' := by
 have HR := qh hr
 clear hr
 obtain ⟨W0, hW0⟩ : ∃ W0, W0 = (w.alloc (.cells #[.int .i64 id, .int .i64 ep, .slice ad n cap, .int .i64 op] 58)) := ⟨_, rfl⟩
 have HB0 := hwq hW0
 have HP0 : Hid (PBox W0 w.heap.size (id) (ep) (.slice ad n cap) (op)) := by
  show PBox _ w.heap.size (id) (ep) (.slice ad n cap) (op)
  rw [hW0]
  have h1 := pbox_new w (id) (ep) (.slice ad n cap) (op)
  simpa using h1
 have HW0 := qh hW0
 clear hW0
 obtain ⟨B1, hB1⟩ := exq w.heap.size
 rw [← hB1] at HP0
 go_enter Tryz.func104, Tryz.ntmps104
 go_upto_region 1 with fail
 rw [← HW0.out, ← hB1]
 clear HW0 hB1
 have q3 := HP0.out.c3
 go_wp2
 go_ret
 exact ⟨by rw [← HR.out]; rfl, HB0.out⟩
theorem resultsCopied {tmps : Array Value} {B : Nat} {W : World} {b0 b1 b3 : Int} {v : Value} (h : PBox W B b0 b1 v b3) (ht : tmps.getD 2 undef = .pointer (some ⟨B, 0, none⟩)) :
 (results Tryz.f84 tmps).run Tryz.prog W = .ok (.agg #[.int .i64 b0, .int .i64 b1, v, .int .i64 b3]) W := by
 rw [results_cell_one (p := 2) (ty := 58) Tryz.results84, ht]
 have hl := run_loadVar_row (P := Tryz.prog) W B 58 58 _ (0, 0) _ h Tryz.underlying58 rfl (by kernel_rfl)
 simp only [asAddr, Sem.run_pure, Result.andThen, hl]
def GivesP (w : World) (p : Pd) (e : Ending) (w' : World) : Prop :=
 ∃ ad cap, e = .returned (.agg #[.int .i64 p.id, .int .i64 p.epoch, .slice ad p.last.length cap, .int .i64 p.opn]) ∧ OwnRow trK w' (w.heap.size + 2) (.slice ad p.last.length cap) p.last ∧ Below w.heap.size w w'
theorem tcCopied_any (w : World) (id ep op : Int) (last : List Tr) (ad : Option Addr) (n cap : Nat) (hl : RowAt trK w ad n cap last) (hn : n ≤ 1000000) :
 Calls Tryz.prog 84 #[.agg #[.int .i64 id, .int .i64 ep, .slice ad n cap, .int .i64 op]] w (GivesP w ⟨id, ep, last, op⟩) := by
 obtain ⟨W0, hW0⟩ : ∃ W0, W0 = ((w.alloc (.cells #[.int .i64 id, .int .i64 ep, .slice ad n cap, .int .i64 op] 58)).alloc (.cells #[.int .i64 0, .int .i64 0, .slice none 0 0, .int .i64 0] 58)) := ⟨_, rfl⟩
 have HB0 : Hid (Below w.heap.size w W0) := by rw [hW0]; exact (bal _ _).alloc (by simp) _
 have HP0 : Hid (PBox W0 w.heap.size id ep (.slice ad n cap) op) := by
  show PBox _ _ _ _ _ _
  rw [hW0]
  exact (pbox_new w id ep (.slice ad n cap) op).on ((Below.refl _ _).alloc (by simp) _)
 have HQ0 : Hid (PBox W0 (w.heap.size + 1) 0 0 (.slice none 0 0) 0) := by
  show PBox _ _ _ _ _ _
  rw [hW0]
  have h1 := pbox_new (w.alloc (.cells #[.int .i64 id, .int .i64 ep, .slice ad n cap, .int .i64 op] 58)) 0 0 (.slice none 0 0) 0
  simpa using h1
 have HS0 : Hid (W0.heap.size = w.heap.size + 2) := by show _ = _; rw [hW0]; simp
 have HL0 := qh (hl.keep HB0.out)
 have hln := hl.length
 have HLN := qh hln
 clear hl hln
 have HW0 := qh hW0
 clear hW0
 obtain ⟨B1, hB1⟩ := exq w.heap.size
 obtain ⟨B2, hB2⟩ := exq (w.heap.size + 1)
 have HBN : Hid (B1 = w.heap.size ∧ B2 = w.heap.size + 1) := ⟨hB1, hB2⟩
 rw [← hB1] at HP0
 rw [← hB2] at HQ0
 go_enter Tryz.func84, Tryz.ntmps84
 go_upto_region 1 with fail
 rw [← HW0.out, ← hB2, ← hB1]
 clear HW0 hB1 hB2
 have q2 := HP0.out.c2
 have g2 := HP0.out.free 2
 go_wp2_with fail
 refine (trClone_any W0 ad n cap last HL0.out hn).mono ?_
 rintro e w1 ⟨ad1, cap1, rfl, ho, hb⟩
 have HO := qh ho
 have HB1 := qh (HB0.out.trans (hb.mono HB0.out.size))
 have HP1 := qh (HP0.out.on hb)
 have HQ1 := qh (HQ0.out.on hb)
 clear ho hb q2 g2 HP0 HQ0
 have q2 := HP1.out.c2
 have g2 := HP1.out.free 2
 go_upto_region 2 with fail
 obtain ⟨w2, hw2⟩ := exq (w1.setCell ⟨B1, 2, none⟩ (.slice ad1 last.length cap1))
 rw [← hw2]
 have hne : B2 ≠ B1 := by have := HBN.out; omega
 have HP2 : Hid (PBox w2 B1 id ep (.slice ad1 last.length cap1) op) := by rw [hw2]; exact HP1.out.s2 _
 have HQ2 : Hid (PBox w2 B2 0 0 (.slice none 0 0) 0) := by rw [hw2]; exact HQ1.out.off hne.symm _
 have HB2 : Hid (Below w.heap.size w w2) := by rw [hw2]; exact HB1.out.setCell (show w.heap.size ≤ B1 by have := HBN.out; omega) _
 have HO2 : Hid (OwnRow trK w2 (w.heap.size + 2) (.slice ad1 last.length cap1) last) := by
  show OwnRow _ _ _ _ _
  have h1 := HO.out
  rw [HS0.out] at h1
  rw [hw2]
  exact h1.grown (grow_set (grow_refl w1 _) 2 _) (fun k hk e => by have := (h1.lt k hk).1; have := HBN.out; cases e; omega)
 clear hw2 HP1 HQ1 HB1 HO q2 g2
 have q0 := HP2.out.c0
 have q1 := HP2.out.c1
 have q2 := HP2.out.c2
 have q3 := HP2.out.c3
 have r0 := HQ2.out.c0
 have r1 := HQ2.out.c1
 have r2 := HQ2.out.c2
 have r3 := HQ2.out.c3
 have f0 := HQ2.out.free 0
 have f1 := HQ2.out.free 1
 have f2 := HQ2.out.free 2
 have f3 := HQ2.out.free 3
 go_wp2
 have hk : ∀ W (j : Nat) (u : Value), OwnRow trK W (w.heap.size + 2) (.slice ad1 last.length cap1) last → OwnRow trK (W.setCell ⟨B2, j, none⟩ u) (w.heap.size + 2) (.slice ad1 last.length cap1) last := fun W j u h =>
  h.grown (grow_set (grow_refl W _) j u) (fun k hk e => by have := (h.lt k hk).1; have := HBN.out; cases e; omega)
 have hB2 : w.heap.size ≤ B2 := by have := HBN.out; omega
 have hfin : GivesP w ⟨id, ep, last, op⟩ (.returned (.agg #[.int .i64 id, .int .i64 ep, .slice ad1 last.length cap1, .int .i64 op])) ((((w2.setCell ⟨B2, 0, none⟩ (.int .i64 id)).setCell ⟨B2, 1, none⟩ (.int .i64 ep)).setCell ⟨B2, 2, none⟩ (.slice ad1 last.length cap1)).setCell ⟨B2, 3, none⟩ (.int .i64 op)) :=
  ⟨ad1, cap1, rfl, hk _ _ _ (hk _ _ _ (hk _ _ _ (hk _ _ _ HO2.out))), (((HB2.out.setCell hB2 _).setCell hB2 _).setCell hB2 _).setCell hB2 _⟩
 exact bodyPost_ret (v := .agg #[.int .i64 id, .int .i64 ep, .slice ad1 last.length cap1, .int .i64 op]) (resultsCopied ((((HQ2.out.s0 id).s1 ep).s2 (.slice ad1 last.length cap1)).s3 op) rfl) rfl hfin
theorem tc_look (ms : List PM) (id : Int) (h0 : -9223372036854775808 ≤ id) (h1 : id ≤ 9223372036854775807) (hfew : fewP (pds ms)) :
 ∃ (p : Pd) (kn : Bool) (ad : Option Addr) (n cap : Nat), (lookD (pds ms) id).getD Pd.zero = p ∧ (lookD (pds ms) id).isSome = kn ∧ n ≤ 5 ∧
   (∀ W km, TcMap W km ms → (Instr.lookup 110 (.map (some km)) (.int .i64 id) true).run Tryz.prog W = .ok (.tuple #[.agg #[.int .i64 p.id, .int .i64 p.epoch, .slice ad n cap, .int .i64 p.opn], .bool kn]) W) ∧
   (∀ W km, TcMap W km ms → (Instr.lookup 110 (.map (some km)) (.int .i64 id) false).run Tryz.prog W = .ok (.agg #[.int .i64 p.id, .int .i64 p.epoch, .slice ad n cap, .int .i64 p.opn]) W) ∧
   ∀ W, LastsAt W ms → RowAt trK W ad n cap p.last := by
 have hl := lookM_p ms id
 cases hm : lookM ms id with
 | none =>
   rw [hm] at hl
   refine ⟨Pd.zero, false, none, 0, 0, by rw [← hl]; rfl, by rw [← hl]; rfl, by omega, fun W km hW => ?_, fun W km hW => ?_, fun W hW => rowAt_nil W⟩
   all_goals have hz : (zeroValue 58).run Tryz.prog W = .ok (.agg #[.int .i64 0, .int .i64 0, .slice none 0 0, .int .i64 0]) W := Tryz.zeroValue58 W
   · exact mapAs_none tcMapT keyI hW _ (key_int h0 h1) (fun q hq e => lookM_none hm q hq (by simpa [pmE] using e)) _ hz true
   exact mapAs_none tcMapT keyI hW _ (key_int h0 h1) (fun q hq e => lookM_none hm q hq (by simpa [pmE] using e)) _ hz false
 | some m =>
   rw [hm] at hl
   obtain ⟨hmem, hid⟩ := lookM_some hm
   refine ⟨m.p, true, m.ad, m.p.last.length, m.cap, by rw [← hl]; rfl, by rw [← hl]; rfl, hfew m.p (List.mem_map.2 ⟨m, hmem, rfl⟩), fun W km hW => ?_, fun W km hW => ?_, fun W hW => hW m hmem⟩
   · have h2 := mapAs_some tcMapT keyI hW m hmem true
     rw [← hid]
     exact h2
   have h2 := mapAs_some tcMapT keyI hW m hmem false
   rw [← hid]
   exact h2
theorem prDup_any (w : World) (id ep op : Int) (last : List Tr) (ad : Option Addr) (n cap : Nat) (hl : RowAt trK w ad n cap last) (hn : n ≤ 100000000000) (b0 b1 b2 b3 : Int) (b4 : Bool) (b5 : Int) (rd : Option Addr) (rn rc : Nat) (hrn : rn ≤ 140737488355328) (r : Option Int) (hr : (if b2 = ep ∧ b5 = 0 then dupL last b3 rn else none) = r) :
 Calls Tryz.prog 150 #[.agg #[.int .i64 id, .int .i64 ep, .slice ad n cap, .int .i64 op], .agg #[.int .i64 b0, .int .i64 b1, .int .i64 b2, .int .i64 b3, .bool b4, .int .i64 b5, .slice rd rn rc]] w (GivesDup w r) := by
 have HR := qh hr
 clear hr
 obtain ⟨W0, hW0⟩ : ∃ W0, W0 = ((w.alloc (.cells #[.int .i64 id, .int .i64 ep, .slice ad n cap, .int .i64 op] 58)).alloc (.cells #[.int .i64 b0, .int .i64 b1, .int .i64 b2, .int .i64 b3, .bool b4, .int .i64 b5, .slice rd rn rc] 29)) := ⟨_, rfl⟩
 have HB0 : Hid (Below w.heap.size w W0) := by rw [hW0]; exact (bal _ _).alloc (by simp) _
 have HP0 : Hid (PBox W0 w.heap.size (id) (ep) (.slice ad n cap) (op)) := by
  show PBox _ w.heap.size (id) (ep) (.slice ad n cap) (op)
  rw [hW0]
  have h1 := pbox_new w (id) (ep) (.slice ad n cap) (op)
  have h2 := h1.on (bal _ (.cells #[.int .i64 b0, .int .i64 b1, .int .i64 b2, .int .i64 b3, .bool b4, .int .i64 b5, .slice rd rn rc] 29))
  simpa using h2
 have HX1 : Hid (BoxAt W0 (w.heap.size + 1) b0 b1 b2 b3 b4 b5 (.slice rd rn rc)) := by
  show BoxAt _ (w.heap.size + 1) b0 b1 b2 b3 b4 b5 (.slice rd rn rc)
  rw [hW0]
  have h1 := boxAt_new (w.alloc (.cells #[.int .i64 id, .int .i64 ep, .slice ad n cap, .int .i64 op] 58)) b0 b1 b2 b3 b4 b5 (.slice rd rn rc)
  simpa using h1
 have HW0 := qh hW0
 clear hW0
 obtain ⟨B1, hB1⟩ := exq w.heap.size
 obtain ⟨B2, hB2⟩ := exq (w.heap.size + 1)
 rw [← hB1] at HP0
 rw [← hB2] at HX1
 go_enter Tryz.func150, Tryz.ntmps150
 go_upto_region 1 with fail
 rw [← HW0.out, ← hB2, ← hB1]
 clear HW0 hB1 hB2
 have HL0 := qh (hl.keep HB0.out)
 clear hl
 have q0 := HP0.out.c0
 have q1 := HP0.out.c1
 have q2 := HP0.out.c2
 have q3 := HP0.out.c3
 have p2 := HX1.out.c2
 have p5 := HX1.out.c5
 by_cases hm : b5 = 0
 rotate_left
 · have hd1 : (b5 == 0) = false := beq_false_of_ne hm
   have hd1n : (b5 != 0) = true := by unfold bne; rw [hd1]; rfl
   have HEND : Hid (r = none) := by show r = none; rw [← HR.out, if_neg (fun h => hm h.2)]
   clear HR
   go_wp2
   go_ret2
   exact gives_dup_none HEND.out HB0.out
 have hd1 : (b5 == 0) = true := by rw [hm]; rfl
 have hd1n : (b5 != 0) = false := by rw [hm]; rfl
 by_cases he : b2 = ep
 rotate_left
 · have hd2 : (b2 == ep) = false := beq_false_of_ne he
   have hd2n : (b2 != ep) = true := by unfold bne; rw [hd2]; rfl
   have HEND : Hid (r = none) := by show r = none; rw [← HR.out, if_neg (fun h => he h.1)]
   clear HR
   go_wp2
   go_ret2
   exact gives_dup_none HEND.out HB0.out
 have hd2 : (b2 == ep) = true := by rw [he]; simp
 have hd2n : (b2 != ep) = false := by rw [he]; simp
 have HRR : Hid (dupL (last.drop 0) b3 rn = r) := by show _ = _; rw [← HR.out, if_pos ⟨he, hm⟩]; rfl
 have HM := qh hm
 clear HR he hm
 go_wp2
 go_loopw [21] (fun v21 wr => ∃ j : Nat, v21 = .int .i64 (j : Int) ∧ j ≤ n ∧ dupL (last.drop j) b3 rn = r ∧ Below W0.heap.size W0 wr) (fun v21 _ => n - (intOf v21).toNat)
 case atStart => exact ⟨0, rfl, Nat.zero_le _, HRR.out, Below.refl _ _⟩
 obtain ⟨j, rfl, hj, hdu, hbel⟩ := hrel
 have HD := qh hdu
 have HB := qh hbel
 clear hdu hbel HRR q0 q1 q2 q3 p2 p5
 obtain ⟨wo, hwo⟩ := exq wr
 subst hwo
 by_cases hlt : j < n
 rotate_left
 · have hd3 : decide (j < n) = false := decide_eq_false hlt
   have hln := HL0.out.length
   have HEND : Hid (r = none) := by show r = none; rw [← HD.out, List.drop_of_length_le (by omega), dup_none]
   clear hln
   go_wp2
   go_ret2
   exact gives_dup_none HEND.out (HB0.out.trans (HB.out.mono HB0.out.size))
 have hd3 : decide (j < n) = true := decide_eq_true hlt
 have hjn : (j : Int) < (n : Int) := by omega
 obtain ⟨bk, off, x, rfl, hbk, hx, c0, c1, c2⟩ := tr_get (HL0.out.keep HB.out) hlt
 have hdrop : last.drop j = x :: last.drop (j + 1) := by
  obtain ⟨hjl, hxe⟩ := List.getElem?_eq_some_iff.1 hx
  rw [List.drop_eq_getElem_cons hjl, hxe]
 have HDR := qh hdrop
 clear hdrop hx hbk
 go_upto_region 6 with fail
 obtain ⟨W1, hW1⟩ := exq (wo.alloc (.cells #[.int .i64 x.f, .int .i64 x.l, .int .i64 x.b] 59))
 have HB1 : Hid (Below W0.heap.size W0 W1) := by rw [hW1]; exact HB.out.alloc HB.out.size _
 obtain ⟨K, hK⟩ := exq wo.heap.size
 have HT1 : Hid (TBox W1 K x) := by rw [hW1, hK]; exact tbox_new wo x
 have HXX := qh (HX1.out.on HB1.out)
 rw [← hW1, ← hK]
 clear hW1 hK c0 c1 c2 HB
 have KS : Hid (∀ W, Below W1.heap.size W1 W → (fun (W : World) => W.cell? ⟨K, 0, none⟩ = some (.int .i64 x.f) ∧ W.cell? ⟨K, 1, none⟩ = some (.int .i64 x.l) ∧ W.cell? ⟨K, 2, none⟩ = some (.int .i64 x.b) ∧ W.cell? ⟨B2, 0, none⟩ = some (.int .i64 b0) ∧ W.cell? ⟨B2, 1, none⟩ = some (.int .i64 b1) ∧ W.cell? ⟨B2, 2, none⟩ = some (.int .i64 b2) ∧ W.cell? ⟨B2, 3, none⟩ = some (.int .i64 b3) ∧ W.cell? ⟨B2, 4, none⟩ = some (.bool b4) ∧ W.cell? ⟨B2, 5, none⟩ = some (.int .i64 b5) ∧ W.cell? ⟨B2, 6, none⟩ = some (.slice rd rn rc) ∧ Below W1.heap.size W1 W) W) := by
  intro W hW
  have hX := HXX.out.on hW
  have hT := HT1.out.on hW
  exact ⟨hT.c0, hT.c1, hT.c2, hX.c0, hX.c1, hX.c2, hX.c3, hX.c4, hX.c5, hX.c6, hW⟩
 have hb1d : Below W1.heap.size W1 W1.drew := (Below.refl _ W1).drew
 by_cases hf : x.f = b3
 rotate_left
 · have hd4 : (x.f == b3) = false := beq_false_of_ne hf
   have HNX : Hid (dupL (last.drop (j + 1)) b3 rn = r) := by
    show _ = _
    rw [← HD.out, HDR.out, dup_miss]
    unfold hitB
    rw [decide_eq_false hf, Bool.false_and]
   refine wp_region_noPanic ?_
   refine zk [] KS ?_
   have hHeld := KS.out _ hb1d
   obtain ⟨u0, hu0⟩ := exq W1.drew
   rw [← hu0] at hHeld hb1d
   rw [← hu0]
   clear hu0
   have HU := qh hb1d
   clear hb1d
   refine zt 0 ?_
   refine zt 1 ?_
   refine zt 2 ?_
   refine zt 3 ?_
   refine zt 4 ?_
   refine zt 5 ?_
   refine zt 6 ?_
   refine zt 7 ?_
   refine zt 8 ?_
   refine zt 9 ?_
   refine zt 10 ?_
   refine zt 11 ?_
   refine zd ?_
   clear hHeld
   have HBU := qh (HB1.out.trans (HU.out.mono HB1.out.size))
   go_wp2
   go_roundw
   case rel => exact ⟨j + 1, by go_num, by omega, HNX.out, HBU.out⟩
   simp [intOf]; omega
 have hd4 : (x.f == b3) = true := by rw [hf]; simp
 obtain ⟨lv, hlv⟩ : ∃ lv, lastI b3 rn = lv := ⟨_, rfl⟩
 have HLV := qh hlv
 by_cases hll : x.l = lv
 · have hd5 : (x.l == lv) = true := by rw [hll]; simp
   have HEND : Hid (r = some x.b) := by
    show r = _
    rw [← HD.out, HDR.out, dup_hit]
    unfold hitB
    rw [hf, hlv, hll]
    simp
   clear hlv
   refine wp_region_noPanic ?_
   refine zk [] KS ?_
   have hHeld := KS.out _ hb1d
   obtain ⟨u0, hu0⟩ := exq W1.drew
   rw [← hu0] at hHeld hb1d
   rw [← hu0]
   clear hu0
   have HU0 := qh hb1d
   clear hb1d
   refine zt 0 ?_
   refine zt 1 ?_
   refine zt 2 ?_
   refine zt 3 ?_
   refine zt 4 ?_
   refine zt 5 ?_
   refine zt 6 ?_
   refine zt 7 ?_
   refine zt 8 ?_
   refine zr 9 (fun C hC => ?_)
   go_simp
   refine (prEnd_any u0 b0 b1 b2 b3 b4 b5 rd rn rc HM.out hrn lv HLV.out).mono ?_
   rintro e u1 ⟨rfl, hb2⟩
   have HU := qh (HU0.out.trans (hb2.mono HU0.out.size))
   clear hb2
   go_wp2_with fail
   have hHeld := KS.out _ HU.out
   refine zc hC hHeld ?_
   clear hC C
   refine zt 10 ?_
   refine zt 11 ?_
   refine zd ?_
   clear hHeld
   have k2 := (KS.out _ HU.out).2.2.1
   go_wp2
   go_ret2
   exact gives_dup_some HEND.out (HB0.out.trans ((HB1.out.trans (HU.out.mono HB1.out.size)).mono HB0.out.size))
 have hd5 : (x.l == lv) = false := beq_false_of_ne hll
 have HNX : Hid (dupL (last.drop (j + 1)) b3 rn = r) := by
  show _ = _
  rw [← HD.out, HDR.out, dup_miss]
  unfold hitB
  rw [hlv, decide_eq_false hll, Bool.and_false]
 clear hlv
 refine wp_region_noPanic ?_
 refine zk [] KS ?_
 have hHeld := KS.out _ hb1d
 obtain ⟨u0, hu0⟩ := exq W1.drew
 rw [← hu0] at hHeld hb1d
 rw [← hu0]
 clear hu0
 have HU0 := qh hb1d
 clear hb1d
 refine zt 0 ?_
 refine zt 1 ?_
 refine zt 2 ?_
 refine zt 3 ?_
 refine zt 4 ?_
 refine zt 5 ?_
 refine zt 6 ?_
 refine zt 7 ?_
 refine zt 8 ?_
 refine zr 9 (fun C hC => ?_)
 go_simp
 refine (prEnd_any u0 b0 b1 b2 b3 b4 b5 rd rn rc HM.out hrn lv HLV.out).mono ?_
 rintro e u1 ⟨rfl, hb2⟩
 have HU := qh (HU0.out.trans (hb2.mono HU0.out.size))
 clear hb2
 go_wp2_with fail
 have hHeld := KS.out _ HU.out
 refine zc hC hHeld ?_
 clear hC C
 refine zt 10 ?_
 refine zt 11 ?_
 refine zd ?_
 clear hHeld
 have HBU := qh (HB1.out.trans (HU.out.mono HB1.out.size))
 go_wp2
 go_roundw
 case rel => exact ⟨j + 1, by go_num, by omega, HNX.out, HBU.out⟩
 simp [intOf]; omega
def markC (known : Bool) (ep op b2 : Int) : Int := if known = false then 16 else if b2 < ep then 14 else if op < 0 then 16 else 0
def laterC (op s : Int) : Int := if 0 ≤ op then 16 else if s ≠ 0 then 15 else 0
def nextC (last : List Tr) (op s : Int) (t : Bool) : Int := if last ≠ [] ∧ followsB (lastSeq last) s = false then 15 else if 0 ≤ op ∧ t = false then 16 else 0
def pickC (r : Option Int) (k : Int) : Int × Int := match r with
 | some v => (v, 0)
 | none => (-1, k)
def GivesErr (w : World) (c : Int) (e : Ending) (w' : World) : Prop := e = .returned (.int .i64 c) ∧ Below w.heap.size w w'
theorem gives_err {w w' : World} {c k : Int} (h : c = k) (hb : Below w.heap.size w w') : GivesErr w c (.returned (.int .i64 k)) w' := ⟨by rw [h], hb⟩
theorem prMarker_any (w : World) (id ep op : Int) (ad : Option Addr) (n cap : Nat) (known : Bool) (b0 b1 b2 b3 : Int) (b4 : Bool) (b5 : Int) (rd : Option Addr) (rn rc : Nat) (c : Int) (hc : markC known ep op b2 = c) :
 Calls Tryz.prog 132 #[.agg #[.int .i64 id, .int .i64 ep, .slice ad n cap, .int .i64 op], .bool known, .agg #[.int .i64 b0, .int .i64 b1, .int .i64 b2, .int .i64 b3, .bool b4, .int .i64 b5, .slice rd rn rc]] w (GivesErr w c) := by
 have HC := qh hc
 clear hc
 obtain ⟨W0, hW0⟩ : ∃ W0, W0 = ((w.alloc (.cells #[.int .i64 id, .int .i64 ep, .slice ad n cap, .int .i64 op] 58)).alloc (.cells #[.int .i64 b0, .int .i64 b1, .int .i64 b2, .int .i64 b3, .bool b4, .int .i64 b5, .slice rd rn rc] 29)) := ⟨_, rfl⟩
 have HB0 : Hid (Below w.heap.size w W0) := by rw [hW0]; exact (bal _ _).alloc (by simp) _
 have HP0 : Hid (PBox W0 w.heap.size (id) (ep) (.slice ad n cap) (op)) := by
  show PBox _ w.heap.size (id) (ep) (.slice ad n cap) (op)
  rw [hW0]
  have h1 := pbox_new w (id) (ep) (.slice ad n cap) (op)
  have h2 := h1.on (bal _ (.cells #[.int .i64 b0, .int .i64 b1, .int .i64 b2, .int .i64 b3, .bool b4, .int .i64 b5, .slice rd rn rc] 29))
  simpa using h2
 have HX1 : Hid (BoxAt W0 (w.heap.size + 1) b0 b1 b2 b3 b4 b5 (.slice rd rn rc)) := by
  show BoxAt _ (w.heap.size + 1) b0 b1 b2 b3 b4 b5 (.slice rd rn rc)
  rw [hW0]
  have h1 := boxAt_new (w.alloc (.cells #[.int .i64 id, .int .i64 ep, .slice ad n cap, .int .i64 op] 58)) b0 b1 b2 b3 b4 b5 (.slice rd rn rc)
  simpa using h1
 have HW0 := qh hW0
 clear hW0
 obtain ⟨B1, hB1⟩ := exq w.heap.size
 obtain ⟨B2, hB2⟩ := exq (w.heap.size + 1)
 rw [← hB1] at HP0
 rw [← hB2] at HX1
 go_enter Tryz.func132, Tryz.ntmps132
 go_upto_region 1 with fail
 rw [← HW0.out, ← hB2, ← hB1]
 clear HW0 hB1 hB2
 have q0 := HP0.out.c0
 have q1 := HP0.out.c1
 have q2 := HP0.out.c2
 have q3 := HP0.out.c3
 obtain ⟨p0, p1, p2, p3, p4, p5, p6⟩ := HX1.out.cs
 cases known
 · have HE : Hid (c = 16) := by show c = _; rw [← HC.out]; rfl
   clear HC
   go_wp2
   go_ret
   exact gives_err HE.out HB0.out
 by_cases h1 : b2 < ep
 · have hd2 : decide (b2 < ep) = true := decide_eq_true h1
   have HE : Hid (c = 14) := by show c = _; rw [← HC.out]; simp [markC, h1]
   clear HC h1
   go_wp2
   go_ret
   exact gives_err HE.out HB0.out
 have hd2 : decide (b2 < ep) = false := decide_eq_false h1
 by_cases h2 : 0 ≤ op
 · have HD : Hid (decide (0 ≤ op) = true) := decide_eq_true h2
   have HE : Hid (c = 0) := by show c = _; rw [← HC.out]; simp [markC, h1, Int.not_lt.2 h2]
   clear HC h1 h2
   go_wp2_with fail
   refine (prOpen_any W0 id ep op ad n cap true HD.out).mono ?_
   rintro e w1 ⟨rfl, hb1⟩
   have HB1 := qh (HB0.out.trans (hb1.mono HB0.out.size))
   clear hb1
   go_wp2
   go_ret
   exact gives_err HE.out HB1.out
 have HD : Hid (decide (0 ≤ op) = false) := decide_eq_false h2
 have HE : Hid (c = 16) := by show c = _; rw [← HC.out]; simp [markC, h1, Int.not_le.1 h2]
 clear HC h1 h2
 go_wp2_with fail
 refine (prOpen_any W0 id ep op ad n cap false HD.out).mono ?_
 rintro e w1 ⟨rfl, hb1⟩
 have HB1 := qh (HB0.out.trans (hb1.mono HB0.out.size))
 clear hb1
 go_wp2
 go_ret
 exact gives_err HE.out HB1.out
theorem prLater_any (w : World) (id ep op : Int) (ad : Option Addr) (n cap : Nat) (b0 b1 b2 b3 : Int) (b4 : Bool) (b5 : Int) (rd : Option Addr) (rn rc : Nat) (c : Int) (hc : laterC op b3 = c) :
 Calls Tryz.prog 149 #[.agg #[.int .i64 id, .int .i64 ep, .slice ad n cap, .int .i64 op], .agg #[.int .i64 b0, .int .i64 b1, .int .i64 b2, .int .i64 b3, .bool b4, .int .i64 b5, .slice rd rn rc]] w (GivesErr w c) := by
 have HC := qh hc
 clear hc
 obtain ⟨W0, hW0⟩ : ∃ W0, W0 = ((w.alloc (.cells #[.int .i64 id, .int .i64 ep, .slice ad n cap, .int .i64 op] 58)).alloc (.cells #[.int .i64 b0, .int .i64 b1, .int .i64 b2, .int .i64 b3, .bool b4, .int .i64 b5, .slice rd rn rc] 29)) := ⟨_, rfl⟩
 have HB0 : Hid (Below w.heap.size w W0) := by rw [hW0]; exact (bal _ _).alloc (by simp) _
 have HP0 : Hid (PBox W0 w.heap.size (id) (ep) (.slice ad n cap) (op)) := by
  show PBox _ w.heap.size (id) (ep) (.slice ad n cap) (op)
  rw [hW0]
  have h1 := pbox_new w (id) (ep) (.slice ad n cap) (op)
  have h2 := h1.on (bal _ (.cells #[.int .i64 b0, .int .i64 b1, .int .i64 b2, .int .i64 b3, .bool b4, .int .i64 b5, .slice rd rn rc] 29))
  simpa using h2
 have HX1 : Hid (BoxAt W0 (w.heap.size + 1) b0 b1 b2 b3 b4 b5 (.slice rd rn rc)) := by
  show BoxAt _ (w.heap.size + 1) b0 b1 b2 b3 b4 b5 (.slice rd rn rc)
  rw [hW0]
  have h1 := boxAt_new (w.alloc (.cells #[.int .i64 id, .int .i64 ep, .slice ad n cap, .int .i64 op] 58)) b0 b1 b2 b3 b4 b5 (.slice rd rn rc)
  simpa using h1
 have HW0 := qh hW0
 clear hW0
 obtain ⟨B1, hB1⟩ := exq w.heap.size
 obtain ⟨B2, hB2⟩ := exq (w.heap.size + 1)
 rw [← hB1] at HP0
 rw [← hB2] at HX1
 go_enter Tryz.func149, Tryz.ntmps149
 go_upto_region 1 with fail
 rw [← HW0.out, ← hB2, ← hB1]
 clear HW0 hB1 hB2
 have q0 := HP0.out.c0
 have q1 := HP0.out.c1
 have q2 := HP0.out.c2
 have q3 := HP0.out.c3
 obtain ⟨p0, p1, p2, p3, p4, p5, p6⟩ := HX1.out.cs
 by_cases h2 : 0 ≤ op
 · have HD : Hid (decide (0 ≤ op) = true) := decide_eq_true h2
   have HE : Hid (c = 16) := by show c = _; rw [← HC.out]; simp [laterC, h2]
   clear HC h2
   go_wp2_with fail
   refine (prOpen_any W0 id ep op ad n cap true HD.out).mono ?_
   rintro e w1 ⟨rfl, hb1⟩
   have HB1 := qh (HB0.out.trans (hb1.mono HB0.out.size))
   clear hb1
   go_wp2
   go_ret
   exact gives_err HE.out HB1.out
 have HD : Hid (decide (0 ≤ op) = false) := decide_eq_false h2
 by_cases h3 : b3 = 0
 · have hd5 : (b3 == 0) = true := by rw [h3]; rfl
   have hd5n : (b3 != 0) = false := by rw [h3]; rfl
   have HE : Hid (c = 0) := by show c = _; rw [← HC.out]; simp [laterC, h2, h3]
   clear HC h2 h3
   go_wp2_with fail
   refine (prOpen_any W0 id ep op ad n cap false HD.out).mono ?_
   rintro e w1 ⟨rfl, hb1⟩
   have p3 := (HX1.out.on hb1).c3
   have HB1 := qh (HB0.out.trans (hb1.mono HB0.out.size))
   clear hb1
   go_wp2
   go_ret
   exact gives_err HE.out HB1.out
 have hd5 : (b3 == 0) = false := beq_false_of_ne h3
 have hd5n : (b3 != 0) = true := by unfold bne; rw [hd5]; rfl
 have HE : Hid (c = 15) := by show c = _; rw [← HC.out]; simp [laterC, h2, h3]
 clear HC h2 h3
 go_wp2_with fail
 refine (prOpen_any W0 id ep op ad n cap false HD.out).mono ?_
 rintro e w1 ⟨rfl, hb1⟩
 have p3 := (HX1.out.on hb1).c3
 have HB1 := qh (HB0.out.trans (hb1.mono HB0.out.size))
 clear hb1
 go_wp2
 go_ret
 exact gives_err HE.out HB1.out
theorem prNext_any (w : World) (id ep op : Int) (last : List Tr) (ad : Option Addr) (n cap : Nat) (hl : RowAt trK w ad n cap last) (hn : n ≤ 100000000000) (b0 b1 b2 b3 : Int) (b4 : Bool) (b5 : Int) (rd : Option Addr) (rn rc : Nat) (c : Int) (hc : nextC last op b3 b4 = c) :
 Calls Tryz.prog 151 #[.agg #[.int .i64 id, .int .i64 ep, .slice ad n cap, .int .i64 op], .agg #[.int .i64 b0, .int .i64 b1, .int .i64 b2, .int .i64 b3, .bool b4, .int .i64 b5, .slice rd rn rc]] w (GivesErr w c) := by
 have HC := qh hc
 clear hc
 obtain ⟨W0, hW0⟩ : ∃ W0, W0 = ((w.alloc (.cells #[.int .i64 id, .int .i64 ep, .slice ad n cap, .int .i64 op] 58)).alloc (.cells #[.int .i64 b0, .int .i64 b1, .int .i64 b2, .int .i64 b3, .bool b4, .int .i64 b5, .slice rd rn rc] 29)) := ⟨_, rfl⟩
 have HB0 : Hid (Below w.heap.size w W0) := by rw [hW0]; exact (bal _ _).alloc (by simp) _
 have HP0 : Hid (PBox W0 w.heap.size (id) (ep) (.slice ad n cap) (op)) := by
  show PBox _ w.heap.size (id) (ep) (.slice ad n cap) (op)
  rw [hW0]
  have h1 := pbox_new w (id) (ep) (.slice ad n cap) (op)
  have h2 := h1.on (bal _ (.cells #[.int .i64 b0, .int .i64 b1, .int .i64 b2, .int .i64 b3, .bool b4, .int .i64 b5, .slice rd rn rc] 29))
  simpa using h2
 have HX1 : Hid (BoxAt W0 (w.heap.size + 1) b0 b1 b2 b3 b4 b5 (.slice rd rn rc)) := by
  show BoxAt _ (w.heap.size + 1) b0 b1 b2 b3 b4 b5 (.slice rd rn rc)
  rw [hW0]
  have h1 := boxAt_new (w.alloc (.cells #[.int .i64 id, .int .i64 ep, .slice ad n cap, .int .i64 op] 58)) b0 b1 b2 b3 b4 b5 (.slice rd rn rc)
  simpa using h1
 have HW0 := qh hW0
 clear hW0
 obtain ⟨B1, hB1⟩ := exq w.heap.size
 obtain ⟨B2, hB2⟩ := exq (w.heap.size + 1)
 rw [← hB1] at HP0
 rw [← hB2] at HX1
 go_enter Tryz.func151, Tryz.ntmps151
 go_upto_region 1 with fail
 rw [← HW0.out, ← hB2, ← hB1]
 clear HW0 hB1 hB2
 have HL0 := qh (hl.keep HB0.out)
 clear hl
 have q0 := HP0.out.c0
 have q1 := HP0.out.c1
 have q2 := HP0.out.c2
 have q3 := HP0.out.c3
 obtain ⟨p0, p1, p2, p3, p4, p5, p6⟩ := HX1.out.cs
 by_cases h0 : n = 0
 · subst h0
   have hln := HL0.out.length
   have HCE : Hid (c = (if 0 ≤ op ∧ b4 = false then 16 else 0)) := by
    show c = _
    rw [← HC.out]
    unfold nextC
    rw [if_neg (fun h => h.1 (List.eq_nil_of_length_eq_zero hln))]
   clear hln HC
   go_upto_region 2 with fail
   have hb1d : Below W0.heap.size W0 W0.drew := (Below.refl _ W0).drew
   refine wp_region_noPanic ?_
   refine wp_region_z [] (fun (W : World) => True) (by kernel_rfl) ?_
   have hHeld : (fun (W : World) => True) W0.drew := trivial
   obtain ⟨u0, hu0⟩ := exq W0.drew
   rw [← hu0] at hb1d
   rw [← hu0]
   clear hu0
   have HU := qh hb1d
   clear hb1d
   refine zt 0 ?_
   refine zt 1 ?_
   refine zt 2 ?_
   refine zt 3 ?_
   refine zt 4 ?_
   refine zt 5 ?_
   refine zt 6 ?_
   refine zt 7 ?_
   refine zt 8 ?_
   refine zt 9 ?_
   refine zt 10 ?_
   refine zt 11 ?_
   refine zt 12 ?_
   refine zt 13 ?_
   refine zt 14 ?_
   refine zd ?_
   clear hHeld
   have HB1 := qh (HB0.out.trans (HU.out.mono HB0.out.size))
   have HP1 := qh (HP0.out.on HU.out)
   have HXX := qh (HX1.out.on HU.out)
   clear q0 q1 q2 q3 p0 p1 p2 p3 p4 p5 p6
   have q0 := HP1.out.c0
   have q1 := HP1.out.c1
   have q2 := HP1.out.c2
   have q3 := HP1.out.c3
   by_cases h3 : 0 ≤ op
   rotate_left
   · have HD : Hid (decide (0 ≤ op) = false) := decide_eq_false h3
     have HE : Hid (c = 0) := by show c = _; rw [HCE.out, if_neg (fun h => h3 h.1)]
     clear HCE h3
     go_wp2_with fail
     refine (prOpen_any _ id ep op ad 0 cap false HD.out).mono ?_
     rintro e w2 ⟨rfl, hb2⟩
     have HB2 := qh (HB1.out.trans (hb2.mono HB1.out.size))
     clear hb2 q0 q1 q2 q3
     go_wp2
     go_ret
     exact gives_err HE.out HB2.out
   have HD : Hid (decide (0 ≤ op) = true) := decide_eq_true h3
   go_wp2_with fail
   refine (prOpen_any _ id ep op ad 0 cap true HD.out).mono ?_
   rintro e w2 ⟨rfl, hb2⟩
   have HB2 := qh (HB1.out.trans (hb2.mono HB1.out.size))
   have p4 := (HXX.out.on hb2).c4
   clear hb2 q0 q1 q2 q3
   cases hb4 : b4
   · have HE : Hid (c = 16) := by show c = _; rw [HCE.out, if_pos ⟨h3, hb4⟩]
     clear HCE h3
     rw [hb4] at p4
     go_wp2
     go_ret
     exact gives_err HE.out HB2.out
   have HE : Hid (c = 0) := by show c = _; rw [HCE.out, if_neg (fun h => by rw [hb4] at h; cases h.2)]
   clear HCE h3
   rw [hb4] at p4
   go_wp2
   go_ret
   exact gives_err HE.out HB2.out
 obtain ⟨bk, off, x, rfl, hbk, hx, c0, c1, c2⟩ := tr_get HL0.out (i := n - 1) (by omega)
 have hlast : lastSeq last = x.l := by
  have hln := HL0.out.length
  unfold lastSeq
  rw [List.getLast?_eq_getElem?, hln, hx]
 have hne : last ≠ [] := fun h => by rw [h] at hx; cases hx
 obtain ⟨fo, hfo⟩ : ∃ fo, followsB x.l b3 = fo := ⟨_, rfl⟩
 have HFO := qh hfo
 have HCF : Hid (c = (if fo = false then 15 else if 0 ≤ op ∧ b4 = false then 16 else 0)) := by
  show c = _
  rw [← HC.out]
  unfold nextC
  rw [hlast, hfo]
  simp [hne]
 clear HC hlast hne hfo hx hbk
 have hn0 : decide ((0 : Int) < (n : Int)) = true := decide_eq_true (by omega)
 have hn00 : decide (0 < n) = true := decide_eq_true (by omega)
 have hnp : 0 < n := by omega
 have hi1 : (1 : Int) ≤ (n : Int) := by omega
 have hi2 : (n : Int) - 1 < (n : Int) := by omega
 have hi3 : ((n : Int) - 1).toNat = n - 1 := by omega
 have hi4 : IntKind.i64.wrap ((n : Int) - 1) = (n : Int) - 1 := IntWalk.i64_in _ (by omega)
 have KS : Hid (∀ W, Below W0.heap.size W0 W → (fun (W : World) => W.cell? ⟨B1, 0, none⟩ = some (.int .i64 id) ∧ W.cell? ⟨B1, 1, none⟩ = some (.int .i64 ep) ∧ W.cell? ⟨B1, 2, none⟩ = some (.slice (some ⟨bk, off, none⟩) n cap) ∧ W.cell? ⟨B1, 3, none⟩ = some (.int .i64 op) ∧ W.cell? ⟨B2, 0, none⟩ = some (.int .i64 b0) ∧ W.cell? ⟨B2, 1, none⟩ = some (.int .i64 b1) ∧ W.cell? ⟨B2, 2, none⟩ = some (.int .i64 b2) ∧ W.cell? ⟨B2, 3, none⟩ = some (.int .i64 b3) ∧ W.cell? ⟨B2, 4, none⟩ = some (.bool b4) ∧ W.cell? ⟨B2, 5, none⟩ = some (.int .i64 b5) ∧ W.cell? ⟨B2, 6, none⟩ = some (.slice rd rn rc) ∧ W.cell? ⟨bk, off + (n - 1) * 3 + 1, none⟩ = some (.int .i64 x.l) ∧ Below W0.heap.size W0 W) W) := by
  intro W hW
  have hP := HP0.out.on hW
  have hX := HX1.out.on hW
  refine ⟨hP.c0, hP.c1, hP.c2, hP.c3, hX.c0, hX.c1, hX.c2, hX.c3, hX.c4, hX.c5, hX.c6, ?_, hW⟩
  rw [hW.cell (p := ⟨bk, off + (n - 1) * 3 + 1, none⟩) (World.block_lt_of_cell? _ _ c1)]
  exact c1
 have hb1d : Below W0.heap.size W0 W0.drew := (Below.refl _ W0).drew
 go_upto_region 2 with fail
 refine wp_region_noPanic ?_
 refine zk [] KS ?_
 have hHeld := KS.out _ hb1d
 obtain ⟨u0, hu0⟩ := exq W0.drew
 rw [← hu0] at hHeld hb1d
 rw [← hu0]
 clear hu0
 have HU := qh hb1d
 clear hb1d
 refine zt 0 ?_
 refine zt 1 ?_
 refine zt 2 ?_
 refine zt 3 ?_
 refine zt 4 ?_
 refine zt 5 ?_
 refine zt 6 ?_
 refine zt 7 ?_
 refine zt 8 ?_
 refine zt 9 ?_
 refine zt 10 ?_
 refine zt 11 ?_
 refine zr 12 (fun C hC => ?_)
 go_simp
 refine (seq_follows x.l b3 u0 fo HFO.out).mono ?_
 rintro e u1 ⟨rfl, rfl⟩
 go_wp2_with fail
 have hHeld := hq KS _ (hHeld)
 refine zc hC hHeld ?_
 clear hC C
 refine zt 13 ?_
 refine zt 14 ?_
 refine zd ?_
 clear hHeld
 have HB1 := qh (HB0.out.trans (HU.out.mono HB0.out.size))
 have HP1 := qh (HP0.out.on HU.out)
 have HXX := qh (HX1.out.on HU.out)
 clear q0 q1 q2 q3 p0 p1 p2 p3 p4 p5 p6 KS c0 c1 c2
 cases fo with
 | false =>
   have HE : Hid (c = 15) := HCF.out
   clear HCF
   go_wp2
   go_ret
   exact gives_err HE.out HB1.out
 | true =>
   have HCE : Hid (c = (if 0 ≤ op ∧ b4 = false then 16 else 0)) := HCF.out
   clear HCF
   have q0 := HP1.out.c0
   have q1 := HP1.out.c1
   have q2 := HP1.out.c2
   have q3 := HP1.out.c3
   by_cases h3 : 0 ≤ op
   rotate_left
   · have HD : Hid (decide (0 ≤ op) = false) := decide_eq_false h3
     have HE : Hid (c = 0) := by show c = _; rw [HCE.out, if_neg (fun h => h3 h.1)]
     clear HCE h3
     go_wp2_with fail
     refine (prOpen_any _ id ep op (some ⟨bk, off, none⟩) n cap false HD.out).mono ?_
     rintro e w2 ⟨rfl, hb2⟩
     have HB2 := qh (HB1.out.trans (hb2.mono HB1.out.size))
     clear hb2 q0 q1 q2 q3
     go_wp2
     go_ret
     exact gives_err HE.out HB2.out
   have HD : Hid (decide (0 ≤ op) = true) := decide_eq_true h3
   go_wp2_with fail
   refine (prOpen_any _ id ep op (some ⟨bk, off, none⟩) n cap true HD.out).mono ?_
   rintro e w2 ⟨rfl, hb2⟩
   have HB2 := qh (HB1.out.trans (hb2.mono HB1.out.size))
   have p4 := (HXX.out.on hb2).c4
   clear hb2 q0 q1 q2 q3
   cases hb4 : b4
   · have HE : Hid (c = 16) := by show c = _; rw [HCE.out, if_pos ⟨h3, hb4⟩]
     clear HCE h3
     rw [hb4] at p4
     go_wp2
     go_ret
     exact gives_err HE.out HB2.out
   have HE : Hid (c = 0) := by show c = _; rw [HCE.out, if_neg (fun h => by rw [hb4] at h; cases h.2)]
   clear HCE h3
   rw [hb4] at p4
   go_wp2
   go_ret
   exact gives_err HE.out HB2.out
theorem prData_any (w : World) (id ep op : Int) (last : List Tr) (ad : Option Addr) (n cap : Nat) (hl : RowAt trK w ad n cap last) (hn : n ≤ 100000000000) (b0 b1 b2 b3 : Int) (b4 : Bool) (b5 : Int) (rd : Option Addr) (rn rc : Nat) (hm : b5 = 0) (hrn : rn ≤ 140737488355328) (c : Int × Int) (hc : (if b2 < ep then (-1, 14) else if ep < b2 then (-1, laterC op b3) else pickC (dupL last b3 rn) (nextC last op b3 b4)) = c) :
 Calls Tryz.prog 133 #[.agg #[.int .i64 id, .int .i64 ep, .slice ad n cap, .int .i64 op], .agg #[.int .i64 b0, .int .i64 b1, .int .i64 b2, .int .i64 b3, .bool b4, .int .i64 b5, .slice rd rn rc]] w (GivesPair w c) := by
 have HC := qh hc
 have HM := qh hm
 clear hc hm
 obtain ⟨W0, hW0⟩ : ∃ W0, W0 = ((w.alloc (.cells #[.int .i64 id, .int .i64 ep, .slice ad n cap, .int .i64 op] 58)).alloc (.cells #[.int .i64 b0, .int .i64 b1, .int .i64 b2, .int .i64 b3, .bool b4, .int .i64 b5, .slice rd rn rc] 29)) := ⟨_, rfl⟩
 have HB0 : Hid (Below w.heap.size w W0) := by rw [hW0]; exact (bal _ _).alloc (by simp) _
 have HP0 : Hid (PBox W0 w.heap.size (id) (ep) (.slice ad n cap) (op)) := by
  show PBox _ w.heap.size (id) (ep) (.slice ad n cap) (op)
  rw [hW0]
  have h1 := pbox_new w (id) (ep) (.slice ad n cap) (op)
  have h2 := h1.on (bal _ (.cells #[.int .i64 b0, .int .i64 b1, .int .i64 b2, .int .i64 b3, .bool b4, .int .i64 b5, .slice rd rn rc] 29))
  simpa using h2
 have HX1 : Hid (BoxAt W0 (w.heap.size + 1) b0 b1 b2 b3 b4 b5 (.slice rd rn rc)) := by
  show BoxAt _ (w.heap.size + 1) b0 b1 b2 b3 b4 b5 (.slice rd rn rc)
  rw [hW0]
  have h1 := boxAt_new (w.alloc (.cells #[.int .i64 id, .int .i64 ep, .slice ad n cap, .int .i64 op] 58)) b0 b1 b2 b3 b4 b5 (.slice rd rn rc)
  simpa using h1
 have HW0 := qh hW0
 clear hW0
 obtain ⟨B1, hB1⟩ := exq w.heap.size
 obtain ⟨B2, hB2⟩ := exq (w.heap.size + 1)
 rw [← hB1] at HP0
 rw [← hB2] at HX1
 go_enter Tryz.func133, Tryz.ntmps133
 go_upto_region 1 with fail
 rw [← HW0.out, ← hB2, ← hB1]
 clear HW0 hB1 hB2
 have HL0 := qh (hl.keep HB0.out)
 clear hl
 have q0 := HP0.out.c0
 have q1 := HP0.out.c1
 have q2 := HP0.out.c2
 have q3 := HP0.out.c3
 obtain ⟨p0, p1, p2, p3, p4, p5, p6⟩ := HX1.out.cs
 by_cases h1 : b2 < ep
 · have hd2 : decide (b2 < ep) = true := decide_eq_true h1
   have HE : Hid (c = (-1, 14)) := by show c = _; rw [← HC.out, if_pos h1]
   clear HC h1
   go_wp2
   go_ret2
   exact gives_pair HE.out HB0.out
 have hd2 : decide (b2 < ep) = false := decide_eq_false h1
 by_cases h2 : ep < b2
 · have hd3 : decide (ep < b2) = true := decide_eq_true h2
   obtain ⟨k, hk⟩ : ∃ k, laterC op b3 = k := ⟨_, rfl⟩
   have HE : Hid (c = (-1, k)) := by show c = _; rw [← HC.out, if_neg h1, if_pos h2, hk]
   have HK := qh hk
   clear HC h1 h2 hk
   go_wp2_with fail
   refine (prLater_any W0 id ep op ad n cap b0 b1 b2 b3 b4 b5 rd rn rc k HK.out).mono ?_
   rintro e w1 ⟨rfl, hb1⟩
   have HB1 := qh (HB0.out.trans (hb1.mono HB0.out.size))
   clear hb1
   go_wp2
   go_ret2
   exact gives_pair HE.out HB1.out
 have hd3 : decide (ep < b2) = false := decide_eq_false h2
 have heq : b2 = ep := by omega
 obtain ⟨r, hr⟩ : ∃ r, dupL last b3 rn = r := ⟨_, rfl⟩
 have HRR : Hid ((if b2 = ep ∧ b5 = 0 then dupL last b3 rn else none) = r) := by show _ = _; rw [if_pos ⟨heq, HM.out⟩]; exact hr
 have HCC : Hid (c = pickC r (nextC last op b3 b4)) := by show c = _; rw [← HC.out, if_neg h1, if_neg h2, hr]
 clear HC hr heq h1 h2
 go_wp2_with fail
 refine (prDup_any W0 id ep op last ad n cap HL0.out hn b0 b1 b2 b3 b4 b5 rd rn rc hrn r HRR.out).mono ?_
 rintro e w1 ⟨rfl, hb1⟩
 have HP1 := qh (HP0.out.on hb1)
 have HX2 := qh (HX1.out.on hb1)
 have HL1 := qh (HL0.out.keep hb1)
 have HBB := qh (HB0.out.trans (hb1.mono HB0.out.size))
 clear hb1 HRR q0 q1 q2 q3 p0 p1 p2 p3 p4 p5 p6
 cases r with
 | some v =>
   have HE : Hid (c = (v, 0)) := HCC.out
   clear HCC
   simp only [Option.getD_some, Option.isSome_some]
   go_wp2
   go_ret2
   exact gives_pair HE.out HBB.out
 | none =>
   simp only [Option.getD_none, Option.isSome_none]
   obtain ⟨k, hk⟩ : ∃ k, nextC last op b3 b4 = k := ⟨_, rfl⟩
   have HE : Hid (c = (-1, k)) := by show c = _; rw [HCC.out, hk]; rfl
   have HK := qh hk
   clear HCC hk
   have q0 := HP1.out.c0
   have q1 := HP1.out.c1
   have q2 := HP1.out.c2
   have q3 := HP1.out.c3
   obtain ⟨p0, p1, p2, p3, p4, p5, p6⟩ := HX2.out.cs
   go_wp2_with fail
   refine (prNext_any w1 id ep op last ad n cap HL1.out hn b0 b1 b2 b3 b4 b5 rd rn rc k HK.out).mono ?_
   rintro e w2 ⟨rfl, hb2⟩
   have HB2 := qh (HBB.out.trans (hb2.mono HBB.out.size))
   clear hb2
   go_wp2
   go_ret2
   exact gives_pair HE.out HB2.out
theorem check_parts (id ep op : Int) (last : List Tr) (known : Bool) (b0 b1 b2 b3 : Int) (b4 : Bool) (b5 : Int) (recs : List Rc) :
 checkD ⟨id, ep, last, op⟩ known ⟨b0, b1, b2, b3, b4, b5, recs⟩ = (if b5 ≠ 0 then (-1, markC known ep op b2) else if known = false then (-1, 0) else (if b2 < ep then (-1, 14) else if ep < b2 then (-1, laterC op b3) else pickC (dupL last b3 recs.length) (nextC last op b3 b4))) := by
 unfold checkD markC laterC nextC pickC
 simp only
 split
 · repeat' split
   all_goals rfl
 split
 · rfl
 split
 · rfl
 split
 · repeat' split
   all_goals rfl
 cases dupL last b3 recs.length with
 | some v => rfl
 | none =>
   simp only
   repeat' split
   all_goals rfl
theorem prCheck_any (w : World) (id ep op : Int) (last : List Tr) (ad : Option Addr) (n cap : Nat) (hl : RowAt trK w ad n cap last) (hn : n ≤ 100000000000) (known : Bool) (b0 b1 b2 b3 : Int) (b4 : Bool) (b5 : Int) (recs : List Rc) (rd : Option Addr) (rn rc : Nat) (hrl : recs.length = rn) (hrn : rn ≤ 140737488355328) (c : Int × Int) (hc : checkD ⟨id, ep, last, op⟩ known ⟨b0, b1, b2, b3, b4, b5, recs⟩ = c) :
 Calls Tryz.prog 102 #[.agg #[.int .i64 id, .int .i64 ep, .slice ad n cap, .int .i64 op], .bool known, .agg #[.int .i64 b0, .int .i64 b1, .int .i64 b2, .int .i64 b3, .bool b4, .int .i64 b5, .slice rd rn rc]] w (GivesPair w c) := by
 rw [check_parts, hrl] at hc
 have HC := qh hc
 clear hc hrl
 obtain ⟨W0, hW0⟩ : ∃ W0, W0 = ((w.alloc (.cells #[.int .i64 id, .int .i64 ep, .slice ad n cap, .int .i64 op] 58)).alloc (.cells #[.int .i64 b0, .int .i64 b1, .int .i64 b2, .int .i64 b3, .bool b4, .int .i64 b5, .slice rd rn rc] 29)) := ⟨_, rfl⟩
 have HB0 : Hid (Below w.heap.size w W0) := by rw [hW0]; exact (bal _ _).alloc (by simp) _
 have HP0 : Hid (PBox W0 w.heap.size (id) (ep) (.slice ad n cap) (op)) := by
  show PBox _ w.heap.size (id) (ep) (.slice ad n cap) (op)
  rw [hW0]
  have h1 := pbox_new w (id) (ep) (.slice ad n cap) (op)
  have h2 := h1.on (bal _ (.cells #[.int .i64 b0, .int .i64 b1, .int .i64 b2, .int .i64 b3, .bool b4, .int .i64 b5, .slice rd rn rc] 29))
  simpa using h2
 have HX1 : Hid (BoxAt W0 (w.heap.size + 1) b0 b1 b2 b3 b4 b5 (.slice rd rn rc)) := by
  show BoxAt _ (w.heap.size + 1) b0 b1 b2 b3 b4 b5 (.slice rd rn rc)
  rw [hW0]
  have h1 := boxAt_new (w.alloc (.cells #[.int .i64 id, .int .i64 ep, .slice ad n cap, .int .i64 op] 58)) b0 b1 b2 b3 b4 b5 (.slice rd rn rc)
  simpa using h1
 have HW0 := qh hW0
 clear hW0
 obtain ⟨B1, hB1⟩ := exq w.heap.size
 obtain ⟨B2, hB2⟩ := exq (w.heap.size + 1)
 rw [← hB1] at HP0
 rw [← hB2] at HX1
 go_enter Tryz.func102, Tryz.ntmps102
 go_upto_region 1 with fail
 rw [← HW0.out, ← hB2, ← hB1]
 clear HW0 hB1 hB2
 have HL0 := qh (hl.keep HB0.out)
 clear hl
 have q0 := HP0.out.c0
 have q1 := HP0.out.c1
 have q2 := HP0.out.c2
 have q3 := HP0.out.c3
 obtain ⟨p0, p1, p2, p3, p4, p5, p6⟩ := HX1.out.cs
 by_cases hm : b5 = 0
 rotate_left
 · have hd1 : (b5 == 0) = false := beq_false_of_ne hm
   have hd1n : (b5 != 0) = true := by unfold bne; rw [hd1]; rfl
   obtain ⟨k, hk⟩ : ∃ k, markC known ep op b2 = k := ⟨_, rfl⟩
   have HE : Hid (c = (-1, k)) := by show c = _; rw [← HC.out, if_pos hm, hk]
   have HK := qh hk
   clear HC hm hk
   go_wp2_with fail
   refine (prMarker_any W0 id ep op ad n cap known b0 b1 b2 b3 b4 b5 rd rn rc k HK.out).mono ?_
   rintro e w1 ⟨rfl, hb1⟩
   have HB1 := qh (HB0.out.trans (hb1.mono HB0.out.size))
   clear hb1
   go_wp2
   go_ret2
   exact gives_pair HE.out HB1.out
 have hd1 : (b5 == 0) = true := by rw [hm]; rfl
 have hd1n : (b5 != 0) = false := by rw [hm]; rfl
 cases known
 · have HE : Hid (c = (-1, 0)) := by show c = _; rw [← HC.out, if_neg (fun h => h hm), if_pos rfl]
   clear HC hm
   go_wp2
   go_ret2
   exact gives_pair HE.out HB0.out
 have HE : Hid ((if b2 < ep then (-1, 14) else if ep < b2 then (-1, laterC op b3) else pickC (dupL last b3 rn) (nextC last op b3 b4)) = c) := by
  have h3 := HC.out
  rw [if_neg (fun h => h hm), if_neg (fun h => by cases h)] at h3
  exact h3
 have HM := qh hm
 clear HC hm
 go_wp2_with fail
 refine (prData_any W0 id ep op last ad n cap HL0.out hn b0 b1 b2 b3 b4 b5 rd rn rc HM.out hrn c HE.out).mono ?_
 rintro e w1 ⟨rfl, hb1⟩
 have HB1 := qh (HB0.out.trans (hb1.mono HB0.out.size))
 clear hb1 HE
 obtain ⟨x, y⟩ := c
 go_wp2
 go_ret2
 exact gives_pair rfl HB1.out
end Go.Proofs.YtjmfdildnojknaaGreat
