/- Parts of a proof, merged: MapAs, ProdGet. -/
import Derived.Maps.RangeRun
import Derived.Maps.RangeWalk
import Derived.Maps.Keyed
import Derived.Laws.ResultCell
import Derived.Test.YtgohekjkbgfeeaaGreatKg2
import Derived.Test.YtgohekjkbgfeeaaGreatKg8
namespace Go.Proofs.YtgohekjkbgfeeaaGreat
open Go.RowKit
open Go.ChangeMaps (setBlock)
open Go.Maps (Keyed)
set_option linter.unusedVariables false

/-- An entry as the map has it. -/
def entryP (e : MapEntry) : Value × Value := (e.key, e.val)
/-- Block km is a map of these things. -/
def MapAs {α : Type} (P : Program) (k : TypeId) (f : α → Value × Value) (w : World) (km : Nat) (ps : List α) : Prop :=
  ∃ es clock, w.heap[km]? = some (.map es clock) ∧ MapKept.Stamped es clock ∧ (es.toList.map entryP).Perm (ps.map f) ∧ ∀ p ∈ ps, ∃ l, keyOf P k (f p).1 = some l
section
variable {α : Type} {P : Program} {k : TypeId} {f : α → Value × Value} {w w' : World} {km : Nat} {ps : List α}
theorem MapAs.lt (h : MapAs P k f w km ps) : km < w.heap.size := by
  obtain ⟨es, clock, hb, _⟩ := h
  exact (Array.getElem?_eq_some_iff.1 hb).1
theorem MapAs.same (h : MapAs P k f w km ps) (he : w'.heap[km]? = w.heap[km]?) : MapAs P k f w' km ps := by
  obtain ⟨es, clock, hb, r⟩ := h
  exact ⟨es, clock, he.trans hb, r⟩
theorem MapAs.on (h : MapAs P k f w km ps) (hb : Below w.heap.size w w') : MapAs P k f w' km ps := h.same (hb.block km h.lt)
theorem MapAs.grown {r : Option Nat} (h : MapAs P k f w km ps) (hg : w.grownBy w' r) (hr : r ≠ some km) : MapAs P k f w' km ps := h.same (hg.block km h.lt fun e => hr e.symm)
theorem MapAs.perm {qs : List α} (h : MapAs P k f w km ps) (hp : ps.Perm qs) : MapAs P k f w km qs := by
  obtain ⟨es, clock, hb, hs, hq, hn⟩ := h
  exact ⟨es, clock, hb, hs, hq.trans (hp.map _), fun p h => hn p (hp.mem_iff.2 h)⟩
theorem mapAs_new (P : Program) (k : TypeId) (f : α → Value × Value) (w : World) : MapAs P k f (w.alloc (.map #[] 0)) w.heap.size ([] : List α) := ⟨#[], 0, heap_alloc_new w _, MapKept.stamped_empty 0, List.Perm.refl _, fun p h => by cases h⟩
/-- No key stands twice. -/
theorem MapAs.keys (h : MapAs P k f w km ps) : (ps.map fun p => (f p).1).Pairwise (· ≠ ·) := by
  obtain ⟨es, clock, hb, hs, hq, hn⟩ := h
  have h3 := ((MapKept.stamped_iff es clock).1 hs).2.2
  have h4 : (es.toList.map entryP).Pairwise (fun a b => a.1 ≠ b.1) := by rw [List.pairwise_map]; exact h3
  have h5 : (ps.map f).Pairwise (fun a b => a.1 ≠ b.1) := (hq.pairwise_iff (fun {_ _} h => Ne.symm h)).1 h4
  rw [List.pairwise_map] at h5 ⊢
  exact h5
theorem MapAs.size (h : MapAs P k f w km ps) : ∃ es clock, w.heap[km]? = some (.map es clock) ∧ es.size = ps.length := by
  obtain ⟨es, clock, hb, hs, hq, hn⟩ := h
  refine ⟨es, clock, hb, ?_⟩
  have := hq.length_eq
  simpa using this
theorem MapAs.one (h : MapAs P k f w km ps) {p q : α} (hp : p ∈ ps) (hq : q ∈ ps) (e : (f p).1 = (f q).1) : p = q := by
  have hn := h.keys
  obtain ⟨i, hi⟩ := List.getElem?_of_mem hp
  obtain ⟨j, hj⟩ := List.getElem?_of_mem hq
  have hi' : (ps.map fun p => (f p).1)[i]? = some (f p).1 := by rw [List.getElem?_map, hi]; rfl
  have hj' : (ps.map fun p => (f p).1)[j]? = some (f p).1 := by rw [List.getElem?_map, hj, e]; rfl
  have hil : i < (ps.map fun p => (f p).1).length := (List.getElem?_eq_some_iff.1 hi').1
  have := (List.getElem?_inj (i := i) (j := j) hil hn).1 (hi'.trans hj'.symm)
  subst this
  exact Option.some.inj (hi.symm.trans hj)
theorem permAs_set {α : Type} : ∀ (l : List α) (j : Nat) (x y : α), l[j]? = some x → (l.set j y).Perm (y :: l.eraseIdx j) ∧ l.Perm (x :: l.eraseIdx j)
  | [], j, x, y, h => by cases j <;> cases h
  | a :: l, 0, x, y, h => by cases h; exact ⟨List.Perm.refl _, List.Perm.refl _⟩
  | a :: l, j + 1, x, y, h => by
    obtain ⟨h1, h2⟩ := permAs_set l j x y h
    exact ⟨(h1.cons a).trans (List.Perm.swap _ _ _), (h2.cons a).trans (List.Perm.swap _ _ _)⟩
section
variable {t e : TypeId} (ht : P.underlying t = some (.map k e)) (K : Keyed P k)
include K in
theorem mapAs_find (h : MapAs P k f w km ps) (key : Value) (hk : ∃ l, keyOf P k key = some l) : ∃ es clock, w.heap[km]? = some (.map es clock) ∧ MapKept.Stamped es clock ∧ (es.toList.map entryP).Perm (ps.map f) ∧
    (((Instr.findKey k key es.toList).run P w = .ok none w ∧ (∀ e ∈ es.toList, e.key ≠ key) ∧ ∀ p ∈ ps, (f p).1 ≠ key) ∨
     ∃ j e0 p, (Instr.findKey k key es.toList).run P w = .ok (some (j, (f p).2)) w ∧ es.toList[j]? = some e0 ∧ e0.key = key ∧ e0.val = (f p).2 ∧ p ∈ ps ∧ (f p).1 = key) := by
  obtain ⟨es, clock, hb, hs, hq, hz⟩ := h
  refine ⟨es, clock, hb, hs, hq, ?_⟩
  obtain ⟨lk, hlk⟩ := hk
  have hes : ∀ x ∈ es.toList, ∃ p ∈ ps, x.key = (f p).1 ∧ x.val = (f p).2 := fun x hx => by
    obtain ⟨p, hp, e⟩ := List.mem_map.1 (hq.mem_iff.1 (List.mem_map.2 ⟨x, hx, rfl⟩))
    exact ⟨p, hp, by rw [e]; rfl, by rw [e]; rfl⟩
  rcases K.find w hlk es.toList (fun x hx => by
    obtain ⟨p, hp, e, _⟩ := hes x hx
    obtain ⟨l, hl⟩ := hz p hp
    exact ⟨l, by rw [e]; exact hl⟩) with ⟨h1, h2⟩ | ⟨j, e0, h1, h2, h3⟩
  · refine .inl ⟨h1, h2, fun p hp en => ?_⟩
    obtain ⟨x, hx, e⟩ := List.mem_map.1 (hq.mem_iff.2 (List.mem_map.2 ⟨p, hp, rfl⟩))
    have e1 : x.key = (f p).1 := by rw [← e]; rfl
    exact h2 x hx (by rw [e1, en])
  · obtain ⟨p, hp, e1, e2⟩ := hes e0 (List.mem_of_getElem? h2)
    rw [h3] at e1
    exact .inr ⟨j, e0, p, by rw [← e2]; exact h1, h2, h3, e2, hp, e1.symm⟩
include ht K
/-- 'm[k]' where the map has no such key. -/
theorem mapAs_none (h : MapAs P k f w km ps) (key : Value) (hk : ∃ l, keyOf P k key = some l) (h0 : ∀ p ∈ ps, (f p).1 ≠ key) (z : Value) (hz : (zeroValue e).run P w = .ok z w) (ok : Bool) : (Instr.lookup t (.map (some km)) key ok).run P w = .ok (if ok = true then .tuple #[z, .bool false] else z) w := by
  obtain ⟨es, clock, hb, hs, hq, h1⟩ := mapAs_find K h key hk
  obtain ⟨lk, hlk⟩ := hk
  rcases h1 with ⟨h1, _, _⟩ | ⟨j, e0, p, _, _, _, _, hm, he⟩
  · cases ok <;> simp [Instr.lookup, run_underlying ht, MapKept.run_getObj_map hb, K.check w _ hlk, h1, hz, Result.andThen]
  · exact absurd he (h0 _ hm)
/-- 'm[k]' where it has. -/
theorem mapAs_some (h : MapAs P k f w km ps) (p : α) (hm : p ∈ ps) (ok : Bool) : (Instr.lookup t (.map (some km)) (f p).1 ok).run P w = .ok (if ok = true then .tuple #[(f p).2, .bool true] else (f p).2) w := by
  have hk : ∃ l, keyOf P k (f p).1 = some l := by obtain ⟨_, _, _, _, _, hz⟩ := h; exact hz p hm
  obtain ⟨es, clock, hb, hs, hq, h1⟩ := mapAs_find K h (f p).1 hk
  obtain ⟨lk, hlk⟩ := hk
  rcases h1 with ⟨_, _, h2⟩ | ⟨j, e0, p', h1, _, _, _, hm', he⟩
  · exact absurd rfl (h2 _ hm)
  · have e := h.one hm hm' he.symm
    subst e
    cases ok <;> simp [Instr.lookup, run_underlying ht, MapKept.run_getObj_map hb, K.check w _ hlk, h1, Result.andThen]
/-- 'm[k] = v', a new key. -/
theorem mapAs_put (h : MapAs P k f w km ps) (p : α) (hk : ∃ l, keyOf P k (f p).1 = some l) (h0 : ∀ q ∈ ps, (f q).1 ≠ (f p).1) : ∃ w', (Instr.mapUpdate t (.map (some km)) (f p).1 (f p).2).run P w = .ok () w' ∧ MapAs P k f w' km (p :: ps) ∧ w.grownBy w' (some km) ∧ w'.heap.size = w.heap.size := by
  have hz : ∀ p ∈ ps, ∃ l, keyOf P k (f p).1 = some l := by obtain ⟨_, _, _, _, _, hz⟩ := h; exact hz
  have hk2 := hk
  obtain ⟨es, clock, hb, hs, hq, h1⟩ := mapAs_find K h (f p).1 hk
  obtain ⟨lk, hlk⟩ := hk
  have hgr : ∀ o', w.grownBy (setBlock w km o') (some km) := fun o' => ⟨rfl, rfl, rfl, by simp [setBlock], fun i _ hi => ChangeMaps.heap_setBlock_other hb _ (fun e => hi (by rw [e]))⟩
  rcases h1 with ⟨h1, h2, _⟩ | ⟨j, e0, p', _, _, _, _, hm, he⟩
  · refine ⟨setBlock w km (.map (es.push ⟨(f p).1, (f p).2, clock⟩) (clock + 1)), ?_, ⟨_, _, ChangeMaps.heap_setBlock_same hb _, MapKept.stamped_push hs h2, ?_, fun q hq => ?_⟩, hgr _, by simp [setBlock]⟩
    · simp [Instr.mapUpdate, run_underlying ht, MapKept.run_getObj_map hb, K.check w false hlk, h1, MapKept.run_setObj_map _ hb, Result.andThen, setBlock]
    · rw [Array.toList_push, List.map_append, List.map_cons]
      exact (List.perm_append_singleton _ _).trans (hq.cons _)
    · rcases List.mem_cons.1 hq with rfl | hq
      · exact hk2
      · exact hz q hq
  · exact absurd he (h0 _ hm)
/-- 'm[k] = v', a key that is there. -/
theorem mapAs_set {p0 : α} (h : MapAs P k f w km (p0 :: ps)) (p : α) (h0 : (f p0).1 = (f p).1) : ∃ w', (Instr.mapUpdate t (.map (some km)) (f p).1 (f p).2).run P w = .ok () w' ∧ MapAs P k f w' km (p :: ps) ∧ w.grownBy w' (some km) ∧ w'.heap.size = w.heap.size := by
  have hz : ∀ p ∈ p0 :: ps, ∃ l, keyOf P k (f p).1 = some l := by obtain ⟨_, _, _, _, _, hz⟩ := h; exact hz
  have hk : ∃ l, keyOf P k (f p).1 = some l := by have := hz p0 (by simp); rw [h0] at this; exact this
  have hk2 := hk
  obtain ⟨es, clock, hb, hs, hq, h1⟩ := mapAs_find K h (f p).1 hk
  obtain ⟨lk, hlk⟩ := hk
  have hgr : ∀ o', w.grownBy (setBlock w km o') (some km) := fun o' => ⟨rfl, rfl, rfl, by simp [setBlock], fun i _ hi => ChangeMaps.heap_setBlock_other hb _ (fun e => hi (by rw [e]))⟩
  rcases h1 with ⟨h1, h2, h3⟩ | ⟨j, e0, p', h1, h2, h3, h4, hm, he⟩
  · exact absurd h0 (h3 _ (by simp))
  · have e2 : p0 = p' := h.one (by simp) hm (h0.trans he.symm)
    subst e2
    have hj : es[j]? = some e0 := by simpa using h2
    have hkeyf : ∀ e', es[j]? = some e' → ({ e' with key := (f p).1, val := (f p).2 } : MapEntry).key = e'.key := fun e' he' => by rw [hj] at he'; cases he'; exact h3.symm
    have hlist : (es.modify j (fun e' => { e' with key := (f p).1, val := (f p).2 })).toList = es.toList.set j { e0 with key := (f p).1, val := (f p).2 } := by rw [Array.toList_modify, ChangeMaps.modify_eq_set _ _ _ _ h2]
    refine ⟨setBlock w km (.map (es.modify j (fun e' => { e' with key := (f p).1, val := (f p).2 })) clock), ?_, ⟨_, _, ChangeMaps.heap_setBlock_same hb _, MapKept.stamped_modify hs _ _ (fun _ _ => rfl) (fun e' _ he' => hkeyf e' he'), ?_, fun q hq => ?_⟩, hgr _, by simp [setBlock]⟩
    · simp [Instr.mapUpdate, run_underlying ht, MapKept.run_getObj_map hb, K.check w false hlk, h1, hj, h3, K.stays w hlk, MapKept.run_setObj_map _ hb, Result.andThen, setBlock]
    · obtain ⟨s1, s2⟩ := permAs_set es.toList j e0 { e0 with key := (f p).1, val := (f p).2 } h2
      have e1 : entryP e0 = f p0 := by
        show (e0.key, e0.val) = _
        rw [h3, h4, ← h0]
      have a1 := (s2.map entryP).symm.trans hq
      rw [List.map_cons, List.map_cons, e1] at a1
      rw [hlist]
      refine (s1.map entryP).trans ?_
      rw [List.map_cons, List.map_cons]
      exact a1.cons_inv.cons _
    · rcases List.mem_cons.1 hq with rfl | hq
      · exact hk2
      · exact hz q (by simp [hq])
end
/-- 'for .. range m' under way: block km is the map, block r the iterator; 'dn' has come, 'left' has not come yet. -/
def RangeAs (P : Program) (k : TypeId) (f : α → Value × Value) (w : World) (km r : Nat) (ps dn left : List α) : Prop :=
  ∃ es clock since seen c0, w.heap[km]? = some (.map es clock) ∧ MapKept.Stamped es clock ∧ (es.toList.map entryP).Perm (ps.map f) ∧ (∀ p ∈ ps, ∃ l, keyOf P k (f p).1 = some l) ∧
    w.heap[r]? = some (.mapIter (some km) since seen c0) ∧ (∀ x ∈ es.toList, x.born < since) ∧ since ≤ c0 ∧ since ≤ clock ∧ ((leftOf es seen).toList.map entryP).Perm (left.map f) ∧ ps.Perm (dn ++ left)
variable {dn left : List α} {r : Nat}
theorem RangeAs.map (h : RangeAs P k f w km r ps dn left) : MapAs P k f w km ps := by
  obtain ⟨es, clock, since, seen, c0, hb, hs, hq, hz, _⟩ := h
  exact ⟨es, clock, hb, hs, hq, hz⟩
theorem RangeAs.all (h : RangeAs P k f w km r ps dn left) : ps.Perm (dn ++ left) := by
  obtain ⟨es, clock, since, seen, c0, hb, hs, hq, hz, hr, h1, h2, h3, h4, h5⟩ := h
  exact h5
theorem RangeAs.lt (h : RangeAs P k f w km r ps dn left) : r < w.heap.size := by
  obtain ⟨es, clock, since, seen, c0, hb, hs, hq, hz, hr, _⟩ := h
  exact (Array.getElem?_eq_some_iff.1 hr).1
theorem RangeAs.same (h : RangeAs P k f w km r ps dn left) (h1 : w'.heap[km]? = w.heap[km]?) (h2 : w'.heap[r]? = w.heap[r]?) : RangeAs P k f w' km r ps dn left := by
  obtain ⟨es, clock, since, seen, c0, hb, hs, hq, hz, hr, rest⟩ := h
  exact ⟨es, clock, since, seen, c0, h1.trans hb, hs, hq, hz, h2.trans hr, rest⟩
theorem RangeAs.on (h : RangeAs P k f w km r ps dn left) (hb : Below w.heap.size w w') : RangeAs P k f w' km r ps dn left := h.same (hb.block km h.map.lt) (hb.block r h.lt)
theorem RangeAs.grown {q : Option Nat} (h : RangeAs P k f w km r ps dn left) (hg : w.grownBy w' q) (h1 : q ≠ some km) (h2 : q ≠ some r) : RangeAs P k f w' km r ps dn left := h.same (hg.block km h.map.lt fun e => h1 e.symm) (hg.block r h.lt fun e => h2 e.symm)
theorem RangeAs.ne (h : RangeAs P k f w km r ps dn left) : r ≠ km := by
  obtain ⟨es, clock, since, seen, c0, hb, hs, hq, hz, hr, _⟩ := h
  intro e
  rw [e, hb] at hr
  cases hr
end
end Go.Proofs.YtgohekjkbgfeeaaGreat
namespace Go.Proofs.YtgohekjkbgfeeaaGreat
open Go.RowKit
open Go.SeqMath
open Go.ProdMath
open Go.BatMath hiding AllB getD_lt take_all
set_option linter.unusedVariables false

def GivesTGet (w : World) (p : Pd) (b : Bool) (e : Ending) (w' : World) : Prop :=
  ∃ ad n cap, e = .returned (.tuple #[.agg #[.int .i64 p.id, .int .i64 p.epoch, .slice ad n cap, .int .i64 p.opn], .bool b]) ∧ RowAt trK w' ad n cap p.last ∧ Below w.heap.size w w'
theorem resultsGet {tmps : Array Value} {B : Nat} {W : World} {b0 b1 b3 : Int} {v x : Value} (h : PBox W B b0 b1 v b3) (ht : tmps.getD 4 undef = .pointer (some ⟨B, 0, none⟩)) (hx : tmps.getD 5 undef = x) :
    (results Tryz.f58 tmps).run Tryz.prog W = .ok (.tuple #[.agg #[.int .i64 b0, .int .i64 b1, v, .int .i64 b3], x]) W := by
  rw [results_cell_tmp (p := 4) (u := 5) (ty := 78) Tryz.results58, ht]
  have hl := run_loadVar_row (P := Tryz.prog) W B 78 78 _ (0, 0) _ h Tryz.underlying78 rfl (by kernel_rfl)
  simp only [asAddr, Sem.run_pure, Result.andThen, hl, hx]
theorem gives_tget {w W : World} {p : Pd} {b : Bool} {b0 b1 b3 : Int} {ad : Option Addr} {n cap : Nat} {u0 u1 u2 u3 : Value} {l : List Tr} (hb : Below w.heap.size w W) (hp : p = ⟨b0, b1, l, b3⟩) (hr : RowAt trK w ad n cap l) :
    GivesTGet w p b (.returned (.tuple #[.agg #[.int .i64 b0, .int .i64 b1, .slice ad n cap, .int .i64 b3], .bool b])) ((((W.setCell ⟨w.heap.size, 0, none⟩ u0).setCell ⟨w.heap.size, 1, none⟩ u1).setCell ⟨w.heap.size, 2, none⟩ u2).setCell ⟨w.heap.size, 3, none⟩ u3) := by
  subst hp
  have hb2 : Below w.heap.size w ((((W.setCell ⟨w.heap.size, 0, none⟩ u0).setCell ⟨w.heap.size, 1, none⟩ u1).setCell ⟨w.heap.size, 2, none⟩ u2).setCell ⟨w.heap.size, 3, none⟩ u3) := (((hb.setCell (Nat.le_refl _) _).setCell (Nat.le_refl _) _).setCell (Nat.le_refl _) _).setCell (Nat.le_refl _) _
  exact ⟨ad, n, cap, rfl, hr.keep hb2, hb2⟩
theorem get_yes {l : List Pd} {id : Int} (h : hasD l id = true) : ∃ p, l[atD l id]? = some p ∧ getD l id = p := by
  have h2 := h
  unfold hasD at h2
  split at h2
  · rename_i p hp
    refine ⟨p, hp, ?_⟩
    unfold getD
    rw [if_pos h, hp]
  · cases h2
theorem get_no {l : List Pd} {id : Int} (h : hasD l id = false) : getD l id = Pd.zero := by unfold getD; rw [if_neg (by rw [h]; decide)]
set_option maxRecDepth 100000 in
set_option maxHeartbeats 4000000 in
theorem tabGet_any (w : World) (kt : Nat) (ad : Option Addr) (len cap : Nat) (ms : List PM) (h : TabAt w kt ad len cap ms) (hL : len ≤ 100000000000) (id : Int) :
    Calls Tryz.prog 58 #[.pointer (some ⟨kt, 0, none⟩), .int .i64 id] w (GivesTGet w (getD (pds ms) id) (hasD (pds ms) id)) := by
  obtain ⟨W0, hW0⟩ : ∃ W0, W0 = w.alloc (.cells #[.int .i64 0, .int .i64 0, .slice none 0 0, .int .i64 0] 78) := ⟨_, rfl⟩
  have HB0 : Hid (Below w.heap.size w W0) := by show Below _ _ _; rw [hW0]; exact (Below.refl _ _).alloc (Nat.le_refl _) _
  have HR0 : Hid (PBox W0 w.heap.size 0 0 (.slice none 0 0) 0) := by show PBox _ _ _ _ _ _; rw [hW0]; exact pbox_new w _ _ _ _
  have HT0 := Lib.hid (h.keep HB0.out)
  have H := Lib.hid h
  have HW0 := Lib.hid hW0
  clear h hW0
  obtain ⟨i, hi⟩ : ∃ i, atD (pds ms) id = i := ⟨_, rfl⟩
  obtain ⟨b, hb⟩ : ∃ b, hasD (pds ms) id = b := ⟨_, rfl⟩
  have CAT : Hid (Calls Tryz.prog 57 #[.pointer (some ⟨kt, 0, none⟩), .int .i64 id] W0 (GivesAt W0 i b)) := by
    have := tabAt_any W0 kt ad len cap ms HT0.out hL id
    rw [hi, hb] at this
    exact this
  rw [hb]
  have HGY : Hid (b = true → i < len ∧ ∃ m, ms[i]? = some m ∧ getD (pds ms) id = m.p) := by
    intro hb1
    rw [← hb] at hb1
    obtain ⟨p, hp, hg⟩ := get_yes hb1
    rw [hi] at hp
    unfold pds at hp
    rw [List.getElem?_map] at hp
    cases hm : ms[i]? with
    | none => rw [hm] at hp; cases hp
    | some m =>
      rw [hm] at hp
      cases hp
      refine ⟨?_, m, rfl, hg⟩
      have := (List.getElem?_eq_some_iff.1 hm).1
      have h2 := H.out.pds.row.length
      omega
  have HGN : Hid (b = false → getD (pds ms) id = Pd.zero) := fun hb1 => get_no (by rw [hb]; exact hb1)
  obtain ⟨p, hp⟩ : ∃ p, getD (pds ms) id = p := ⟨_, rfl⟩
  rw [hp] at HGY HGN
  rw [hp]
  clear hi hb hp
  go_enter Tryz.func58, Tryz.ntmps58
  go_wp2_with fail
  rw [← HW0.out]
  refine CAT.out.mono ?_
  rintro e w1 ⟨rfl, hb1⟩
  have HB1 := Lib.hid (HB0.out.trans (hb1.mono HB0.out.size))
  have HR1 := Lib.hid (HR0.out.on hb1)
  have HT1 := Lib.hid (HT0.out.keep hb1)
  clear hb1 HW0 CAT
  have rr0 := HR1.out.c0
  have f0 := HR1.out.free 0
  have rr1 := HR1.out.c1
  have f1 := HR1.out.free 1
  have rr2 := HR1.out.c2
  have f2 := HR1.out.free 2
  have rr3 := HR1.out.c3
  have f3 := HR1.out.free 3
  cases b
  · have HP := Lib.hid (HGN.out rfl)
    clear HGN HGY
    go_wp2
    exact bodyPost_ret (v := .tuple #[.agg #[.int .i64 0, .int .i64 0, .slice none 0 0, .int .i64 0], .bool false]) (resultsGet ((((HR1.out.s0 0).s1 0).s2 (.slice none 0 0)).s3 0) rfl rfl) rfl (gives_tget HB1.out HP.out (rowAt_nil w))
  · obtain ⟨hil, m, hm, hpm⟩ := HGY.out rfl
    have HP := Lib.hid hpm
    clear HGN HGY hpm
    have hij : (i : Int) < (len : Int) := by omega
    have hij2 : i < len := hil
    have t0 := HT1.out.box.c0
    obtain ⟨bk, off, m', rfl, _, hm', _, c0, c1, c2, c3⟩ := HT1.out.pds.get hil
    obtain rfl : m' = m := by rw [hm] at hm'; exact (Option.some.inj hm').symm
    have HLA := Lib.hid (H.out.pds.ins m' (List.mem_of_getElem? hm))
    clear hm hm'
    go_wp2
    exact bodyPost_ret (v := .tuple #[.agg #[.int .i64 m'.p.id, .int .i64 m'.p.epoch, .slice m'.ad m'.p.last.length m'.cap, .int .i64 m'.p.opn], .bool true]) (resultsGet ((((HR1.out.s0 m'.p.id).s1 m'.p.epoch).s2 (.slice m'.ad m'.p.last.length m'.cap)).s3 m'.p.opn) rfl rfl) rfl (gives_tget (l := m'.p.last) HB1.out HP.out HLA.out)
set_option maxRecDepth 100000 in
set_option maxHeartbeats 4000000 in
theorem tabCheck_any (w : World) (kt : Nat) (ad : Option Addr) (len cap : Nat) (ms : List PM) (h : TabAt w kt ad len cap ms) (hL : len ≤ 100000000000) (b : Bat) (rd : Option Addr) (rn rc : Nat) (hr : RecsAt w rd rn rc b.recs) (ht : TextsOk b.recs) (hrn : rn ≤ 140737488355328) (hwf : b.prod ≤ 9223372036854775807) (c : Int × Int) (hc : tcheckD (pds ms) b = c) (hfew : fewP (pds ms)) :
    Calls Tryz.prog 87 #[.pointer (some ⟨kt, 0, none⟩), .agg #[.int .i64 b.base, .int .i64 b.prod, .int .i64 b.epoch, .int .i64 b.seq, .bool b.txn, .int .i64 b.marker, .slice rd rn rc]] w (GivesPair w c) := by
  obtain ⟨b0, b1, b2, b3, b4, b5, recs⟩ := b
  simp only at hr ht hwf
  simp only
  obtain ⟨W0, hW0⟩ : ∃ W0, W0 = w.alloc (.cells #[.int .i64 b0, .int .i64 b1, .int .i64 b2, .int .i64 b3, .bool b4, .int .i64 b5, .slice rd rn rc] 56) := ⟨_, rfl⟩
  have HB0 : Hid (Below w.heap.size w W0) := by show Below _ _ _; rw [hW0]; exact (Below.refl _ _).alloc (Nat.le_refl _) _
  have HX0 : Hid (BoxAt W0 w.heap.size b0 b1 b2 b3 b4 b5 (.slice rd rn rc)) := by show BoxAt _ _ _ _ _ _ _ _ _; rw [hW0]; exact boxAt_new w _ _ _ _ _ _ _
  have HT0 := Lib.hid (h.keep HB0.out)
  have HRE0 := Lib.hid (hr.keep HB0.out)
  have hrl := hr.length
  have HC : Hid (tcheckD (pds ms) ⟨b0, b1, b2, b3, b4, b5, recs⟩ = c) := hc
  have HF := Lib.hid hfew
  have HTX := Lib.hid ht
  have HW0 := Lib.hid hW0
  clear h hr hc hfew hW0 ht
  obtain ⟨B, hB⟩ : ∃ B, B = w.heap.size := ⟨_, rfl⟩
  rw [← hB] at HX0
  obtain ⟨r, hre⟩ : ∃ r, rightE ⟨b0, b1, b2, b3, b4, b5, recs⟩ = r := ⟨_, rfl⟩
  have HRE := Lib.hid hre
  clear hre
  go_enter Tryz.func87, Tryz.ntmps87
  go_upto_region 1 with fail
  rw [← HW0.out, ← hB]
  clear hB HW0
  have p0 := HX0.out.c0
  have p1 := HX0.out.c1
  have p2 := HX0.out.c2
  have p3 := HX0.out.c3
  have p4 := HX0.out.c4
  have p5 := HX0.out.c5
  have p6 := HX0.out.c6
  go_wp2_with fail
  have CR := refRight_any W0 ⟨b0, b1, b2, b3, b4, b5, recs⟩ rd rn rc HRE0.out HTX.out hrn hwf
  rw [HRE.out] at CR
  refine CR.mono ?_
  clear CR
  rintro e w1 ⟨rfl, hb1⟩
  have HB1 := Lib.hid (HB0.out.trans (hb1.mono HB0.out.size))
  have HX1 := Lib.hid (HX0.out.on hb1)
  have HT1 := Lib.hid (HT0.out.keep hb1)
  clear hb1 p0 p1 p2 p3 p4 p5 p6
  by_cases hz : r = 0
  · have hd : (r == 0) = true := by rw [hz]; rfl
    have p1 := HX1.out.c1
    by_cases hn : b1 < 0
    · have hd2 : decide (b1 < 0) = true := decide_eq_true hn
      have HEND : Hid (c = (-1, 0)) := by
        show c = _
        rw [← HC.out]
        unfold tcheckD
        rw [HRE.out, if_neg (by simp [hz]), if_pos hn]
      clear HC hz hn
      go_wp2
      go_ret2
      exact gives_pair HEND.out HB1.out
    · have hd2 : decide (b1 < 0) = false := decide_eq_false hn
      have HCC : Hid (checkD (getD (pds ms) b1) (hasD (pds ms) b1) ⟨b0, b1, b2, b3, b4, b5, recs⟩ = c) := by
        show _ = _
        rw [← HC.out]
        unfold tcheckD
        rw [HRE.out, if_neg (by simp [hz]), if_neg hn]
      obtain ⟨p, hp⟩ : ∃ p, getD (pds ms) b1 = p := ⟨_, rfl⟩
      obtain ⟨kn, hkn⟩ : ∃ kn, hasD (pds ms) b1 = kn := ⟨_, rfl⟩
      have hp5 := get_few HF.out b1
      have CG : Hid (Calls Tryz.prog 58 #[.pointer (some ⟨kt, 0, none⟩), .int .i64 b1] w1 (GivesTGet w1 p kn)) := by
        have := tabGet_any w1 kt ad len cap ms HT1.out hL b1
        rw [hp, hkn] at this
        exact this
      rw [hp] at hp5 HCC
      rw [hkn] at HCC
      clear HC hz hn hp hkn
      go_wp2_with fail
      refine CG.out.mono ?_
      rintro e w2 ⟨ad2, n2, cap2, rfl, hrow, hb2⟩
      have hn2 := hrow.length
      have HRW := Lib.hid hrow
      have HB2 := Lib.hid (HB1.out.trans (hb2.mono HB1.out.size))
      have HX2 := Lib.hid (HX1.out.on hb2)
      clear hb2 hrow CG p1
      obtain ⟨pid, pep, pl, po⟩ := p
      simp only at hp5 hn2 HRW
      simp only
      go_upto_region 7 with fail
      obtain ⟨W3, hW3⟩ : ∃ W3, W3 = w2.alloc (.cells #[.int .i64 pid, .int .i64 pep, .slice ad2 n2 cap2, .int .i64 po] 78) := ⟨_, rfl⟩
      have hb3 : Below w2.heap.size w2 W3 := by rw [hW3]; exact (Below.refl _ _).alloc (Nat.le_refl _) _
      have HB3 := Lib.hid (HB2.out.trans (hb3.mono HB2.out.size))
      have HX3 := Lib.hid (HX2.out.on hb3)
      have HRW3 := Lib.hid (HRW.out.keep hb3)
      obtain ⟨Q, hQ⟩ : ∃ Q, Q = w2.heap.size := ⟨_, rfl⟩
      have HP3 : Hid (PBox W3 Q pid pep (.slice ad2 n2 cap2) po) := by show PBox _ _ _ _ _ _; rw [hW3, hQ]; exact pbox_new w2 _ _ _ _
      rw [← hW3, ← hQ]
      clear hW3 hb3 hQ
      have p0 := HX3.out.c0
      have p1 := HX3.out.c1
      have p2 := HX3.out.c2
      have p3 := HX3.out.c3
      have p4 := HX3.out.c4
      have p5 := HX3.out.c5
      have p6 := HX3.out.c6
      have q0 := HP3.out.c0
      have q1 := HP3.out.c1
      have q2 := HP3.out.c2
      have q3 := HP3.out.c3
      go_wp2_with fail
      refine (refCheck_any W3 pid pep po pl ad2 n2 cap2 HRW3.out (by omega) kn b0 b1 b2 b3 b4 b5 recs rd rn rc hrl hrn c HCC.out).mono ?_
      rintro e w4 ⟨rfl, hb4⟩
      have HB4 := Lib.hid (HB3.out.trans (hb4.mono HB3.out.size))
      go_wp2
      go_ret2
      exact gives_pair rfl HB4.out
  · have hd : (r == 0) = false := beq_false_of_ne hz
    have HEND : Hid (c = (-1, r)) := by
      show c = _
      rw [← HC.out]
      unfold tcheckD
      rw [HRE.out, if_pos hz]
    clear HC
    go_wp2
    go_ret2
    exact gives_pair HEND.out HB1.out
end Go.Proofs.YtgohekjkbgfeeaaGreat
