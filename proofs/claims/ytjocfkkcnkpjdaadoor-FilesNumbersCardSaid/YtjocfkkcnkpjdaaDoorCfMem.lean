/- Chapter 7's files as the code has them: a map of boxes, each with bytes of its own; what calls turn; deed. -/
import Derived.Test.YtjocfkkcnkpjdaaDoorMapPtr
import Derived.Test.YtjocfkkcnkpjdaaDoorCfMath
import Derived.Test.YtjocfkkcnkpjdaaDoorRowCut
import Derived.Test.YtjocfkkcnkpjdaaDoorKindBytes
namespace Go.Proofs.YtjocfkkcnkpjdaaDoor
open Go.RowKit
open Go.RuneMath
open Go.FsMath
set_option linter.unusedVariables false

/-- Nothing that was there and is not of F has turned. -/
structure Kept (w w' : World) (F : Nat → Prop) : Prop where
  os : w'.os = w.os
  tape : w'.tape = w.tape
  output : w'.output = w.output
  size : w.heap.size ≤ w'.heap.size
  block : ∀ j, j < w.heap.size → ¬ F j → w'.heap[j]? = w.heap[j]?
section
variable {w w1 w2 : World} {F G : Nat → Prop}
theorem Kept.refl (w : World) (F : Nat → Prop) : Kept w w F := ⟨rfl, rfl, rfl, Nat.le_refl _, fun _ _ _ => rfl⟩
theorem Kept.trans (h : Kept w w1 F) (h2 : Kept w1 w2 G) (hg : ∀ i, G i → F i ∨ w.heap.size ≤ i) : Kept w w2 F :=
  ⟨h2.os.trans h.os, h2.tape.trans h.tape, h2.output.trans h.output, Nat.le_trans h.size h2.size, fun j hj hn => (h2.block j (Nat.lt_of_lt_of_le hj h.size) fun e => by
    rcases hg j e with h3 | h3
    · exact hn h3
    · omega).trans (h.block j hj hn)⟩
theorem Kept.of_grown {k : Nat} (h : w.grownBy w1 (some k)) (hk : F k ∨ w.heap.size ≤ k) : Kept w w1 F := ⟨h.os, h.tape, h.output, h.size, fun j hj hn => h.block j hj fun e => by
  cases e
  rcases hk with h1 | h1
  · exact hn h1
  · omega⟩
theorem Kept.of_own {v : Value} (h : w.grownBy w1 v.ownBlock) (hv : ∀ k, v.ownBlock = some k → F k ∨ w.heap.size ≤ k) : Kept w w1 F := ⟨h.os, h.tape, h.output, h.size, fun j hj hn => h.block j hj fun e => by
  rcases hv j e.symm with h1 | h1
  · exact hn h1
  · omega⟩
theorem Kept.of_below (h : Below w.heap.size w w1) : Kept w w1 F := ⟨h.os, h.tape, h.output, h.size, fun j hj _ => h.block j hj⟩
theorem Kept.more (h : Kept w w1 F) (hf : ∀ i, F i → G i) : Kept w w1 G := ⟨h.os, h.tape, h.output, h.size, fun j hj hn => h.block j hj fun e => hn (hf j e)⟩
theorem Kept.below {B : Nat} (h : Kept w w1 F) (hf : ∀ i, F i → B ≤ i) (hB : B ≤ w.heap.size) : Below B w w1 := ⟨h.os, h.tape, h.output, h.size, fun j hj => h.block j (by omega) fun e => by have := hf j e; omega⟩
theorem Kept.row {α : Type} {K : Kind α} {ad : Option Addr} {len cap : Nat} {l : List α} (hk : Kept w w1 F) (hr : RowAt K w ad len cap l) (ha : ∀ a, ad = some a → ¬ F a.block) : RowAt K w1 ad len cap l := by
  refine ⟨hr.length, hr.fits, hr.room, ?_⟩
  rcases hr.cells with h0 | ⟨b, off, e, hlt, hc⟩
  · exact .inl h0
  · refine .inr ⟨b, off, e, Nat.lt_of_lt_of_le hlt hk.size, fun i x hi j u hj => ?_⟩
    have h1 := hc i x hi j u hj
    have e1 := hk.block b hlt (ha _ e)
    unfold World.cell? at h1 ⊢
    simp only [e1]
    exact h1
end
theorem OwnRow.same {α : Type} {K : Kind α} {w w' : World} {base : Nat} {v : Value} {l : List α} (h : OwnRow K w base v l) (hs : ∀ q, v.ownBlock = some q → w'.heap[q]? = w.heap[q]?) : OwnRow K w' base v l := by
  refine ⟨h.1, ?_⟩
  rcases h.2 with h0 | ⟨g, cap, cur, h1, h2, h3, h4⟩
  · exact .inl h0
  · exact .inr ⟨g, cap, cur, h1, h2, (hs g (by rw [h1]; rfl)).trans h3, h4⟩
/-- A file as the code has it: its box, its bytes. -/
structure CM where
  f : Fl
  k : Nat
  ad : Option Addr
  cap : Nat
def CM.v (m : CM) : Value := .slice m.ad m.f.b.length m.cap
def cls (ms : List CM) : List Fl := ms.map (·.f)
def pk (m : CM) : ByteArray × Nat := (m.f.name, m.k)
def CtBox (w : World) (k : Nat) (v : Value) (lasts : Int) : Prop := w.heap[k]? = some (.cells #[v, .int .i64 lasts] 62 (0, 0))
section
variable {w w' : World} {k : Nat} {v : Value} {lasts : Int}
theorem CtBox.c0 (h : CtBox w k v lasts) : w.cell? ⟨k, 0, none⟩ = some v := by rw [cell_of_row _ _ 0 _ _ _ h]; rfl
theorem CtBox.c1 (h : CtBox w k v lasts) : w.cell? ⟨k, 1, none⟩ = some (.int .i64 lasts) := by rw [cell_of_row _ _ 1 _ _ _ h]; rfl
theorem CtBox.free (h : CtBox w k v lasts) (j : Nat) : w.frozen? ⟨k, j, none⟩ = false := frozen_of_row w k j _ _ h
theorem CtBox.lt (h : CtBox w k v lasts) : k < w.heap.size := lt_of_block h
theorem CtBox.same (h : CtBox w k v lasts) (e : w'.heap[k]? = w.heap[k]?) : CtBox w' k v lasts := e.trans h
theorem CtBox.s0 (h : CtBox w k v lasts) (u : Value) : CtBox (w.setCell ⟨k, 0, none⟩ u) k u lasts := box_set h 0 _
theorem CtBox.s1 (h : CtBox w k v lasts) (n : Int) : CtBox (w.setCell ⟨k, 1, none⟩ (.int .i64 n)) k v n := box_set h 1 _
end
def CBox (w : World) (k km : Nat) (left done : Int) : Prop := w.heap[k]? = some (.cells #[.map (some km), .int .i64 done, .int .i64 left] 58 (0, 0))
section
variable {w w' : World} {k km : Nat} {left done : Int}
theorem CBox.c0 (h : CBox w k km left done) : w.cell? ⟨k, 0, none⟩ = some (.map (some km)) := by rw [cell_of_row _ _ 0 _ _ _ h]; rfl
theorem CBox.c1 (h : CBox w k km left done) : w.cell? ⟨k, 1, none⟩ = some (.int .i64 done) := by rw [cell_of_row _ _ 1 _ _ _ h]; rfl
theorem CBox.c2 (h : CBox w k km left done) : w.cell? ⟨k, 2, none⟩ = some (.int .i64 left) := by rw [cell_of_row _ _ 2 _ _ _ h]; rfl
theorem CBox.free (h : CBox w k km left done) (j : Nat) : w.frozen? ⟨k, j, none⟩ = false := frozen_of_row w k j _ _ h
theorem CBox.lt (h : CBox w k km left done) : k < w.heap.size := lt_of_block h
theorem CBox.same (h : CBox w k km left done) (e : w'.heap[k]? = w.heap[k]?) : CBox w' k km left done := e.trans h
theorem CBox.s1 (h : CBox w k km left done) (n : Int) : CBox (w.setCell ⟨k, 1, none⟩ (.int .i64 n)) k km left n := box_set h 1 _
theorem CBox.s2 (h : CBox w k km left done) (n : Int) : CBox (w.setCell ⟨k, 2, none⟩ (.int .i64 n)) k km n done := box_set h 2 _
end
/-- A file system of the code. -/
structure CfOk (w : World) (kf km : Nat) (left done : Int) (ms : List CM) : Prop where
  box : CBox w kf km left done
  map : MapOf w km (ms.map pk)
  sorted : SortedF (cls ms)
  right : ∀ m ∈ ms, rightS m.f.name ∧ m.f.name.size ≤ 1073741824
  ct : ∀ m ∈ ms, CtBox w m.k m.v (m.f.lasts : Int)
  row : ∀ m ∈ ms, OwnRow byteK w 0 m.v m.f.b ∧ AllB m.f.b ∧ m.f.lasts ≤ m.f.b.length
  apart : ∀ m ∈ ms, ∀ m' ∈ ms, m.f.name ≠ m'.f.name → m.k ≠ m'.k ∧ ∀ q, m.v.ownBlock = some q → m'.v.ownBlock ≠ some q
/-- The blocks that it has. -/
def Foot (kf km : Nat) (ms : List CM) (i : Nat) : Prop := i = kf ∨ i = km ∨ ∃ m ∈ ms, i = m.k ∨ m.v.ownBlock = some i
section
variable {w w' : World} {kf km : Nat} {left done : Int} {ms : List CM}
theorem CfOk.one (h : CfOk w kf km left done ms) {m m' : CM} (hm : m ∈ ms) (hm' : m' ∈ ms) (e : m.f.name = m'.f.name) : m = m' := by
  have hn := h.map.names
  obtain ⟨i, hi⟩ := List.getElem?_of_mem hm
  obtain ⟨j, hj⟩ := List.getElem?_of_mem hm'
  rw [List.map_map] at hn
  have hi' : (ms.map ((·.1) ∘ pk))[i]? = some m.f.name := by rw [List.getElem?_map, hi]; rfl
  have hj' : (ms.map ((·.1) ∘ pk))[j]? = some m.f.name := by rw [List.getElem?_map, hj, e]; rfl
  have := (List.getElem?_inj (i := i) (j := j) (List.getElem?_eq_some_iff.1 hi').1 hn).1 (hi'.trans hj'.symm)
  subst this
  exact Option.some.inj (hi.symm.trans hj)
theorem CfOk.at (h : CfOk w kf km left done ms) {m : CM} (hm : m ∈ ms) : ms[atF (cls ms) m.f.name]? = some m ∧ hasF (cls ms) m.f.name = true := by
  obtain ⟨i, hi⟩ := List.getElem?_of_mem hm
  have hc : (cls ms)[i]? = some m.f := by unfold cls; rw [List.getElem?_map, hi]; rfl
  rw [at_of h.sorted hc]
  exact ⟨hi, has_of h.sorted hc⟩
theorem CfOk.hit (h : CfOk w kf km left done ms) {n : ByteArray} (hb : hasF (cls ms) n = true) : ∃ m ∈ ms, m.f.name = n ∧ ms[atF (cls ms) n]? = some m := by
  obtain ⟨f, hf, e⟩ := (has_mem h.sorted).1 hb
  obtain ⟨m, hm, rfl⟩ := List.mem_map.1 hf
  exact ⟨m, hm, e, by rw [← e]; exact (h.at hm).1⟩
theorem CfOk.miss (h : CfOk w kf km left done ms) {n : ByteArray} (hb : hasF (cls ms) n = false) : ∀ m ∈ ms, m.f.name ≠ n := fun m hm => has_no h.sorted hb m.f (List.mem_map.2 ⟨m, hm, rfl⟩)
/-- Where none of its blocks has turned it stands. -/
theorem CfOk.same (h : CfOk w kf km left done ms) (hs : ∀ i, Foot kf km ms i → w'.heap[i]? = w.heap[i]?) : CfOk w' kf km left done ms :=
  ⟨h.box.same (hs kf (.inl rfl)), h.map.same (hs km (.inr (.inl rfl))), h.sorted, h.right, fun m hm => (h.ct m hm).same (hs m.k (.inr (.inr ⟨m, hm, .inl rfl⟩))),
    fun m hm => ⟨(h.row m hm).1.same fun q hq => hs q (.inr (.inr ⟨m, hm, .inr hq⟩)), (h.row m hm).2⟩, h.apart⟩
theorem CfOk.lt (h : CfOk w kf km left done ms) {i : Nat} (hi : Foot kf km ms i) : i < w.heap.size := by
  rcases hi with rfl | rfl | ⟨m, hm, rfl | h1⟩
  · exact h.box.lt
  · exact h.map.lt
  · exact (h.ct m hm).lt
  · exact ((h.row m hm).1.lt i h1).2
theorem CfOk.on (h : CfOk w kf km left done ms) (hb : Below w.heap.size w w') : CfOk w' kf km left done ms := h.same fun i hi => hb.block i (h.lt hi)
theorem CfOk.kept {F : Nat → Prop} (h : CfOk w kf km left done ms) (hk : Kept w w' F) (hd : ∀ i, Foot kf km ms i → ¬ F i) : CfOk w' kf km left done ms := h.same fun i hi => hk.block i (h.lt hi) (hd i hi)
/-- Its blocks are of four kinds. -/
theorem CfOk.kf_km (h : CfOk w kf km left done ms) : kf ≠ km := fun e => by
  obtain ⟨es, clock, hb, _⟩ := h.map
  have := h.box
  unfold CBox at this
  rw [e, hb] at this
  cases this
theorem CfOk.ct_kf (h : CfOk w kf km left done ms) {m : CM} (hm : m ∈ ms) : m.k ≠ kf := fun e => by
  have h1 := h.box
  have h2 := h.ct m hm
  unfold CBox at h1
  unfold CtBox at h2
  rw [e, h1] at h2
  simp at h2
theorem CfOk.ct_km (h : CfOk w kf km left done ms) {m : CM} (hm : m ∈ ms) : m.k ≠ km := fun e => by
  obtain ⟨es, clock, hb, _⟩ := h.map
  have h2 := h.ct m hm
  unfold CtBox at h2
  rw [e, hb] at h2
  cases h2
theorem own_cells {b : Nat} {v : Value} {l : List Nat} {q : Nat} (h : OwnRow byteK w b v l) (hq : v.ownBlock = some q) : ∃ cur, w.heap[q]? = some (.cells cur 5 (0, 0)) := by
  rcases h.2 with ⟨h0, _⟩ | ⟨g, cap, cur, h1, _, h2, _⟩
  · rw [h0] at hq; cases hq
  · rw [h1] at hq
    cases hq
    exact ⟨cur, h2⟩
theorem CfOk.row_kf (h : CfOk w kf km left done ms) {m : CM} (hm : m ∈ ms) : m.v.ownBlock ≠ some kf := fun e => by
  obtain ⟨cur, hc⟩ := own_cells (h.row m hm).1 e
  have h1 := h.box
  unfold CBox at h1
  rw [hc] at h1
  simp at h1
theorem CfOk.row_km (h : CfOk w kf km left done ms) {m : CM} (hm : m ∈ ms) : m.v.ownBlock ≠ some km := fun e => by
  obtain ⟨cur, hc⟩ := own_cells (h.row m hm).1 e
  obtain ⟨es, clock, hb, _⟩ := h.map
  rw [hb] at hc
  cases hc
theorem CfOk.row_ct (h : CfOk w kf km left done ms) {m m' : CM} (hm : m ∈ ms) (hm' : m' ∈ ms) : m.v.ownBlock ≠ some m'.k := fun e => by
  obtain ⟨cur, hc⟩ := own_cells (h.row m hm).1 e
  have h2 := h.ct m' hm'
  unfold CtBox at h2
  rw [hc] at h2
  simp at h2
/-- The box alone has turned. -/
theorem CfOk.turned {left' done' : Int} (h : CfOk w kf km left done ms) (hg : w.grownBy w' (some kf)) (hb : CBox w' kf km left' done') : CfOk w' kf km left' done' ms := by
  have hs : ∀ i, Foot kf km ms i → i ≠ kf → w'.heap[i]? = w.heap[i]? := fun i hi hne => hg.block i (h.lt hi) fun e => hne (by cases e; rfl)
  exact ⟨hb, h.map.same (hs km (.inr (.inl rfl)) h.kf_km.symm), h.sorted, h.right, fun m hm => (h.ct m hm).same (hs m.k (.inr (.inr ⟨m, hm, .inl rfl⟩)) (h.ct_kf hm)),
    fun m hm => ⟨(h.row m hm).1.same fun q hq => hs q (.inr (.inr ⟨m, hm, .inr hq⟩)) fun e => h.row_kf hm (by rw [hq, e]), (h.row m hm).2⟩, h.apart⟩
theorem mem_set {α : Type} {l : List α} {i : Nat} {x y z : α} (hx : l[i]? = some x) (hy : y ∈ l.set i z) : y = z ∨ (∃ j, j ≠ i ∧ l[j]? = some y) := by
  obtain ⟨j, hj⟩ := List.getElem?_of_mem hy
  rw [List.getElem?_set] at hj
  by_cases e : i = j
  · subst e
    rw [if_pos rfl, if_pos (List.getElem?_eq_some_iff.1 hx).1] at hj
    exact .inl (Option.some.inj hj).symm
  · rw [if_neg e] at hj
    exact .inr ⟨j, fun e' => e e'.symm, hj⟩
theorem cls_set (ms : List CM) (i : Nat) (m : CM) : cls (ms.set i m) = (cls ms).set i m.f := by unfold cls; rw [List.map_set]
theorem cls_at {i : Nat} {m : CM} (h : ms[i]? = some m) : (cls ms)[i]? = some m.f := by unfold cls; rw [List.getElem?_map, h]; rfl
/-- One file alone has turned. -/
theorem CfOk.filed (h : CfOk w kf km left done ms) {i : Nat} {m m' : CM} (hm : ms[i]? = some m) (hn : m'.f.name = m.f.name) (hk : m'.k = m.k)
    (hb : CtBox w' m.k m'.v (m'.f.lasts : Int)) (hr : OwnRow byteK w' 0 m'.v m'.f.b ∧ AllB m'.f.b ∧ m'.f.lasts ≤ m'.f.b.length)
    (hs : ∀ j, j < w.heap.size → j ≠ m.k → m.v.ownBlock ≠ some j → w'.heap[j]? = w.heap[j]?) (ho : ∀ q, m'.v.ownBlock = some q → m.v.ownBlock = some q ∨ w.heap.size ≤ q) : CfOk w' kf km left done (ms.set i m') := by
  have hmm := List.mem_of_getElem? hm
  have hoth : ∀ x ∈ ms.set i m', x = m' ∨ (x ∈ ms ∧ x.f.name ≠ m.f.name) := fun x hx => by
    rcases mem_set hm hx with rfl | ⟨j, hj, hxj⟩
    · exact .inl rfl
    · refine .inr ⟨List.mem_of_getElem? hxj, fun e => hj ?_⟩
      have h1 := at_of h.sorted (cls_at hm)
      have h2 := at_of h.sorted (cls_at hxj)
      rw [e, h1] at h2
      exact h2.symm
  have hpk : (ms.set i m').map pk = ms.map pk := by
    refine List.ext_getElem? fun t => ?_
    rw [List.getElem?_map, List.getElem?_set, List.getElem?_map]
    by_cases e : i = t
    · subst e
      rw [if_pos rfl, if_pos (List.getElem?_eq_some_iff.1 hm).1, hm]
      show some (m'.f.name, m'.k) = some (m.f.name, m.k)
      rw [hn, hk]
    · rw [if_neg e]
  refine ⟨h.box.same (hs kf h.box.lt (h.ct_kf hmm).symm (h.row_kf hmm)), ?_, ?_, fun x hx => ?_, fun x hx => ?_, fun x hx => ?_, fun x hx y hy hne => ?_⟩
  · rw [hpk]
    exact h.map.same (hs km h.map.lt (h.ct_km hmm).symm (h.row_km hmm))
  · rw [cls_set]
    exact set_sorted h.sorted (cls_at hm) hn
  · rcases hoth x hx with rfl | ⟨h1, _⟩
    · rw [hn]; exact h.right m hmm
    · exact h.right x h1
  · rcases hoth x hx with rfl | ⟨h1, h2⟩
    · rw [hk]; exact hb
    · exact (h.ct x h1).same (hs x.k (h.ct x h1).lt (h.apart x h1 m hmm h2).1 (h.row_ct hmm h1))
  · rcases hoth x hx with rfl | ⟨h1, h2⟩
    · exact hr
    · exact ⟨(h.row x h1).1.same fun q hq => hs q ((h.row x h1).1.lt q hq).2 (fun e => h.row_ct h1 hmm (by rw [hq, e])) ((h.apart x h1 m hmm h2).2 q hq), (h.row x h1).2⟩
  · rcases hoth x hx with rfl | ⟨h1, h2⟩
    · rcases hoth y hy with rfl | ⟨h3, h4⟩
      · exact absurd rfl hne
      · have h5 := h.apart m hmm y h3 (fun e => h4 e.symm)
        refine ⟨by rw [hk]; exact h5.1, fun q hq hq2 => ?_⟩
        rcases ho q hq with h6 | h6
        · exact h5.2 q h6 hq2
        · have := ((h.row y h3).1.lt q hq2).2
          omega
    · rcases hoth y hy with rfl | ⟨h3, h4⟩
      · have h5 := h.apart x h1 m hmm h2
        refine ⟨by rw [hk]; exact h5.1, fun q hq hq2 => ?_⟩
        rcases ho q hq2 with h6 | h6
        · exact h5.2 q hq h6
        · have := ((h.row x h1).1.lt q hq).2
          omega
      · exact h.apart x h1 y h3 hne
end
/-- What a call gives. -/
def GivesCf (w : World) (kf km : Nat) (ms : List CM) (r : Int × Fs) (e : Ending) (w' : World) : Prop :=
  e = .returned (.int .i64 r.1) ∧ ∃ ms', CfOk w' kf km r.2.left r.2.done ms' ∧ cls ms' = r.2.l ∧ Kept w w' (Foot kf km ms) ∧ ∀ i, Foot kf km ms' i → Foot kf km ms i ∨ w.heap.size ≤ i
theorem gives_cf {w w' : World} {kf km : Nat} {ms ms' : List CM} {r : Int × Fs} {x : Int} {s : Fs} (hr : r = (x, s)) (h : CfOk w' kf km s.left s.done ms') (hl : cls ms' = s.l) (hk : Kept w w' (Foot kf km ms)) (hn : ∀ i, Foot kf km ms' i → Foot kf km ms i ∨ w.heap.size ≤ i) : GivesCf w kf km ms r (.returned (.int .i64 x)) w' := by
  subst hr
  exact ⟨rfl, ms', h, hl, hk, hn⟩
theorem foot_refl {w : World} {kf km : Nat} {ms : List CM} : ∀ i, Foot kf km ms i → Foot kf km ms i ∨ w.heap.size ≤ i := fun i h => .inl h
set_option maxRecDepth 100000 in
theorem cdeed_any (w : World) (kf km : Nat) (left done : Int) (h : CBox w kf km left done) (hd0 : 0 ≤ done) (hd1 : done ≤ 4611686018427387904) (hl0 : -1 ≤ left) (hl1 : left ≤ 9223372036854775807) (l : List Fl) :
    Calls Tryd.prog 35 #[.pointer (some ⟨kf, 0, none⟩)] w fun e w' => e = .returned (.bool (mayF ⟨l, left, done⟩)) ∧ Hid (CBox w' kf km (deedF ⟨l, left, done⟩).left (deedF ⟨l, left, done⟩).done) ∧ Hid (w.grownBy w' (some kf)) := by
  have H := Lib.hid h
  have t1 := h.c1
  have t2 := h.c2
  have f1 := h.free 1
  have f2 := h.free 2
  clear h
  by_cases h0 : left = 0
  · have hd : (left == 0) = true := by rw [h0]; rfl
    have HM : Hid (mayF ⟨l, left, done⟩ = false) := by show _ = _; unfold mayF; simp [h0]
    have HD : Hid (deedF ⟨l, left, done⟩ = ⟨l, left, done⟩) := by show _ = _; unfold deedF; rw [if_pos h0]
    clear h0
    go_enter Tryd.func35, Tryd.ntmps35
    go_wp2
    go_ret
    exact ⟨by rw [HM.out]; rfl, by rw [HD.out]; exact H.out, grow_refl w _⟩
  · have hd : (left == 0) = false := beq_false_of_ne h0
    have HM : Hid (mayF ⟨l, left, done⟩ = true) := by show _ = _; unfold mayF; simp [h0]
    by_cases hp : 0 < left
    · have hd2 : decide (0 < left) = true := decide_eq_true hp
      have HD : Hid (deedF ⟨l, left, done⟩ = ⟨l, left - 1, done + 1⟩) := by show _ = _; unfold deedF; rw [if_neg h0, if_pos hp]
      clear h0
      go_enter Tryd.func35, Tryd.ntmps35
      go_wp2
      go_ret
      exact ⟨by rw [HM.out]; rfl, by rw [HD.out]; exact (H.out.s2 (left - 1)).s1 (done + 1), grow_set (grow_set (grow_refl w _) 2 _) 1 _⟩
    · have hd2 : decide (0 < left) = false := decide_eq_false hp
      have HD : Hid (deedF ⟨l, left, done⟩ = ⟨l, left, done + 1⟩) := by show _ = _; unfold deedF; rw [if_neg h0, if_neg hp]
      clear h0 hp
      go_enter Tryd.func35, Tryd.ntmps35
      go_wp2
      go_ret
      exact ⟨by rw [HM.out]; rfl, by rw [HD.out]; exact H.out.s1 (done + 1), grow_set (grow_refl w _) 1 _⟩
end Go.Proofs.YtjocfkkcnkpjdaaDoor
