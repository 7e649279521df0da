/- Asks that come in (chapter 8's), opened: their numbers. -/
import Derived.Test.YtelbignfecjjhaaUpto
import Derived.Test.YtelbignfecjjhaaIxMem
namespace Go.Proofs.Ytelbignfecjjhaa
open Go.ChangeShapes Go.WideShapes Go.ChangeAt Go.RowKit Go.Deep
open Go.IxMath
set_option linter.unusedVariables false

section
variable {H : Type} {enc : TypeId × Value → H} {w : World}
set_option maxRecDepth 100000 in
theorem open_aqs {fuel len cap : Nat} {ad : Option Addr} {x : DataW H × List MemPlace} (h : DataW.trod enc Try.prog w 0 (fun _ => true) true fuel 22 [.slice ad len cap] = some x) :
    ∃ l, RowAt aqK w ad len cap l ∧ (∀ y ∈ l, AqIn y) := by
  have hC : Try.prog.cellsOf 24 = 4 := by kernel_rfl
  have hI : Try.prog.cellsOf 3 = 1 := by kernel_rfl
  have hL : Try.prog.cellsOf 2 = 1 := by kernel_rfl
  rcases open_slice Try.underlying22 h with ⟨hcs, _⟩ | ⟨a, l, c, m, n, D, Pl, hcs, _, hl, hm, hmm, hx, hi⟩
  · simp at hcs
    obtain ⟨rfl, rfl, rfl⟩ := hcs
    exact ⟨[], RowAt.zero _ (fun _ => rfl), fun y hy => by cases hy⟩
  · simp at hcs
    obtain ⟨rfl, rfl, rfl⟩ := hcs
    obtain rfl : m = cap := by simpa using hmm
    have key : ∀ i, i < len → ∃ y : Aq, (∀ j u, (aqK.enc y)[j]? = some u → w.cell? (a.add (i * 4 + j)) = some u) ∧ AqIn y := by
      intro i hil
      obtain ⟨cs', hc, ht⟩ := hi i (by omega)
      rw [hC] at hc
      obtain ⟨_, hcl, hat⟩ := World.cells?_some hc
      obtain ⟨ys, n', _, hy, _, hyl, hf⟩ := DataW.trod_struct Try.underlying24 ht
      have h0 : DataW.trod enc Try.prog w 0 (fun _ => true) true n' 3 ((cs'.drop 0).take (Try.prog.cellsOf 3)) = ys[0]? := hf 0 _ rfl
      have h1 : DataW.trod enc Try.prog w 0 (fun _ => true) true n' 3 ((cs'.drop 1).take (Try.prog.cellsOf 3)) = ys[1]? := hf 1 _ rfl
      have h2 : DataW.trod enc Try.prog w 0 (fun _ => true) true n' 3 ((cs'.drop 2).take (Try.prog.cellsOf 3)) = ys[2]? := hf 2 _ rfl
      have h3 : DataW.trod enc Try.prog w 0 (fun _ => true) true n' 2 ((cs'.drop 3).take (Try.prog.cellsOf 2)) = ys[3]? := hf 3 _ rfl
      rw [hI] at h0 h1 h2
      rw [hL] at h3
      have hyl2 : ys.length = 4 := hyl
      obtain ⟨c0, c1, c2, c3, rfl⟩ : ∃ c0 c1 c2 c3, cs' = [c0, c1, c2, c3] := by
        match cs', hcl with
        | [c0, c1, c2, c3], _ => exact ⟨c0, c1, c2, c3, rfl⟩
      obtain ⟨y0, y1, y2, y3, rfl⟩ : ∃ y0 y1 y2 y3, ys = [y0, y1, y2, y3] := by
        match ys, hyl2 with
        | [y0, y1, y2, y3], _ => exact ⟨y0, y1, y2, y3, rfl⟩
      obtain ⟨n0, e0, _, w0⟩ := DataW.trod_int Try.underlying3 (h0.trans rfl)
      obtain ⟨n1, e1, _, w1⟩ := DataW.trod_int Try.underlying3 (h1.trans rfl)
      obtain ⟨n2, e2, _, w2⟩ := DataW.trod_int Try.underlying3 (h2.trans rfl)
      obtain ⟨n3, e3, _, w3⟩ := DataW.trod_int Try.underlying2 (h3.trans rfl)
      simp at e0 e1 e2 e3
      subst e0 e1 e2 e3
      refine ⟨⟨n0, n1, n2, n3⟩, fun j u hj => ?_, ⟨bounds_i64 w0, bounds_i64 w1, bounds_i64 w2, bounds_i64 w3⟩⟩
      have hj4 : j < 4 := (List.getElem?_eq_some_iff.1 hj).1
      have h := hat j (by omega)
      rw [Go.Deep.add_add] at h
      rw [h]
      exact hj
    have hch : ∃ f : Nat → Aq, ∀ i, i < len → (∀ j u, (aqK.enc (f i))[j]? = some u → w.cell? (a.add (i * 4 + j)) = some u) ∧ AqIn (f i) := by
      refine Classical.axiomOfChoice (r := fun i (y : Aq) => i < len → (∀ j u, (aqK.enc y)[j]? = some u → w.cell? (a.add (i * 4 + j)) = some u) ∧ AqIn y) fun i => ?_
      by_cases h : i < len
      · obtain ⟨r, hr⟩ := key i h
        exact ⟨r, fun _ => hr⟩
      · exact ⟨⟨0, 0, 0, 0⟩, fun h' => absurd h' h⟩
    obtain ⟨f, hf⟩ := hch
    refine ⟨(List.range len).map f, ⟨by simp, hl, (fun e => by cases e), ?_⟩, fun y hy => ?_⟩
    · by_cases h0 : len = 0
      · exact .inl h0
      · obtain ⟨b, off, spot⟩ := a
        have h1 := (hf 0 (by omega)).1 0 _ rfl
        have hsp : spot = none := by simpa [Addr.add] using World.cell?_spot h1
        subst hsp
        refine .inr ⟨b, off, rfl, ?_, fun i r hi j u hj => ?_⟩
        · rw [Go.WideShapes.add_plain] at h1
          exact World.block_lt_of_cell? w _ h1
        · obtain ⟨hlt, e⟩ := List.getElem?_eq_some_iff.1 hi
          have hil : i < len := by simpa using hlt
          have e : f i = r := by simpa using e
          subst e
          have h2 := (hf i hil).1 j u hj
          rw [Go.WideShapes.add_plain] at h2
          exact h2
    · obtain ⟨i, hi, rfl⟩ := List.mem_map.1 hy
      exact (hf i (List.mem_range.1 hi)).2
end
end Go.Proofs.Ytelbignfecjjhaa
