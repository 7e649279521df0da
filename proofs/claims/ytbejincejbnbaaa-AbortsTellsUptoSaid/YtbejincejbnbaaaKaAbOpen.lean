/- Calls that come in (chapter 13's), opened: their numbers. -/
import Derived.Test.YtbejincejbnbaaaKaUpto
import Derived.Test.YtbejincejbnbaaaKaAbEndT
import Derived.Deep.Slices
import Derived.Deep.Fields
import Derived.ChangeSame
import Derived.ProofKit
import Derived.OpenShut
namespace Go.Proofs.Ytbejincejbnbaaa
open Go.ChangeShapes Go.WideShapes Go.ChangeAt Go.RowKit Go.Deep
open Go.ProdMath
open Go.BatMath (In64)
set_option linter.unusedVariables false

section
variable {H : Type} {enc : TypeId × Value → H} {w : World}
theorem abIn_of {n : Int} (h : (Lit.int .i64 n).wf = true) : In64 n := ⟨(bounds_i64 h).1, (bounds_i64 h).2⟩
set_option maxRecDepth 100000 in
theorem open_aks {fuel len cap : Nat} {ad : Option Addr} {x : DataW H × List MemPlace} (h : DataW.trod enc Try.prog w 0 (fun _ => true) true fuel 27 [.slice ad len cap] = some x) :
    ∃ l, RowAt akK w ad len cap l ∧ (∀ y ∈ l, AkIn y) ∧ len ≤ Rows.uptoBulk x.1 := by
  have hC : Try.prog.cellsOf 31 = 5 := by kernel_rfl
  have hD : Try.prog.cellsOf 29 = 3 := by kernel_rfl
  have hI : Try.prog.cellsOf 3 = 1 := by kernel_rfl
  have hL : Try.prog.cellsOf 2 = 1 := by kernel_rfl
  rcases open_slice Try.underlying27 h with ⟨hcs, _⟩ | ⟨a, l, c, m, n, D, Pl, hcs, _, hl, hm, hmm, hx, hi⟩
  · simp at hcs
    obtain ⟨rfl, rfl, rfl⟩ := hcs
    exact ⟨[], RowAt.zero _ (fun _ => rfl), (fun y hy => by cases hy), Nat.zero_le _⟩
  · simp at hcs
    obtain ⟨rfl, rfl, rfl⟩ := hcs
    obtain rfl : m = cap := by simpa using hmm
    have hx1 : x.1 = .slice ((List.range len).map D) ((List.range (m - len)).map fun j => D (len + j)) := congrArg Prod.fst hx
    have hlen : len ≤ Rows.uptoBulk x.1 := by
      rw [hx1]
      refine Nat.le_trans ?_ (elems_le _ _)
      refine Nat.le_trans ?_ (length_le _)
      simp
    have key : ∀ i, i < len → ∃ y : Ak, (∀ j u, (akK.enc y)[j]? = some u → w.cell? (a.add (i * 5 + j)) = some u) ∧ AkIn y := by
      intro i hil
      obtain ⟨cs', hc, ht⟩ := hi i (by omega)
      rw [hC] at hc
      obtain ⟨_, hcl, hat⟩ := World.cells?_some hc
      obtain ⟨ys, n', _, hy, _, hyl, hf⟩ := DataW.trod_struct Try.underlying31 ht
      have h0 : DataW.trod enc Try.prog w 0 (fun _ => true) true n' 3 ((cs'.drop 0).take (Try.prog.cellsOf 3)) = ys[0]? := hf 0 _ rfl
      have h1 : DataW.trod enc Try.prog w 0 (fun _ => true) true n' 29 ((cs'.drop 1).take (Try.prog.cellsOf 29)) = ys[1]? := hf 1 _ rfl
      have h2 : DataW.trod enc Try.prog w 0 (fun _ => true) true n' 2 ((cs'.drop 4).take (Try.prog.cellsOf 2)) = ys[2]? := hf 2 _ rfl
      rw [hI] at h0
      rw [hD] at h1
      rw [hL] at h2
      have hyl2 : ys.length = 3 := hyl
      obtain ⟨c0, c1, c2, c3, c4, rfl⟩ : ∃ c0 c1 c2 c3 c4, cs' = [c0, c1, c2, c3, c4] := by
        match cs', hcl with
        | [c0, c1, c2, c3, c4], _ => exact ⟨c0, c1, c2, c3, c4, rfl⟩
      obtain ⟨y0, y1, y2, rfl⟩ : ∃ y0 y1 y2, ys = [y0, y1, y2] := by
        match ys, hyl2 with
        | [y0, y1, y2], _ => exact ⟨y0, y1, y2, rfl⟩
      obtain ⟨n0, e0, _, w0⟩ := DataW.trod_int Try.underlying3 (h0.trans rfl)
      obtain ⟨n4, e4, _, w4⟩ := DataW.trod_int Try.underlying2 (h2.trans rfl)
      obtain ⟨zs, n2, _, _, _, hzl, hg⟩ := DataW.trod_struct Try.underlying29 (h1.trans rfl)
      have g0 : DataW.trod enc Try.prog w 0 (fun _ => true) true n2 2 ((([c1, c2, c3] : List Value).drop 0).take (Try.prog.cellsOf 2)) = zs[0]? := hg 0 _ rfl
      have g1 : DataW.trod enc Try.prog w 0 (fun _ => true) true n2 2 ((([c1, c2, c3] : List Value).drop 1).take (Try.prog.cellsOf 2)) = zs[1]? := hg 1 _ rfl
      have g2 : DataW.trod enc Try.prog w 0 (fun _ => true) true n2 2 ((([c1, c2, c3] : List Value).drop 2).take (Try.prog.cellsOf 2)) = zs[2]? := hg 2 _ rfl
      rw [hL] at g0 g1 g2
      have hzl2 : zs.length = 3 := hzl
      obtain ⟨z0, z1, z2, rfl⟩ : ∃ z0 z1 z2, zs = [z0, z1, z2] := by
        match zs, hzl2 with
        | [z0, z1, z2], _ => exact ⟨z0, z1, z2, rfl⟩
      obtain ⟨n1, e1, _, w1⟩ := DataW.trod_int Try.underlying2 (g0.trans rfl)
      obtain ⟨n2', e2, _, w2⟩ := DataW.trod_int Try.underlying2 (g1.trans rfl)
      obtain ⟨n3, e3, _, w3⟩ := DataW.trod_int Try.underlying2 (g2.trans rfl)
      simp at e0 e1 e2 e3 e4
      subst e0 e1 e2 e3 e4
      refine ⟨⟨n0, ⟨n1, n2', n3⟩, n4⟩, fun j u hj => ?_, ⟨abIn_of w1, abIn_of w4⟩⟩
      have hj5 : j < 5 := (List.getElem?_eq_some_iff.1 hj).1
      have h := hat j (by omega)
      rw [Go.Deep.add_add] at h
      rw [h]
      exact hj
    have hch : ∃ f : Nat → Ak, ∀ i, i < len → (∀ j u, (akK.enc (f i))[j]? = some u → w.cell? (a.add (i * 5 + j)) = some u) ∧ AkIn (f i) := by
      refine Classical.axiomOfChoice (r := fun i (y : Ak) => i < len → (∀ j u, (akK.enc y)[j]? = some u → w.cell? (a.add (i * 5 + j)) = some u) ∧ AkIn y) fun i => ?_
      by_cases h : i < len
      · obtain ⟨r, hr⟩ := key i h
        exact ⟨r, fun _ => hr⟩
      · exact ⟨⟨0, ⟨0, 0, 0⟩, 0⟩, fun h' => absurd h' h⟩
    obtain ⟨f, hf⟩ := hch
    refine ⟨(List.range len).map f, ⟨by simp, hl, (fun e => by cases e), ?_⟩, (fun y hy => ?_), hlen⟩
    · by_cases h0 : len = 0
      · exact .inl h0
      · obtain ⟨b, off, spot⟩ := a
        have h1 := (hf 0 (by omega)).1 0 _ rfl
        have hsp : spot = none := by simpa [Addr.add] using World.cell?_spot h1
        subst hsp
        refine .inr ⟨b, off, rfl, ?_, fun i r hi j u hj => ?_⟩
        · rw [Go.WideShapes.add_plain] at h1
          exact World.block_lt_of_cell? w _ h1
        · obtain ⟨hlt, e⟩ := List.getElem?_eq_some_iff.1 hi
          have hil : i < len := by simpa using hlt
          have e : f i = r := by simpa using e
          subst e
          have h2 := (hf i hil).1 j u hj
          rw [Go.WideShapes.add_plain] at h2
          exact h2
    · obtain ⟨i, hi, rfl⟩ := List.mem_map.1 hy
      exact (hf i (List.mem_range.1 hi)).2
end
end Go.Proofs.Ytbejincejbnbaaa
