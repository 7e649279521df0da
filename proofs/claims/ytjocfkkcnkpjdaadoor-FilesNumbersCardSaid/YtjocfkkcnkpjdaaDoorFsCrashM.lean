/- Chapter 7's own files: what Crash needs of lists and of memory. -/
import Derived.Test.YtjocfkkcnkpjdaaDoorFsNew
import Derived.Test.YtjocfkkcnkpjdaaDoorFsXor
namespace Go.Proofs.YtjocfkkcnkpjdaaDoor
open Go.RowKit
open Go.RuneMath
open Go.FsMath
set_option linter.unusedVariables false

/-- The bytes of one file have turned in a block of their own. -/
theorem FsOk.reborn {w w' : World} {kf g n cap i gb nb cb base : Nat} {left done : Int} {ms : List FM} {m : FM} {bs : List Nat} (h : FsOk w kf (.slice (some ⟨g, 0, none⟩) n cap) left done ms) (hm : ms[i]? = some m) (had : m.ad = some ⟨gb, 0, none⟩) (hcap : m.cap = cb) (hnb : m.f.b.length = nb) (hbs : bs.length = nb)
    (hg : w.grownBy w' (some gb)) (hrow : OwnRow byteK w' base (.slice (some ⟨gb, 0, none⟩) nb cb) bs) (hall : AllB bs) (ho : ∀ (j : Nat) x, j ≠ i → ms[j]? = some x → ∀ a, x.ad = some a → a.block ≠ gb) :
    FsOk w' kf (.slice (some ⟨g, 0, none⟩) n cap) left done (ms.set i ⟨{ m.f with b := bs }, m.ad, m.cap⟩) := by
  have hap := h.apart m (List.mem_of_getElem? hm) _ had
  have hkgb : kf < gb := hap.1
  have hgg : gb ≠ g := fun e => hap.2.2 (by rw [e]; rfl)
  have hrw : RowAt byteK w' (some ⟨gb, 0, none⟩) nb cb bs := by
    obtain ⟨a, c, e, hr, _⟩ := OwnRow.row2 byteK_ok hrow hbs
    cases e
    exact hr
  have hsame : flK.all (ms.set i ⟨{ m.f with b := bs }, m.ad, m.cap⟩) = flK.all ms := by
    have h0 := all_set1 flK_ok (m' := ⟨{ m.f with b := bs }, m.ad, m.cap⟩) hm 0 (.string m.f.name) (by decide) (by simp [flK, hbs, hnb])
    rw [← h0]
    refine List.ext_getElem? fun t => ?_
    rw [List.getElem?_set]
    by_cases ht : i * flK.size + 0 = t
    · subst ht
      have h1 := flK_ok.all_at ms i m hm 0 (by decide)
      rw [if_pos rfl, h1]
      have h2 : i * flK.size + 0 < (flK.all ms).length := (List.getElem?_eq_some_iff.1 (h1.trans rfl : _ = some (Value.string m.f.name))).1
      rw [if_pos h2]
      rfl
    · rw [if_neg ht]
  refine ⟨h.box.grown hg (fun e => by have := Option.some.inj e; omega), ?_, fun x hx => ?_, fun x hx a ha => ?_⟩
  · have h1 := h.row.grown hg fun k hk e => by
      cases hk
      exact hgg (Option.some.inj e).symm
    unfold OwnRow at h1 ⊢
    rw [hsame, List.length_set]
    exact h1
  · obtain ⟨j, hj⟩ := List.getElem?_of_mem hx
    by_cases hji : j = i
    · subst hji
      rw [List.getElem?_set_self (List.getElem?_eq_some_iff.1 hm).1] at hj
      cases hj
      exact ⟨by rw [had, hcap]; show RowAt _ _ _ bs.length _ _; rw [hbs]; exact hrw, hall⟩
    · rw [List.getElem?_set_ne (fun e => hji e.symm)] at hj
      have hxm := List.mem_of_getElem? hj
      exact ⟨(h.ins x hxm).1.grown hg fun a ha e => ho j x hji hj a ha (Option.some.inj e), (h.ins x hxm).2⟩
  · have hxm : ∃ y ∈ ms, y.ad = some a := by
      rcases List.mem_or_eq_of_mem_set hx with h1 | h1
      · exact ⟨x, h1, ha⟩
      · exact ⟨m, List.mem_of_getElem? hm, by rw [h1] at ha; exact ha⟩
    obtain ⟨y, hy, hya⟩ := hxm
    have := h.apart y hy a hya
    exact ⟨this.1, Nat.lt_of_lt_of_le this.2.1 hg.size, this.2.2⟩
end Go.Proofs.YtjocfkkcnkpjdaaDoor
