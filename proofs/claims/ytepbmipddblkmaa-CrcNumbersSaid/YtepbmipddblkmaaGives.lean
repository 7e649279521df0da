/- What 'Check' and 'Unseal' give, in one form: the bytes behind the first four, if those are their sum; else none. -/
import Derived.Test.YtepbmipddblkmaaUnseal
namespace Go.Proofs.Ytepbmipddblkmaa
open Go.RowKit Go.CrcMath
set_option linter.unusedVariables false

/-- What is read of a row: the bytes behind the first four, if those are their sum. -/
def tail (bs : List Nat) : List Nat := if okB bs = true then bs.drop 4 else []
theorem tail_all {bs : List Nat} (h : AllB bs) : AllB (tail bs) := by
  unfold tail
  split
  · exact fun x hx => h x (List.mem_of_mem_drop hx)
  · exact fun x hx => by cases hx
def Gives (w : World) (bs : List Nat) (e : Ending) (w' : World) : Prop :=
  ∃ a l c, e = .returned (.tuple #[.slice a l c, .bool (okB bs)]) ∧ Hid (Byt w' a l c (tail bs)) ∧ Hid (Below w.heap.size w w')
theorem gives_bad {w w' : World} {bs : List Nat} (h : okB bs = false) (hb : Below w.heap.size w w') : Gives w bs (.returned (.tuple #[.slice none 0 0, .bool false])) w' := by
  refine ⟨none, 0, 0, by rw [h], ?_, hb⟩
  have : tail bs = [] := by unfold tail; rw [h]; rfl
  rw [this]; exact Byt.nil w'
theorem check_any (w : World) (ad : Option Addr) (len cap : Nat) (bs : List Nat) (h : Byt w ad len cap bs) (hL : len ≤ 140737488355300) :
    Calls Try.prog 12 #[.slice ad len cap] w (Gives w bs) := by
  by_cases h4 : len < 4
  · refine (check_short w ad len cap bs h h4).mono ?_
    rintro e w' ⟨rfl, n, rfl⟩
    exact gives_bad (okB_short (by rw [h.length]; exact h4)) (below_drewN (Below.refl _ _) _)
  · refine (check_long w ad len cap bs h (by omega) (by omega)).mono ?_
    rintro e w' ⟨h1, h2⟩
    cases hok : okB bs
    · obtain ⟨rfl, hb⟩ := h1 hok
      exact gives_bad hok hb
    · obtain ⟨g, rfl, hg, ho, hb⟩ := h2 hok
      have ht : tail bs = bs.drop 4 := by unfold tail; rw [if_pos hok]
      have hl : (bs.drop 4).length = len - 4 := by rw [List.length_drop, h.length]
      refine ⟨_, _, _, by rw [hok], ?_, hb⟩
      rw [ht]
      have := ho.byt (fun x hx => h.all x (List.mem_of_mem_drop hx)) (len - 4) (by omega)
      rw [hl] at this
      exact this
theorem unseal_any (w : World) (ad : Option Addr) (len cap : Nat) (bs : List Nat) (h : Byt w ad len cap bs) (hL : len ≤ 140737488355300) :
    Calls Try.prog 16 #[.slice ad len cap] w (Gives w bs) := by
  by_cases h4 : len < 4
  · refine (unseal_short w ad len cap bs h h4).mono ?_
    rintro e w' ⟨rfl, n, rfl⟩
    exact gives_bad (okB_short (by rw [h.length]; exact h4)) (below_drewN (Below.refl _ _) _)
  · refine (unseal_long w ad len cap bs h (by omega) hL).mono ?_
    rintro e w' ⟨h1, h2⟩
    cases hok : okB bs
    · obtain ⟨rfl, hb⟩ := h1 hok
      exact gives_bad hok hb
    · obtain ⟨v, rfl, g, cp, rfl, hcp, hg, hp, hb⟩ := h2 hok
      have ht : tail bs = bs.drop 4 := by unfold tail; rw [if_pos hok]
      refine ⟨_, _, _, by rw [hok], ?_, hb⟩
      rw [ht]
      exact hp.byt (fun x hx => h.all x (List.mem_of_mem_drop hx)) cp hcp

end Go.Proofs.Ytepbmipddblkmaa
