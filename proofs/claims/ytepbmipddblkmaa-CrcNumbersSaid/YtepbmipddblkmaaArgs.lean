/- What a slice of bytes that came in gives the contracts. -/
import Derived.Test.YtepbmipddblkmaaKnown
import Derived.OpenShut
namespace Go.Proofs.Ytepbmipddblkmaa
open Go.RowKit Go.CrcMath Go.OpenShut
set_option linter.unusedVariables false

def IsRow (k : IntKind) (w : World) (a : Option Addr) (len cap : Nat) (zs : List Int) : Prop :=
  (a = none ∧ len = 0 ∧ cap = 0 ∧ zs = []) ∨
  ∃ x, a = some x ∧ len ≤ cap ∧ cap ≤ maxLen ∧ zs.length = cap ∧ (∀ i, i < zs.length → w.cell? (x.add i) = some (.int k (zs.getD i 0))) ∧ ∀ n ∈ zs, (Lit.int k n).wf = true

/-- The bytes of a slice that came in, as numbers. -/
def bytesOf (len : Nat) (zs : List Int) : List Nat := (zs.take len).map Int.toNat
theorem wf_byte {n : Int} (h : (Lit.int .u8 n).wf = true) : 0 ≤ n ∧ n < 256 := by
  have := bounds_u8 h
  omega
theorem IsRow.byt {w : World} {a : Option Addr} {len cap : Nat} {zs : List Int} (h : IsRow .u8 w a len cap zs) : Byt w a len cap (bytesOf len zs) ∧ (a = none → cap = 0) := by
  rcases h with ⟨rfl, rfl, rfl, rfl⟩ | ⟨x, rfl, hl, hm, hz, hc, hw⟩
  · exact ⟨Byt.nil w, fun _ => rfl⟩
  · refine ⟨⟨by simp [bytesOf]; omega, hl, ?_, ?_⟩, fun e => by cases e⟩
    · intro y hy
      obtain ⟨n, hn, rfl⟩ := List.mem_map.1 hy
      have := wf_byte (hw n (List.mem_of_mem_take hn))
      omega
    · by_cases h0 : len = 0
      · exact .inl h0
      · obtain ⟨b, off, spot⟩ := x
        have h1 := hc 0 (by omega)
        have hs : spot = none := by simpa [Addr.add] using World.cell?_spot h1
        subst hs
        refine .inr ⟨b, off, rfl, fun i hi => ?_⟩
        have h2 := hc i (by omega)
        rw [add_at] at h2
        rw [h2]
        have hi2 : i < zs.length := by omega
        have h3 := wf_byte (hw (zs.getD i 0) (by rw [List.getD_eq_getElem?_getD, List.getElem?_eq_getElem hi2]; simp))
        have h4 : ((bytesOf len zs).getD i 0 : Nat) = (zs.getD i 0).toNat := by
          simp [bytesOf, List.getD_eq_getElem?_getD, hi, hi2]
        rw [h4, Int.toNat_of_nonneg h3.1]
end Go.Proofs.Ytepbmipddblkmaa
