/- FilesKeep, from what comes in. -/
import Derived.Test.YtjocfkkcnkpjdaaDoorFlKeep
import Derived.Test.YtjocfkkcnkpjdaaDoorTabsLaid
namespace Go.Proofs.YtjocfkkcnkpjdaaDoor
open Go.RowKit
set_option linter.unusedVariables false
theorem keep_law (a0 : Option Addr) (len0 cap0 : Nat) (z0 : List Int) (a1 : Option Addr) (len1 cap1 : Nat) (z1 : List Int) (a2 a3 : Int) (W : World) (w0 : IsRow .u8 W a0 len0 cap0 z0) (hs0 : len0 * 1 ≤ 140737488351232) (w1 : IsRow .u8 W a1 len1 cap1 z1) (hs1 : len1 * 1 ≤ 140737488351232)
    (w2 : (Lit.int .i64 a2).wf = true) (w3 : (Lit.int .u8 a3).wf = true) (hT : Tabs W) :
    Calls Tryd.prog 5 #[.slice a0 len0 cap0, .slice a1 len1 cap1, .int .i64 a2, .int .u8 a3] W fun e w' => e = .returned (.bool true) ∧ Below W.heap.size W w' := by
  have h3 := wf_byte w3
  have h2 := bounds_i64 w2
  obtain ⟨g, rfl⟩ : ∃ g : Nat, a3 = (g : Int) := ⟨a3.toNat, by omega⟩
  exact keep_any W a0 len0 cap0 _ (row_bytes w0.byt) w0.byt.1.all a1 len1 cap1 _ (row_bytes w1.byt) w1.byt.1.all a2 (by omega) (by omega) g (by omega) hT (tabs_two hT)
end Go.Proofs.YtjocfkkcnkpjdaaDoor
