/- FilesRename, from what comes in. -/
import Derived.Test.YtjocfkkcnkpjdaaDoorFlRename
import Derived.Test.YtjocfkkcnkpjdaaDoorTabsLaid
namespace Go.Proofs.YtjocfkkcnkpjdaaDoor
open Go.RowKit
set_option linter.unusedVariables false
theorem rename_law (a0 : Option Addr) (len0 cap0 : Nat) (z0 : List Int) (a1 : Option Addr) (len1 cap1 : Nat) (z1 : List Int) (a2 : Option Addr) (len2 cap2 : Nat) (z2 : List Int) (a3 : Int) (W : World) (w0 : IsRow .u8 W a0 len0 cap0 z0) (hs0 : len0 * 1 ≤ 140737488351232) (w1 : IsRow .u8 W a1 len1 cap1 z1) (hs1 : len1 * 1 ≤ 140737488351232) (w2 : IsRow .u8 W a2 len2 cap2 z2) (hs2 : len2 * 1 ≤ 140737488351232)
    (w3 : (Lit.int .i64 a3).wf = true) (hT : Tabs W) :
    Calls Tryd.prog 7 #[.slice a0 len0 cap0, .slice a1 len1 cap1, .slice a2 len2 cap2, .int .i64 a3] W fun e w' => e = .returned (.bool true) ∧ Below W.heap.size W w' := by
  have h3 := bounds_i64 w3
  exact rename_any W a0 len0 cap0 _ (row_bytes w0.byt) w0.byt.1.all a1 len1 cap1 _ (row_bytes w1.byt) w1.byt.1.all (by omega) a2 len2 cap2 _ (row_bytes w2.byt) w2.byt.1.all a3 (by omega) (by omega) hT (tabs_two hT)
end Go.Proofs.YtjocfkkcnkpjdaaDoor
