/- FilesApart, from what comes in. -/
import Derived.Test.YtjocfkkcnkpjdaaDoorFlApart
import Derived.Test.YtjocfkkcnkpjdaaDoorTabsLaid
namespace Go.Proofs.YtjocfkkcnkpjdaaDoor
open Go.RowKit
set_option linter.unusedVariables false
theorem apart_law (a0 : Option Addr) (len0 cap0 : Nat) (z0 : List Int) (a1 : Option Addr) (len1 cap1 : Nat) (z1 : List Int) (a2 : Option Addr) (len2 cap2 : Nat) (l2 : List Ak) (W : World) (w0 : IsRow .u8 W a0 len0 cap0 z0) (b0 : len0 ≤ 1048576) (w1 : IsRow .u8 W a1 len1 cap1 z1) (b1 : len1 ≤ 1048576)
    (w2 : RowAt askK W a2 len2 cap2 l2) (x2 : ∀ y ∈ l2, AskIn W y) (hT : Tabs W) :
    Calls Tryd.prog 8 #[.slice a0 len0 cap0, .slice a1 len1 cap1, .slice a2 len2 cap2] W fun e w' => e = .returned (.bool true) ∧ Below W.heap.size W w' :=
  apart_any W a0 len0 cap0 _ (row_bytes w0.byt) w0.byt.1.all b0 a1 len1 cap1 _ (row_bytes w1.byt) w1.byt.1.all b1 a2 len2 cap2 l2 w2 x2 hT (tabs_two hT)
end Go.Proofs.YtjocfkkcnkpjdaaDoor
