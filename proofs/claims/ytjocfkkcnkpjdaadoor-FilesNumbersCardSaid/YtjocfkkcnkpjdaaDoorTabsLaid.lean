/- What the rows list (the library's two tables of runes) gives the walks. -/
import Derived.Test.YtjocfkkcnkpjdaaDoorRows
import Derived.Test.YtjocfkkcnkpjdaaDoorNameLessOne
import Derived.LaidMore
import Derived.Lib.LaidU8
import Derived.Stop.Joined
namespace Go.Proofs.YtjocfkkcnkpjdaaDoor
open Go.Lib
set_option maxRecDepth 100000
theorem firstIs : (Rows.laid_unicode_utf8_first : DataW Unit) = firstData := by kernel_rfl
theorem acceptIs : (Rows.laid_unicode_utf8_acceptRanges : DataW Unit) = acceptData := by kernel_rfl
theorem u8Extra : U8Extra Tryd.prog Tryd.lays197_ren := ⟨by kernel_rfl, by kernel_rfl, by kernel_rfl, by kernel_rfl, by kernel_rfl, by kernel_rfl, by kernel_rfl⟩
theorem tabs_of_laid {W : World} (h : laidMetH Tryd.prog Rows.filesKeepRow.laid W) : Tabs W := by
  rw [MakeChecks.laidMetH_plain _ _ _ (by kernel_rfl)] at h
  have h4 := Lib.laidMet.reads h (.head _)
  have h3 := Lib.laidMet.reads h (.tail _ (.head _))
  rw [firstIs] at h3
  rw [acceptIs] at h4
  exact utf8Tabs_of_reads { Tryd.lays197 with } u8Extra h3 h4
theorem tabs_two {W : World} (h : Tabs W) : 2 ≤ W.heap.size := by
  have := World.block_lt_of_cell? W _ (h.2 0 (by decide)).1
  simp only at this
  omega
end Go.Proofs.YtjocfkkcnkpjdaaDoor
