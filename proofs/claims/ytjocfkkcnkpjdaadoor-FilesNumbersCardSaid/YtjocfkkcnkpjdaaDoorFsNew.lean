/- Chapter 7's own files: New. -/
import Derived.Test.YtjocfkkcnkpjdaaDoorFsRename
namespace Go.Proofs.YtjocfkkcnkpjdaaDoor
open Go.RowKit
open Go.RuneMath
open Go.FsMath
set_option linter.unusedVariables false

def GivesNew (w : World) (e : Ending) (w' : World) : Prop := ∃ k, e = .returned (.pointer (some ⟨k, 0, none⟩)) ∧ w.heap.size ≤ k ∧ FsOk w' k (.slice none 0 0) (-1) 0 [] ∧ Below w.heap.size w w'
set_option maxRecDepth 100000 in
theorem fsNew_any (w : World) : Calls Tryd.prog 25 #[] w (GivesNew w) := by
  go_enter Tryd.func25, Tryd.ntmps25
  go_wp2
  go_ret
  obtain ⟨w1, hw1⟩ : ∃ x, x = w.alloc (.cells #[.slice none 0 0, .int .i64 (-1), .int .i64 0] 54) := ⟨_, rfl⟩
  have hb : Below w.heap.size w w1 := by rw [hw1]; exact (Below.refl _ _).alloc (Nat.le_refl _) _
  rw [← hw1]
  refine ⟨w.heap.size, rfl, Nat.le_refl _, ⟨?_, ownRow_nil _ _ _, fun m hm => by simp at hm, fun m hm => by simp at hm⟩, hb⟩
  show w1.heap[w.heap.size]? = _
  rw [hw1]
  exact heap_alloc_new w _
end Go.Proofs.YtjocfkkcnkpjdaaDoor
