/- The document's own runes. -/
import Derived.Test.YtjocfkkcnkpjdaaDoorRow32
namespace Go.Proofs.YtjocfkkcnkpjdaaDoor
open Go.RowKit
open Go.RuneMath
set_option linter.unusedVariables false

def Runs (s : ByteArray) (w : World) (e : Ending) (w' : World) : Prop := ∃ v, e = .returned v ∧ w'.ownsRow w.heap.size 21 1 v (runes s.data.toList).length (rvals (runes s.data.toList)) ∧ Below w.heap.size w w'
set_option maxHeartbeats 400000 in
set_option maxRecDepth 100000 in
theorem runes_any (w : World) (s : ByteArray) (hs : s.size ≤ 1073741824) : Calls Tryd.prog 82 #[.string s] w (Runs s w) := by
  go_enter Tryd.func82, Tryd.ntmps82
  go_wp2
  go_loopw [3] (fun v wr => ∃ pos : Nat, Coll s w wr v pos) (fun _ wr => s.size - wr.iterPos w.heap.size)
  case atStart => exact ⟨0, coll_start s w⟩
  case round =>
    obtain ⟨pos, hc⟩ := hrel
    have HC := Lib.hid hc
    have HI := Lib.hid (coll_it hc)
    clear hc
    by_cases hp : pos < s.size
    · have hnx : ∀ ty, (Instr.next (.pointer (some ⟨w.heap.size, 0, none⟩)) true ty).run Tryd.prog wr = _ := fun ty => Lib.run_next_any_at wr w.heap.size s pos ty HI.out hp
      have HW := Lib.hid (Lib.width_pos s pos)
      have hr4 := Lib.rune_le s pos
      obtain ⟨r, hr⟩ : ∃ r, r = (Utf8.decode s pos).1 := ⟨_, rfl⟩
      obtain ⟨k, hk⟩ : ∃ k, k = (Utf8.decode s pos).2 := ⟨_, rfl⟩
      rw [← hr] at hr4
      rw [← hk] at HW
      simp only [← hr, ← hk] at hnx
      have HR := Lib.hid hr
      have HK := Lib.hid hk
      clear hr hk
      go_wp2_with (at_builtin; refine coll_append rfl (.tmp 11) (.tmp 13) rfl s w wr _ pos r k hs rfl HC.out hp HR.out HK.out rfl ?_)
      intro v' w' hc'
      have HC' := Lib.hid hc'
      clear hc'
      go_wp2
      go_roundw
      case rel => exact ⟨pos + k, HC'.out⟩
      case measure =>
        rw [it_pos (coll_it HC'.out), it_pos HI.out]
        have := HW.out
        omega
    · have hnx : ∀ ty, (Instr.next (.pointer (some ⟨w.heap.size, 0, none⟩)) true ty).run Tryd.prog wr = _ := fun ty => Lib.run_next_end_at wr w.heap.size s pos ty HI.out hp
      have HE := Lib.hid (coll_end HC.out hp)
      go_wp2
      go_ret
      exact ⟨_, rfl, HE.out⟩
end Go.Proofs.YtjocfkkcnkpjdaaDoor
