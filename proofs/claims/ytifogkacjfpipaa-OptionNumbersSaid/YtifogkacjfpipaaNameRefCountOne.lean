/- Count, the document's own. -/
import Derived.Lib.OthersKept
import Derived.Test.YtifogkacjfpipaaNameCountOne
namespace Go.Proofs.Ytifogkacjfpipaa
open Go.RowKit
open Go.RuneMath
set_option linter.unusedVariables false

set_option maxHeartbeats 1000000 in
theorem ref_count_any (w : World) (s : ByteArray) (hs : s.size ≤ 140737488355328) : Calls Try.prog 15 #[.string s] w (Counts s w) := by
  go_enter Try.func15, Try.ntmps15
  go_wp2
  go_loopw [3] (fun n wr => ∃ pos m : Nat, ItAt wr w.heap.size s pos ∧ Below w.heap.size w wr ∧ n = .int .i64 m ∧ m ≤ pos ∧ m ≤ s.size ∧ m + (rs s pos).length = countB s.data.toList) (fun _ wr => s.size - wr.iterPos w.heap.size)
  case atStart => exact ⟨0, 0, it_start w s, (Below.refl _ w).alloc (Nat.le_refl _) _, rfl, Nat.le_refl _, by omega, by rw [rs_zero]; unfold countB; omega⟩
  case round =>
    obtain ⟨pos, m, hit, hbw, rfl, hmp, hms, hcnt⟩ := hrel
    have HI := Lib.hid hit
    have HB := Lib.hid hbw
    have HC := Lib.hid hcnt
    clear hit hbw hcnt
    by_cases hp : pos < s.size
    · have hnx : ∀ ty, (Instr.next (.pointer (some ⟨w.heap.size, 0, none⟩)) true ty).run Try.prog wr = _ := fun ty => Lib.run_next_any_at wr w.heap.size s pos ty HI.out hp
      go_wp2
      go_roundw
      case rel =>
        have e := rs_step hp
        have hc := HC.out
        rw [e, List.length_cons] at hc
        have hl := runes_len s.data.toList
        have hw := Lib.width_pos s pos
        rw [← Lib.size_eq] at hl
        unfold countB at hc
        exact ⟨pos + (Utf8.decode s pos).2, m + 1, it_next HI.out _, Lib.below_iterAt HB.out (Nat.le_refl _) s _, by go_num, by omega, by omega, by unfold countB; omega⟩
      case measure =>
        have hw := Lib.width_pos s pos
        rw [it_pos (it_next HI.out _), it_pos HI.out]
        omega
    · have hnx : ∀ ty, (Instr.next (.pointer (some ⟨w.heap.size, 0, none⟩)) true ty).run Try.prog wr = _ := fun ty => Lib.run_next_end_at wr w.heap.size s pos ty HI.out hp
      go_wp2
      go_ret
      exact counts_mk (by have := HC.out; rw [rs_end hp] at this; simpa using this) HB.out

end Go.Proofs.Ytifogkacjfpipaa
