/- The contracts of Count and Right. -/
import Derived.Lib.OthersKept
import Derived.Test.YtifogkacjfpipaaNameSmallOne
import Derived.Test.YtifogkacjfpipaaShelf
namespace Go.Proofs.Ytifogkacjfpipaa
open Go.RowKit
open Go.RuneMath
set_option linter.unusedVariables false

/-- The iterator of a string in block k stands at pos. -/
def ItAt (w : World) (k : Nat) (s : ByteArray) (pos : Nat) : Prop := w.heap[k]? = some (.stringIter s pos)
theorem it_start (w : World) (s : ByteArray) : ItAt (w.alloc (.stringIter s 0)) w.heap.size s 0 := by
  unfold ItAt
  exact heap_alloc_new w _
theorem it_pos {w : World} {k : Nat} {s : ByteArray} {pos : Nat} (h : ItAt w k s pos) : w.iterPos k = pos := by
  unfold ItAt at h
  simp [World.iterPos, h]
theorem it_next {w : World} {k : Nat} {s : ByteArray} {pos : Nat} (h : ItAt w k s pos) (pos' : Nat) : ItAt (w.iterAt k s pos') k s pos' := Lib.iterAt_heap w k s pos pos' h
theorem it_below {w w' : World} {k b : Nat} {s : ByteArray} {pos : Nat} (h : ItAt w k s pos) (hb : Below b w w') (hk : k < b) : ItAt w' k s pos := by
  unfold ItAt at *
  rw [hb.block k hk]
  exact h
theorem it_lt {w : World} {k : Nat} {s : ByteArray} {pos : Nat} (h : ItAt w k s pos) : k < w.heap.size := (Array.getElem?_eq_some_iff.1 h).1

theorem step {w a b : World} (h : Below w.heap.size w a) (k : Below a.heap.size a b) : Below w.heap.size w b := h.trans (k.mono h.size)

def Counts (s : ByteArray) (w : World) (e : Ending) (w' : World) : Prop := e = .returned (.int .i64 (countB s.data.toList : Nat)) ∧ Below w.heap.size w w'
theorem counts_mk {s : ByteArray} {w w' : World} {m : Nat} (h : m = countB s.data.toList) (hb : Below w.heap.size w w') : Counts s w (.returned (.int .i64 (m : Int))) w' := ⟨by rw [h], hb⟩
set_option maxHeartbeats 1000000 in
theorem count_any (w : World) (s : ByteArray) (hs : s.size ≤ 140737488355328) : Calls Try.prog 28 #[.string s] w (Counts s w) := by
  go_enter Try.func28, Try.ntmps28
  go_wp2
  go_loopw [3] (fun n wr => ∃ pos m : Nat, ItAt wr w.heap.size s pos ∧ Below w.heap.size w wr ∧ n = .int .i64 m ∧ m ≤ pos ∧ m ≤ s.size ∧ m + (rs s pos).length = countB s.data.toList) (fun _ wr => s.size - wr.iterPos w.heap.size)
  case atStart => exact ⟨0, 0, it_start w s, (Below.refl _ w).alloc (Nat.le_refl _) _, rfl, Nat.le_refl _, by omega, by rw [rs_zero]; unfold countB; omega⟩
  case round =>
    obtain ⟨pos, m, hit, hbw, rfl, hmp, hms, hcnt⟩ := hrel
    have HI := Lib.hid hit
    have HB := Lib.hid hbw
    have HC := Lib.hid hcnt
    clear hit hbw hcnt
    by_cases hp : pos < s.size
    · have hnx : ∀ ty, (Instr.next (.pointer (some ⟨w.heap.size, 0, none⟩)) true ty).run Try.prog wr = _ := fun ty => Lib.run_next_any_at wr w.heap.size s pos ty HI.out hp
      go_wp2
      go_roundw
      case rel =>
        have e := rs_step hp
        have hc := HC.out
        rw [e, List.length_cons] at hc
        have hl := runes_len s.data.toList
        have hw := Lib.width_pos s pos
        rw [← Lib.size_eq] at hl
        unfold countB at hc
        exact ⟨pos + (Utf8.decode s pos).2, m + 1, it_next HI.out _, Lib.below_iterAt HB.out (Nat.le_refl _) s _, by go_num, by omega, by omega, by unfold countB; omega⟩
      case measure =>
        have hw := Lib.width_pos s pos
        rw [it_pos (it_next HI.out _), it_pos HI.out]
        omega
    · have hnx : ∀ ty, (Instr.next (.pointer (some ⟨w.heap.size, 0, none⟩)) true ty).run Try.prog wr = _ := fun ty => Lib.run_next_end_at wr w.heap.size s pos ty HI.out hp
      go_wp2
      go_ret
      exact counts_mk (by have := HC.out; rw [rs_end hp] at this; simpa using this) HB.out
end Go.Proofs.Ytifogkacjfpipaa
