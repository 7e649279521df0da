/- Count and Right, the document's own. -/
import Derived.Lib.OthersKept
import Derived.Test.YtjocfkkcnkpjdaaDoorNameRefSmall
namespace Go.Proofs.YtjocfkkcnkpjdaaDoor
open Go.RowKit
open Go.RuneMath
set_option linter.unusedVariables false

set_option maxHeartbeats 1000000 in
theorem ref_count_any (w : World) (s : ByteArray) (hs : s.size ≤ 140737488355328) : Calls Tryd.prog 59 #[.string s] w (Counts s w) := by
  go_enter Tryd.func59, Tryd.ntmps59
  go_wp2
  go_loopw [3] (fun n wr => ∃ pos m : Nat, ItAt wr w.heap.size s pos ∧ Below w.heap.size w wr ∧ n = .int .i64 m ∧ m ≤ pos ∧ m ≤ s.size ∧ m + (rs s pos).length = countB s.data.toList) (fun _ wr => s.size - wr.iterPos w.heap.size)
  case atStart => exact ⟨0, 0, it_start w s, (Below.refl _ w).alloc (Nat.le_refl _) _, rfl, Nat.le_refl _, by omega, by rw [rs_zero]; unfold countB; omega⟩
  case round =>
    obtain ⟨pos, m, hit, hbw, rfl, hmp, hms, hcnt⟩ := hrel
    have HI := Lib.hid hit
    have HB := Lib.hid hbw
    have HC := Lib.hid hcnt
    clear hit hbw hcnt
    by_cases hp : pos < s.size
    · have hnx : ∀ ty, (Instr.next (.pointer (some ⟨w.heap.size, 0, none⟩)) true ty).run Tryd.prog wr = _ := fun ty => Lib.run_next_any_at wr w.heap.size s pos ty HI.out hp
      go_wp2
      go_roundw
      case rel =>
        have e := rs_step hp
        have hc := HC.out
        rw [e, List.length_cons] at hc
        have hl := runes_len s.data.toList
        have hw := Lib.width_pos s pos
        rw [← Lib.size_eq] at hl
        unfold countB at hc
        exact ⟨pos + (Utf8.decode s pos).2, m + 1, it_next HI.out _, Lib.below_iterAt HB.out (Nat.le_refl _) s _, by go_num, by omega, by omega, by unfold countB; omega⟩
      case measure =>
        have hw := Lib.width_pos s pos
        rw [it_pos (it_next HI.out _), it_pos HI.out]
        omega
    · have hnx : ∀ ty, (Instr.next (.pointer (some ⟨w.heap.size, 0, none⟩)) true ty).run Tryd.prog wr = _ := fun ty => Lib.run_next_end_at wr w.heap.size s pos ty HI.out hp
      go_wp2
      go_ret
      exact counts_mk (by have := HC.out; rw [rs_end hp] at this; simpa using this) HB.out

set_option maxHeartbeats 1000000 in
theorem ref_right_any (w : World) (s : ByteArray) (hs : s.size ≤ 140737488355328) : Calls Tryd.prog 47 #[.string s] w (Rights s w) := by
  go_enter Tryd.func47, Tryd.ntmps47
  go_wp2
  go_loopw [] (fun wr => ∃ (pos : Nat) (pre : List Nat), ItAt wr w.heap.size s pos ∧ Below w.heap.size w wr ∧ runes s.data.toList = pre ++ rs s pos ∧ pre.all okR = true) (fun wr => s.size - wr.iterPos w.heap.size)
  case atStart => exact ⟨0, [], it_start w s, (Below.refl _ w).alloc (Nat.le_refl _) _, by rw [rs_zero]; rfl, rfl⟩
  case round =>
    obtain ⟨pos, pre, hit, hbw, hsp, hall⟩ := hrel
    have HI := Lib.hid hit
    have HB := Lib.hid hbw
    have HS := Lib.hid hsp
    have HA := Lib.hid hall
    clear hit hbw hsp hall
    by_cases hp : pos < s.size
    · have hnx : ∀ ty, (Instr.next (.pointer (some ⟨w.heap.size, 0, none⟩)) true ty).run Tryd.prog wr = _ := fun ty => Lib.run_next_any_at wr w.heap.size s pos ty HI.out hp
      have HW := Lib.hid (Lib.width_pos s pos)
      have hst := HS.out
      rw [rs_step hp] at hst
      obtain ⟨r, hr⟩ : ∃ r, r = (Utf8.decode s pos).1 := ⟨_, rfl⟩
      obtain ⟨k, hk⟩ : ∃ k, k = (Utf8.decode s pos).2 := ⟨_, rfl⟩
      rw [← hr, ← hk] at hst
      rw [← hk] at HW
      simp only [← hr, ← hk] at hnx
      have HT := Lib.hid hst
      clear hst hr hk
      obtain ⟨b, hb⟩ : ∃ b, b = okR r := ⟨_, rfl⟩
      have CA0 := fun W => rune1_any W r
      rw [← hb] at CA0
      have CA := Lib.hid CA0
      have HK := Lib.hid hb
      clear CA0 hb
      cases b
      · have HF : Hid (false = rightB s.data.toList) := (right_bad HT.out HK.out.symm).symm
        go_wp2_with (go_at_call 58; refine (CA.out _).mono ?_; rintro e w' ⟨rfl, rfl⟩)
        go_ret
        exact rights_mk HF.out (Lib.below_iterAt HB.out (Nat.le_refl _) s _)
      · go_wp2_with (go_at_call 58; refine (CA.out _).mono ?_; rintro e w' ⟨rfl, rfl⟩)
        go_roundw
        case rel => exact ⟨pos + k, pre ++ [r], it_next HI.out _, Lib.below_iterAt HB.out (Nat.le_refl _) s _, split_snoc HT.out, all_snoc HA.out HK.out.symm⟩
        case measure =>
          rw [it_pos (it_next HI.out _), it_pos HI.out]
          have := HW.out
          omega
    · have hnx : ∀ ty, (Instr.next (.pointer (some ⟨w.heap.size, 0, none⟩)) true ty).run Tryd.prog wr = _ := fun ty => Lib.run_next_end_at wr w.heap.size s pos ty HI.out hp
      obtain ⟨c, hc⟩ : ∃ c, c = countB s.data.toList := ⟨_, rfl⟩
      have HF : Hid (rightB s.data.toList = (decide (1 ≤ c) && decide (c ≤ 40))) := by
        show _ = _
        have e := HS.out
        rw [rs_end hp, List.append_nil] at e
        unfold rightB rightR
        rw [hc]
        unfold countB
        rw [e, HA.out]
        rfl
      have CC0 := fun W => ref_count_any W s hs
      unfold Counts at CC0
      rw [← hc] at CC0
      have CC := Lib.hid CC0
      clear CC0 hc
      by_cases h1 : 1 ≤ c
      · have HG : Hid (decide (c ≤ 40) = rightB s.data.toList) := by
          show _ = _
          rw [HF.out, decide_eq_true h1]
          rfl
        go_wp2_with fail
        refine (CC.out _).mono ?_
        rintro e w1 ⟨rfl, hb1⟩
        have HN1 := Lib.hid hb1
        clear hb1
        go_wp2_with fail
        refine (CC.out _).mono ?_
        rintro e w2 ⟨rfl, hb2⟩
        have HN2 := Lib.hid hb2
        clear hb2
        go_wp2
        go_ret
        have e : decide ((c : Int) ≤ 40) = rightB s.data.toList := by
          rw [← HG.out, decide_eq_decide]
          omega
        exact rights_mk e (step (step HB.out HN1.out) HN2.out)
      · have HG : Hid (false = rightB s.data.toList) := by
          show _ = _
          rw [HF.out, decide_eq_false h1]
          rfl
        go_wp2_with fail
        refine (CC.out _).mono ?_
        rintro e w1 ⟨rfl, hb1⟩
        have HN1 := Lib.hid hb1
        clear hb1
        go_wp2
        go_ret
        exact rights_mk HG.out (step HB.out HN1.out)
end Go.Proofs.YtjocfkkcnkpjdaaDoor
