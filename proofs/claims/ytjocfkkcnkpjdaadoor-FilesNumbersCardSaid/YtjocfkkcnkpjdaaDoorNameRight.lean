/- The contract of Right. -/
import Derived.Lib.OthersKept
import Derived.Test.YtjocfkkcnkpjdaaDoorNameSmall
namespace Go.Proofs.YtjocfkkcnkpjdaaDoor
open Go.RowKit
open Go.RuneMath
set_option linter.unusedVariables false

set_option maxHeartbeats 1000000 in
theorem right_any (w : World) (s : ByteArray) : Calls Tryd.prog 34 #[.string s] w (Rights s w) := by
  go_enter Tryd.func34, Tryd.ntmps34
  go_wp2
  go_loopw [3] (fun n wr => ∃ (pos m : Nat) (pre : List Nat), ItAt wr w.heap.size s pos ∧ Below w.heap.size w wr ∧ n = .int .i64 m ∧ m ≤ 40 ∧ pre.length = m ∧ runes s.data.toList = pre ++ rs s pos ∧ pre.all okR = true) (fun _ wr => s.size - wr.iterPos w.heap.size)
  case atStart => exact ⟨0, 0, [], it_start w s, (Below.refl _ w).alloc (Nat.le_refl _) _, rfl, by omega, rfl, by rw [rs_zero]; rfl, rfl⟩
  case round =>
    obtain ⟨pos, m, pre, hit, hbw, rfl, hm40, hlen, hsp, hall⟩ := hrel
    have HI := Lib.hid hit
    have HB := Lib.hid hbw
    have HL := Lib.hid hlen
    have HS := Lib.hid hsp
    have HA := Lib.hid hall
    clear hit hbw hlen hsp hall
    by_cases hp : pos < s.size
    · have hnx : ∀ ty, (Instr.next (.pointer (some ⟨w.heap.size, 0, none⟩)) true ty).run Tryd.prog wr = _ := fun ty => Lib.run_next_any_at wr w.heap.size s pos ty HI.out hp
      have HW := Lib.hid (Lib.width_pos s pos)
      have hst := HS.out
      rw [rs_step hp] at hst
      obtain ⟨r, hr⟩ : ∃ r, r = (Utf8.decode s pos).1 := ⟨_, rfl⟩
      obtain ⟨k, hk⟩ : ∃ k, k = (Utf8.decode s pos).2 := ⟨_, rfl⟩
      rw [← hr, ← hk] at hst
      rw [← hk] at HW
      simp only [← hr, ← hk] at hnx
      have HT := Lib.hid hst
      clear hst hr hk
      obtain ⟨b, hb⟩ : ∃ b, b = okR r := ⟨_, rfl⟩
      have CA0 := fun W => allowed_any W r
      rw [← hb] at CA0
      have CA := Lib.hid CA0
      have HK := Lib.hid hb
      clear CA0 hb
      by_cases h40 : m = 40
      · have HF : Hid (false = rightB s.data.toList) := (right_many HT.out (by rw [HL.out]; exact h40)).symm
        subst h40
        go_wp2
        go_ret
        exact rights_mk HF.out (Lib.below_iterAt HB.out (Nat.le_refl _) s _)
      · have hm1 : m + 1 ≤ 40 := by omega
        cases b
        · have HF : Hid (false = rightB s.data.toList) := (right_bad HT.out HK.out.symm).symm
          go_wp2_with (go_at_call 49; refine (CA.out _).mono ?_; rintro e w' ⟨rfl, rfl⟩)
          all_goals first
            | (exfalso; omega)
            | (go_ret; exact rights_mk HF.out (Lib.below_iterAt HB.out (Nat.le_refl _) s _))
        · go_wp2_with (go_at_call 49; refine (CA.out _).mono ?_; rintro e w' ⟨rfl, rfl⟩)
          all_goals first
            | (exfalso; omega)
            | (go_roundw
               case rel => exact ⟨pos + k, m + 1, pre ++ [r], it_next HI.out _, Lib.below_iterAt HB.out (Nat.le_refl _) s _, by go_num, hm1, by rw [List.length_append, HL.out]; rfl, split_snoc HT.out, all_snoc HA.out HK.out.symm⟩
               case measure =>
                 rw [it_pos (it_next HI.out _), it_pos HI.out]
                 have := HW.out
                 omega)
    · have hnx : ∀ ty, (Instr.next (.pointer (some ⟨w.heap.size, 0, none⟩)) true ty).run Tryd.prog wr = _ := fun ty => Lib.run_next_end_at wr w.heap.size s pos ty HI.out hp
      have HF : Hid (decide (0 < m) = rightB s.data.toList) := by
        show _ = _
        unfold rightB rightR
        rw [HS.out, rs_end hp, List.append_nil, HA.out, HL.out, Bool.eq_iff_iff]
        simp
        omega
      go_wp2
      go_ret
      exact rights_mk HF.out HB.out
end Go.Proofs.YtjocfkkcnkpjdaaDoor
