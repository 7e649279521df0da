/- The walk of 'OptionRunes'. -/
import Derived.Test.YtifogkacjfpipaaKnown
import Derived.Deep.Cut
namespace Go.Proofs.Ytifogkacjfpipaa
open Go.RowKit
open Go.RuneMath
set_option linter.unusedVariables false

theorem list_append (A B : ByteArray) : (A ++ B).data.toList = A.data.toList ++ B.data.toList := by
  conv => lhs; rw [← bs_self A, ← bs_self B, bs_append, bs_list]
theorem count_blank (a b : List UInt8) : countB (a ++ [32] ++ b) = countB a + 1 + countB b := by
  unfold countB
  rw [List.append_assoc, List.cons_append, List.nil_append, runes_app a (start_ascii 32 b (by decide)), runes_ascii 32 b (by decide), List.length_append, List.length_cons]
  omega
theorem cut_size (s : ByteArray) (k : Nat) : (s.extract 0 k).size ≤ k := by
  rw [ByteArray.size_extract]
  omega
theorem count_le (A : ByteArray) : countB A.data.toList ≤ A.size := by
  have := runes_len A.data.toList
  rw [← Lib.size_eq] at this
  unfold countB
  omega
theorem kr1 (W : World) (A : ByteArray) (hA : A.size ≤ 1000) (n : Nat) (hn : countB A.data.toList = n) : Calls Try.prog 11 #[.iface 9 (.string A)] W fun e w' => e = .returned (.tuple #[.int .i64 (n : Int), .bool true]) ∧ Below W.heap.size W w' := by
  have h := int_of (fun W => number_str W A (by omega)) W
  unfold Nums at h
  rw [hn] at h
  exact h
theorem kr2 (W : World) (A : ByteArray) : Calls Try.prog 12 #[.iface 9 (.string A)] W fun e w' => e = .returned (.tuple #[.bool false, .bool false]) ∧ Below W.heap.size W w' :=
  flag_of (fun W => truth_none W (by decide) (by decide) _) W
set_option maxHeartbeats 8000000 in
set_option maxRecDepth 100000 in
theorem runes_any (w : World) (a b : ByteArray) : Calls Try.prog 6 #[.string a, .string b] w fun e w' => e = .returned (.bool true) ∧ Below w.heap.size w w' := by
  go_enter Try.func6, Try.ntmps6
  go_upto_if 16 with (fail)
  go_cut [0] from 14 (fun s0 wx => ∃ A : ByteArray, s0 = .string A ∧ A.size ≤ 50 ∧ w = wx)
  case first =>
    go_wp2
    all_goals
      go_meet
      first
        | exact ⟨_, rfl, cut_size _ _, rfl⟩
        | exact ⟨_, rfl, by omega, rfl⟩
  case rest =>
    obtain ⟨A, rfl, hA, rfl⟩ := hcut
    go_upto_if 21 with (fail)
    go_cut [1] from 14 (fun s0 wx => ∃ B : ByteArray, s0 = .string B ∧ B.size ≤ 50 ∧ w = wx)
    case first =>
      go_wp2
      all_goals
        go_meet
        first
          | exact ⟨_, rfl, cut_size _ _, rfl⟩
          | exact ⟨_, rfl, by omega, rfl⟩
    case rest =>
      obtain ⟨B, rfl, hB, rfl⟩ := hcut
      obtain ⟨m, hm⟩ : ∃ m, countB A.data.toList = m := ⟨_, rfl⟩
      obtain ⟨n, hn⟩ : ∃ n, countB B.data.toList = n := ⟨_, rfl⟩
      have hm50 : m ≤ 50 := by
        have := count_le A
        omega
      have hn50 : n ≤ 50 := by
        have := count_le B
        omega
      have h1 : (⟨#[32]⟩ : ByteArray).size = 1 := rfl
      have hz : A.size + (⟨#[32]⟩ : ByteArray).size ≤ 9223372036854775807 := by omega
      have hab : (A ++ (⟨#[32]⟩ : ByteArray)).size + B.size ≤ 9223372036854775807 := by
        rw [ByteArray.size_append]
        omega
      have C1 := Lib.hid (fun W => kr1 W A (by omega) m hm)
      have C2 := Lib.hid (fun W => kr1 W B (by omega) n hn)
      have C3 := Lib.hid (fun W => kr1 W (A ++ ⟨#[32]⟩ ++ B) (by rw [ByteArray.size_append, ByteArray.size_append]; omega) (m + 1 + n) (by rw [list_append, list_append, ← hm, ← hn]; exact count_blank _ _))
      have C4 := Lib.hid (fun W => kr2 W A)
      have HM := Lib.hid hm
      have HA := Lib.hid hA
      clear hm hn hA hB h1
      go_wp2_with fail
      refine (C1.out _).mono ?_
      rintro e w1 ⟨rfl, hb⟩
      have HB1 := Lib.hid hb
      clear hb
      go_wp2_with fail
      refine (C2.out _).mono ?_
      rintro e w2 ⟨rfl, hb⟩
      have HB2 := Lib.hid (step HB1.out hb)
      clear hb
      go_wp2_with fail
      refine (C3.out _).mono ?_
      rintro e w3 ⟨rfl, hb⟩
      have HB3 := Lib.hid (step HB2.out hb)
      clear hb
      go_wp2
      go_loopw [11] (fun v wr => ∃ pos k : Nat, ItAt wr w3.heap.size A pos ∧ Below w3.heap.size w3 wr ∧ v = .int .i64 k ∧ k ≤ 50 ∧ k + (rs A pos).length = m) (fun _ wr => A.size - wr.iterPos w3.heap.size)
      case atStart => exact ⟨0, 0, it_start w3 A, (Below.refl _ w3).alloc (Nat.le_refl _) _, rfl, by omega, by rw [rs_zero]; have := HM.out; unfold countB at this; omega⟩
      case round =>
        obtain ⟨pos, k, hit, hbw, rfl, hk50, hcnt⟩ := hrel
        have HI := Lib.hid hit
        have HB := Lib.hid hbw
        have HC := Lib.hid hcnt
        clear hit hbw hcnt
        by_cases hp : pos < A.size
        · have hnx : ∀ ty, (Instr.next (.pointer (some ⟨w3.heap.size, 0, none⟩)) true ty).run Try.prog wr = _ := fun ty => Lib.run_next_any_at wr w3.heap.size A pos ty HI.out hp
          have hk1 : k + 1 ≤ 50 := by
            have hc := HC.out
            rw [rs_step hp, List.length_cons] at hc
            omega
          go_wp2
          go_roundw
          case rel =>
            have hc := HC.out
            rw [rs_step hp, List.length_cons] at hc
            exact ⟨pos + (Utf8.decode A pos).2, k + 1, it_next HI.out _, Lib.below_iterAt HB.out (Nat.le_refl _) A _, by go_num, hk1, by omega⟩
          case measure =>
            have hw := Lib.width_pos A pos
            rw [it_pos (it_next HI.out _), it_pos HI.out]
            omega
        · have hnx : ∀ ty, (Instr.next (.pointer (some ⟨w3.heap.size, 0, none⟩)) true ty).run Try.prog wr = _ := fun ty => Lib.run_next_end_at wr w3.heap.size A pos ty HI.out hp
          have hkm : k = m := by
            have := HC.out
            rw [rs_end hp] at this
            simpa using this
          subst hkm
          have HB4 := Lib.hid (step HB3.out HB.out)
          go_wp2_with fail
          refine (C4.out _).mono ?_
          rintro e w4 ⟨rfl, hb⟩
          have HB5 := Lib.hid (step HB4.out hb)
          clear hb
          go_wp2_with fail
          refine (known_any _).mono ?_
          rintro e w5 ⟨rfl, hb⟩
          have HB6 := Lib.hid (step HB5.out hb)
          clear hb
          go_wp2
          go_ret
          exact ⟨rfl, HB6.out⟩
end Go.Proofs.Ytifogkacjfpipaa
