/- The walk of 'NameTells'. It asks that the library's two tables of runes hold what they begin with. -/
import Derived.Test.YticplcnkaapmgaaDoorSame
import Derived.IntWalk
namespace Go.Proofs.YticplcnkaapmgaaDoor
open Go.RowKit
open Go.RuneMath
set_option linter.unusedVariables false

theorem and3 (a : Int) : ∃ x : Nat, bits .and .i64 a 3 = (x : Int) ∧ x < 4 := by
  have h1 : (BitVec.ofInt 64 3).toNat = 2 ^ 2 - 1 := by decide
  have key : (BitVec.ofInt 64 a &&& BitVec.ofInt 64 3).toNat = (a % ((2 ^ 64 : Nat) : Int)).toNat % 2 ^ 2 := by
    rw [BitVec.toNat_and, BitVec.toNat_ofInt, h1, Nat.and_two_pow_sub_one_eq_mod]
  refine ⟨(a % ((2 ^ 64 : Nat) : Int)).toNat % 2 ^ 2, ?_, by omega⟩
  show IntKind.i64.wrap ((BitVec.ofInt 64 a &&& BitVec.ofInt 64 3).toNat : Nat) = _
  rw [key, IntKind.wrap_i64]
  omega
abbrev tIndex : ByteArray := ⟨#[105, 110, 100, 101, 120]⟩
abbrev tSnap : ByteArray := ⟨#[115, 110, 97, 112, 115, 104, 111, 116]⟩
abbrev tAborts : ByteArray := ⟨#[97, 98, 111, 114, 116, 115]⟩
theorem four (w : World) (j : Nat) (hj : j < 4) : ∃ K : ByteArray, (w.alloc (.cells #[.string tLog, .string tIndex, .string tSnap, .string tAborts] 9)).cell? ⟨w.heap.size, j, none⟩ = some (.string K) ∧ K.size ≤ 8 := by
  have hg : (w.alloc (.cells #[.string tLog, .string tIndex, .string tSnap, .string tAborts] 9)).heap[w.heap.size]? = some (.cells #[.string tLog, .string tIndex, .string tSnap, .string tAborts] 9 (0, 0)) := heap_alloc_new w _
  rw [cell_of_row _ _ _ _ _ _ hg]
  match j, hj with
  | 0, _ => exact ⟨tLog, rfl, by decide⟩
  | 1, _ => exact ⟨tIndex, rfl, by decide⟩
  | 2, _ => exact ⟨tSnap, rfl, by decide⟩
  | 3, _ => exact ⟨tAborts, rfl, by decide⟩
theorem fileV_size (n : Int) (k : ByteArray) : (fileV n k).size ≤ 21 + k.size := by
  unfold fileV
  rw [bs_size]
  unfold fileS
  split
  · rw [file_len, ← Lib.size_eq]
    exact Nat.le_refl _
  · simp
theorem cut_size (a : ByteArray) (k : Nat) : (a.extract 0 k).size ≤ k := by
  rw [bs_take, bs_size, List.length_take]
  omega
set_option maxHeartbeats 1000000 in
set_option maxRecDepth 100000 in
theorem tells_any (w : World) (a b : ByteArray) (n k : Int) (hT : Tabs w) : Calls Tryd.prog 4 #[.string a, .string b, .int .i64 n, .int .i64 k] w fun e w' => e = .returned (.bool true) ∧ Below w.heap.size w w' := by
  have HT := Lib.hid hT
  clear hT
  obtain ⟨j, hj, hj4⟩ := and3 k
  obtain ⟨K, hK, hK8⟩ := four w j hj4
  obtain ⟨m, hm⟩ : ∃ m, bits .and .i64 n 1099511627775 = m := ⟨_, rfl⟩
  obtain ⟨u, hu⟩ : ∃ u, bits .and .i64 n 65535 = u := ⟨_, rfl⟩
  obtain ⟨S, hS⟩ : ∃ S, S = fileV m K := ⟨_, rfl⟩
  obtain ⟨O, hO⟩ : ∃ O, O = fileO m K := ⟨_, rfl⟩
  have hSz : S.size ≤ 29 := by rw [hS]; have := fileV_size m K; omega
  have CF0 := fun W => ref_file_any W m K (by omega)
  unfold Files at CF0
  rw [← hS, ← hO] at CF0
  have CF := Lib.hid CF0
  have hb0 : Below w.heap.size w (w.alloc (.cells #[.string tLog, .string tIndex, .string tSnap, .string tAborts] 9)) := (Below.refl _ w).alloc (Nat.le_refl _) _
  have HB0 := Lib.hid hb0
  clear CF0 hS hO hb0
  by_cases ha : 90 < a.size
  · by_cases hb : 90 < b.size
    · skip
      obtain ⟨A, hA⟩ : ∃ A, a.extract 0 90 = A := ⟨_, rfl⟩
      have hAz : A.size ≤ 90 := by rw [← hA]; exact cut_size a 90
      obtain ⟨B, hB⟩ : ∃ B, b.extract 0 90 = B := ⟨_, rfl⟩
      have hBz : B.size ≤ 90 := by rw [← hB]; exact cut_size b 90
      have hp1 : (S ++ A).size ≤ 1073741824 := by rw [ByteArray.size_append]; omega
      have hp2 : (A ++ B).size ≤ 1073741824 := by rw [ByteArray.size_append]; omega
      have C1 := Lib.hid (fun W hW => same_any W A B n hW (by omega) (by omega))
      have C2 := Lib.hid (fun W hW => same_any W A S u hW (by omega) (by omega))
      have C3 := Lib.hid (fun W hW => same_any W tLog (S ++ A) n hW (by decide) hp1)
      have C4 := Lib.hid (fun W hW => same_any W (A ++ B) A n hW hp2 (by omega))
      clear hp1 hp2
      go_enter Tryd.func4, Tryd.ntmps4
      go_wp2_with fail
      refine (CF.out _).mono ?_
      rintro e w1 ⟨rfl, hb⟩
      have HB1 := Lib.hid (step HB0.out hb)
      clear hb
      go_wp2_with fail
      refine (C1.out _ (HT.out.keep HB1.out)).mono ?_
      rintro e w2 ⟨rfl, hb⟩
      have HB2 := Lib.hid (step HB1.out hb)
      clear hb
      go_wp2_with fail
      refine (C2.out _ (HT.out.keep HB2.out)).mono ?_
      rintro e w3 ⟨rfl, hb⟩
      have HB3 := Lib.hid (step HB2.out hb)
      clear hb
      go_wp2_with fail
      refine (C3.out _ (HT.out.keep HB3.out)).mono ?_
      rintro e w4 ⟨rfl, hb⟩
      have HB4 := Lib.hid (step HB3.out hb)
      clear hb
      go_wp2_with fail
      refine (C4.out _ (HT.out.keep HB4.out)).mono ?_
      rintro e w5 ⟨rfl, hb⟩
      have HB5 := Lib.hid (step HB4.out hb)
      clear hb
      go_wp2_with fail
      refine (known_any _ (HT.out.keep HB5.out)).mono ?_
      rintro e w6 ⟨rfl, hb⟩
      have HB6 := Lib.hid (step HB5.out hb)
      clear hb
      go_wp2
      go_ret
      exact ⟨rfl, HB6.out⟩
    · skip
      obtain ⟨A, hA⟩ : ∃ A, a.extract 0 90 = A := ⟨_, rfl⟩
      have hAz : A.size ≤ 90 := by rw [← hA]; exact cut_size a 90
      have hBz : b.size ≤ 90 := by omega
      have hp1 : (S ++ A).size ≤ 1073741824 := by rw [ByteArray.size_append]; omega
      have hp2 : (A ++ b).size ≤ 1073741824 := by rw [ByteArray.size_append]; omega
      have C1 := Lib.hid (fun W hW => same_any W A b n hW (by omega) (by omega))
      have C2 := Lib.hid (fun W hW => same_any W A S u hW (by omega) (by omega))
      have C3 := Lib.hid (fun W hW => same_any W tLog (S ++ A) n hW (by decide) hp1)
      have C4 := Lib.hid (fun W hW => same_any W (A ++ b) A n hW hp2 (by omega))
      clear hp1 hp2
      go_enter Tryd.func4, Tryd.ntmps4
      go_wp2_with fail
      refine (CF.out _).mono ?_
      rintro e w1 ⟨rfl, hb⟩
      have HB1 := Lib.hid (step HB0.out hb)
      clear hb
      go_wp2_with fail
      refine (C1.out _ (HT.out.keep HB1.out)).mono ?_
      rintro e w2 ⟨rfl, hb⟩
      have HB2 := Lib.hid (step HB1.out hb)
      clear hb
      go_wp2_with fail
      refine (C2.out _ (HT.out.keep HB2.out)).mono ?_
      rintro e w3 ⟨rfl, hb⟩
      have HB3 := Lib.hid (step HB2.out hb)
      clear hb
      go_wp2_with fail
      refine (C3.out _ (HT.out.keep HB3.out)).mono ?_
      rintro e w4 ⟨rfl, hb⟩
      have HB4 := Lib.hid (step HB3.out hb)
      clear hb
      go_wp2_with fail
      refine (C4.out _ (HT.out.keep HB4.out)).mono ?_
      rintro e w5 ⟨rfl, hb⟩
      have HB5 := Lib.hid (step HB4.out hb)
      clear hb
      go_wp2_with fail
      refine (known_any _ (HT.out.keep HB5.out)).mono ?_
      rintro e w6 ⟨rfl, hb⟩
      have HB6 := Lib.hid (step HB5.out hb)
      clear hb
      go_wp2
      go_ret
      exact ⟨rfl, HB6.out⟩
  · by_cases hb : 90 < b.size
    · skip
      have hAz : a.size ≤ 90 := by omega
      obtain ⟨B, hB⟩ : ∃ B, b.extract 0 90 = B := ⟨_, rfl⟩
      have hBz : B.size ≤ 90 := by rw [← hB]; exact cut_size b 90
      have hp1 : (S ++ a).size ≤ 1073741824 := by rw [ByteArray.size_append]; omega
      have hp2 : (a ++ B).size ≤ 1073741824 := by rw [ByteArray.size_append]; omega
      have C1 := Lib.hid (fun W hW => same_any W a B n hW (by omega) (by omega))
      have C2 := Lib.hid (fun W hW => same_any W a S u hW (by omega) (by omega))
      have C3 := Lib.hid (fun W hW => same_any W tLog (S ++ a) n hW (by decide) hp1)
      have C4 := Lib.hid (fun W hW => same_any W (a ++ B) a n hW hp2 (by omega))
      clear hp1 hp2
      go_enter Tryd.func4, Tryd.ntmps4
      go_wp2_with fail
      refine (CF.out _).mono ?_
      rintro e w1 ⟨rfl, hb⟩
      have HB1 := Lib.hid (step HB0.out hb)
      clear hb
      go_wp2_with fail
      refine (C1.out _ (HT.out.keep HB1.out)).mono ?_
      rintro e w2 ⟨rfl, hb⟩
      have HB2 := Lib.hid (step HB1.out hb)
      clear hb
      go_wp2_with fail
      refine (C2.out _ (HT.out.keep HB2.out)).mono ?_
      rintro e w3 ⟨rfl, hb⟩
      have HB3 := Lib.hid (step HB2.out hb)
      clear hb
      go_wp2_with fail
      refine (C3.out _ (HT.out.keep HB3.out)).mono ?_
      rintro e w4 ⟨rfl, hb⟩
      have HB4 := Lib.hid (step HB3.out hb)
      clear hb
      go_wp2_with fail
      refine (C4.out _ (HT.out.keep HB4.out)).mono ?_
      rintro e w5 ⟨rfl, hb⟩
      have HB5 := Lib.hid (step HB4.out hb)
      clear hb
      go_wp2_with fail
      refine (known_any _ (HT.out.keep HB5.out)).mono ?_
      rintro e w6 ⟨rfl, hb⟩
      have HB6 := Lib.hid (step HB5.out hb)
      clear hb
      go_wp2
      go_ret
      exact ⟨rfl, HB6.out⟩
    · skip
      have hAz : a.size ≤ 90 := by omega
      have hBz : b.size ≤ 90 := by omega
      have hp1 : (S ++ a).size ≤ 1073741824 := by rw [ByteArray.size_append]; omega
      have hp2 : (a ++ b).size ≤ 1073741824 := by rw [ByteArray.size_append]; omega
      have C1 := Lib.hid (fun W hW => same_any W a b n hW (by omega) (by omega))
      have C2 := Lib.hid (fun W hW => same_any W a S u hW (by omega) (by omega))
      have C3 := Lib.hid (fun W hW => same_any W tLog (S ++ a) n hW (by decide) hp1)
      have C4 := Lib.hid (fun W hW => same_any W (a ++ b) a n hW hp2 (by omega))
      clear hp1 hp2
      go_enter Tryd.func4, Tryd.ntmps4
      go_wp2_with fail
      refine (CF.out _).mono ?_
      rintro e w1 ⟨rfl, hb⟩
      have HB1 := Lib.hid (step HB0.out hb)
      clear hb
      go_wp2_with fail
      refine (C1.out _ (HT.out.keep HB1.out)).mono ?_
      rintro e w2 ⟨rfl, hb⟩
      have HB2 := Lib.hid (step HB1.out hb)
      clear hb
      go_wp2_with fail
      refine (C2.out _ (HT.out.keep HB2.out)).mono ?_
      rintro e w3 ⟨rfl, hb⟩
      have HB3 := Lib.hid (step HB2.out hb)
      clear hb
      go_wp2_with fail
      refine (C3.out _ (HT.out.keep HB3.out)).mono ?_
      rintro e w4 ⟨rfl, hb⟩
      have HB4 := Lib.hid (step HB3.out hb)
      clear hb
      go_wp2_with fail
      refine (C4.out _ (HT.out.keep HB4.out)).mono ?_
      rintro e w5 ⟨rfl, hb⟩
      have HB5 := Lib.hid (step HB4.out hb)
      clear hb
      go_wp2_with fail
      refine (known_any _ (HT.out.keep HB5.out)).mono ?_
      rintro e w6 ⟨rfl, hb⟩
      have HB6 := Lib.hid (step HB5.out hb)
      clear hb
      go_wp2
      go_ret
      exact ⟨rfl, HB6.out⟩
end Go.Proofs.YticplcnkaapmgaaDoor
