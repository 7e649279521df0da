/- The contract of 'same': the code and the document's own answer agree. -/
import Derived.Test.YticplcnkaapmgaaDoorKnown
namespace Go.Proofs.YticplcnkaapmgaaDoor
open Go.RowKit
open Go.RuneMath
set_option linter.unusedVariables false

set_option maxHeartbeats 400000 in
set_option maxRecDepth 100000 in
theorem same_any (w : World) (a b : ByteArray) (n : Int) (hT : Tabs w) (ha : a.size ≤ 1073741824) (hb : b.size ≤ 1073741824) : Calls Tryd.prog 8 #[.string a, .string b, .int .i64 n] w fun e w' => e = .returned (.bool true) ∧ Below w.heap.size w w' := by
  have HT := Lib.hid hT
  clear hT
  have X11 := fun W => file_any W n a ha
  unfold Files at X11
  have X9 := fun W => ref_file_any W n a ha
  unfold Files at X9
  have X12 := fun W => parse_any W b hb
  unfold Parses at X12
  have X17 := fun W => ref_parse_any W b hb
  unfold Parses at X17
  have X13 := fun W => right_any W a
  unfold Rights at X13
  have X18 := fun W => ref_right_any W a (by omega)
  unfold Rights at X18
  have X15 := fun W => count_any W a (by omega)
  unfold Counts at X15
  have X19 := fun W => ref_count_any W a (by omega)
  unfold Counts at X19
  have X16 := fun W => upper_any W a ha
  unfold Uppers at X16
  have X20 := fun W => ref_upper_any W a ha
  unfold Uppers at X20
  have X14 := fun W hW => less_any W a b hW
  unfold Lesses at X14
  have X21 := fun W => ref_less_any W a b ha hb
  unfold Lesses at X21
  obtain ⟨S, hS⟩ : ∃ x, x = fileV n a := ⟨_, rfl⟩
  rw [← hS] at X11 X9
  clear hS
  obtain ⟨O, hO⟩ : ∃ x, x = fileO n a := ⟨_, rfl⟩
  rw [← hO] at X11 X9
  clear hO
  obtain ⟨N, hN⟩ : ∃ x, x = parseN b.data.toList := ⟨_, rfl⟩
  rw [← hN] at X12 X17
  clear hN
  obtain ⟨K, hK⟩ : ∃ x, x = bs (parseS b.data.toList) := ⟨_, rfl⟩
  rw [← hK] at X12 X17
  clear hK
  obtain ⟨P, hP⟩ : ∃ x, x = parseK b.data.toList := ⟨_, rfl⟩
  rw [← hP] at X12 X17
  clear hP
  obtain ⟨R, hR⟩ : ∃ x, x = rightB a.data.toList := ⟨_, rfl⟩
  rw [← hR] at X13 X18
  clear hR
  obtain ⟨C, hC⟩ : ∃ x, x = countB a.data.toList := ⟨_, rfl⟩
  rw [← hC] at X15 X19
  clear hC
  obtain ⟨U, hU⟩ : ∃ x, x = bs (upperB a.data.toList) := ⟨_, rfl⟩
  rw [← hU] at X16 X20
  clear hU
  obtain ⟨L, hL⟩ : ∃ x, x = lessB a.data.toList b.data.toList := ⟨_, rfl⟩
  rw [← hL] at X14 X21
  clear hL
  have C11 := Lib.hid X11
  have C9 := Lib.hid X9
  have C12 := Lib.hid X12
  have C17 := Lib.hid X17
  have C13 := Lib.hid X13
  have C18 := Lib.hid X18
  have C15 := Lib.hid X15
  have C19 := Lib.hid X19
  have C16 := Lib.hid X16
  have C20 := Lib.hid X20
  have C14 := Lib.hid X14
  have C21 := Lib.hid X21
  clear X11 X9 X12 X17 X13 X18 X15 X19 X16 X20 X14 X21 ha hb
  go_enter Tryd.func8, Tryd.ntmps8
  go_wp2_with fail
  refine (C11.out _).mono ?_
  rintro e w1 ⟨rfl, hb⟩
  have HB1 := Lib.hid hb
  clear hb
  go_wp2_with fail
  refine (C9.out _).mono ?_
  rintro e w2 ⟨rfl, hb⟩
  have HB2 := Lib.hid (step HB1.out hb)
  clear hb
  go_wp2_with fail
  refine (C12.out _).mono ?_
  rintro e w3 ⟨rfl, hb⟩
  have HB3 := Lib.hid (step HB2.out hb)
  clear hb
  go_wp2_with fail
  refine (C17.out _).mono ?_
  rintro e w4 ⟨rfl, hb⟩
  have HB4 := Lib.hid (step HB3.out hb)
  clear hb
  go_wp2_with fail
  refine (C13.out _).mono ?_
  rintro e w5 ⟨rfl, hb⟩
  have HB5 := Lib.hid (step HB4.out hb)
  clear hb
  go_wp2_with fail
  refine (C18.out _).mono ?_
  rintro e w6 ⟨rfl, hb⟩
  have HB6 := Lib.hid (step HB5.out hb)
  clear hb
  go_wp2_with fail
  refine (C15.out _).mono ?_
  rintro e w7 ⟨rfl, hb⟩
  have HB7 := Lib.hid (step HB6.out hb)
  clear hb
  go_wp2_with fail
  refine (C19.out _).mono ?_
  rintro e w8 ⟨rfl, hb⟩
  have HB8 := Lib.hid (step HB7.out hb)
  clear hb
  go_wp2_with fail
  refine (C16.out _).mono ?_
  rintro e w9 ⟨rfl, hb⟩
  have HB9 := Lib.hid (step HB8.out hb)
  clear hb
  go_wp2_with fail
  refine (C20.out _).mono ?_
  rintro e w10 ⟨rfl, hb⟩
  have HB10 := Lib.hid (step HB9.out hb)
  clear hb
  go_wp2_with fail
  refine (C14.out _ (HT.out.keep HB10.out)).mono ?_
  rintro e w11 ⟨rfl, hb⟩
  have HB11 := Lib.hid (step HB10.out hb)
  clear hb
  go_wp2_with fail
  refine (C21.out _).mono ?_
  rintro e w12 ⟨rfl, hb⟩
  have HB12 := Lib.hid (step HB11.out hb)
  clear hb
  go_wp2
  go_ret
  exact ⟨rfl, HB12.out⟩
end Go.Proofs.YticplcnkaapmgaaDoor
