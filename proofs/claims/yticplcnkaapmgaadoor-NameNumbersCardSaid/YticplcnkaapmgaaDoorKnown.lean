/- The contract of 'known': chapter 3's runs. -/
import Derived.Test.YticplcnkaapmgaaDoorRefLess
import Derived.Test.YticplcnkaapmgaaDoorRefParse
namespace Go.Proofs.YticplcnkaapmgaaDoor
open Go.RowKit
open Go.RuneMath
set_option linter.unusedVariables false

abbrev tLog : ByteArray := ⟨#[108, 111, 103]⟩
abbrev tAdB : ByteArray := ⟨#[97, 46, 98]⟩
abbrev tSev : ByteArray := ⟨#[48, 48, 48, 48, 48, 48, 48, 48, 48, 48, 48, 48, 48, 48, 48, 48, 48, 48, 48, 55, 46, 108, 111, 103]⟩
abbrev tShort : ByteArray := ⟨#[55, 46, 108, 111, 103]⟩
abbrev tBig : ByteArray := ⟨#[65]⟩
abbrev tNew : ByteArray := ⟨#[115, 116, 97, 114, 116, 46, 110, 101, 119]⟩
abbrev tMix : ByteArray := ⟨#[97, 255, 228, 184, 150]⟩
abbrev tUp : ByteArray := ⟨#[97, 122, 195, 169, 255]⟩
abbrev tUpped : ByteArray := ⟨#[65, 90, 195, 169, 239, 191, 189]⟩
abbrev tA : ByteArray := ⟨#[97]⟩
abbrev tB : ByteArray := ⟨#[98]⟩
abbrev tZ : ByteArray := ⟨#[122]⟩
abbrev tShi : ByteArray := ⟨#[228, 184, 150]⟩
theorem e1 : fileV 7 tLog = tSev ∧ fileO 7 tLog = true := by
  have h : (fileS 7 [108, 111, 103] = [48, 48, 48, 48, 48, 48, 48, 48, 48, 48, 48, 48, 48, 48, 48, 48, 48, 48, 48, 55, 46, 108, 111, 103]) ∧ okFile 7 [108, 111, 103] = true := by decide +kernel
  exact ⟨congrArg bs h.1, h.2⟩
theorem e2 : fileV 7 tAdB = ⟨#[]⟩ ∧ fileO 7 tAdB = false := by
  have h : fileS 7 [97, 46, 98] = [] ∧ okFile 7 [97, 46, 98] = false := by decide +kernel
  exact ⟨congrArg bs h.1, h.2⟩
theorem e3 : parseN tSev.data.toList = 7 ∧ bs (parseS tSev.data.toList) = tLog ∧ parseK tSev.data.toList = true := by
  have h : parseN [48, 48, 48, 48, 48, 48, 48, 48, 48, 48, 48, 48, 48, 48, 48, 48, 48, 48, 48, 55, 46, 108, 111, 103] = 7 ∧ parseS [48, 48, 48, 48, 48, 48, 48, 48, 48, 48, 48, 48, 48, 48, 48, 48, 48, 48, 48, 55, 46, 108, 111, 103] = [108, 111, 103] ∧ parseK [48, 48, 48, 48, 48, 48, 48, 48, 48, 48, 48, 48, 48, 48, 48, 48, 48, 48, 48, 55, 46, 108, 111, 103] = true := by decide +kernel
  exact ⟨h.1, congrArg bs h.2.1, h.2.2⟩
theorem e4 : parseN tShort.data.toList = 0 ∧ bs (parseS tShort.data.toList) = ⟨#[]⟩ ∧ parseK tShort.data.toList = false := by
  have h : parseN [55, 46, 108, 111, 103] = 0 ∧ parseS [55, 46, 108, 111, 103] = [] ∧ parseK [55, 46, 108, 111, 103] = false := by decide +kernel
  exact ⟨h.1, congrArg bs h.2.1, h.2.2⟩
theorem e5 : rightB tBig.data.toList = false := by decide +kernel
theorem e6 : rightB tNew.data.toList = true := by decide +kernel
theorem e7 : countB tMix.data.toList = 3 := by decide +kernel
theorem e8 : bs (upperB tUp.data.toList) = tUpped := by
  have h : upperB [97, 122, 195, 169, 255] = [65, 90, 195, 169, 239, 191, 189] := by decide +kernel
  exact congrArg bs h
theorem e9 : lessB tA.data.toList tB.data.toList = true := by decide +kernel
theorem e10 : lessB tA.data.toList tA.data.toList = false := by decide +kernel
theorem e11 : lessB tZ.data.toList tShi.data.toList = true := by decide +kernel
theorem c1 (w : World) : Calls Tryd.prog 11 #[.int .i64 7, .string tLog] w fun e w' => e = .returned (.tuple #[.string tSev, .bool true]) ∧ Below w.heap.size w w' := by
  have h := file_any w 7 tLog (by decide)
  unfold Files at h
  rw [e1.1, e1.2] at h
  exact h
theorem c2 (w : World) : Calls Tryd.prog 11 #[.int .i64 7, .string tAdB] w fun e w' => e = .returned (.tuple #[.string ⟨#[]⟩, .bool false]) ∧ Below w.heap.size w w' := by
  have h := file_any w 7 tAdB (by decide)
  unfold Files at h
  rw [e2.1, e2.2] at h
  exact h
theorem c3 (w : World) : Calls Tryd.prog 12 #[.string tSev] w fun e w' => e = .returned (.tuple #[.int .i64 7, .string tLog, .bool true]) ∧ Below w.heap.size w w' := by
  have h := parse_any w tSev (by decide)
  unfold Parses at h
  rw [e3.1, e3.2.1, e3.2.2] at h
  exact h
theorem c4 (w : World) : Calls Tryd.prog 12 #[.string tShort] w fun e w' => e = .returned (.tuple #[.int .i64 0, .string ⟨#[]⟩, .bool false]) ∧ Below w.heap.size w w' := by
  have h := parse_any w tShort (by decide)
  unfold Parses at h
  rw [e4.1, e4.2.1, e4.2.2] at h
  exact h
theorem c5 (w : World) : Calls Tryd.prog 13 #[.string tBig] w fun e w' => e = .returned (.bool false) ∧ Below w.heap.size w w' := by
  have h := right_any w tBig
  unfold Rights at h
  rw [e5] at h
  exact h
theorem c6 (w : World) : Calls Tryd.prog 13 #[.string tNew] w fun e w' => e = .returned (.bool true) ∧ Below w.heap.size w w' := by
  have h := right_any w tNew
  unfold Rights at h
  rw [e6] at h
  exact h
theorem c7 (w : World) : Calls Tryd.prog 15 #[.string tMix] w fun e w' => e = .returned (.int .i64 3) ∧ Below w.heap.size w w' := by
  have h := count_any w tMix (by decide)
  unfold Counts at h
  rw [e7] at h
  exact h
theorem c8 (w : World) : Calls Tryd.prog 16 #[.string tUp] w fun e w' => e = .returned (.string tUpped) ∧ Below w.heap.size w w' := by
  have h := upper_any w tUp (by decide)
  unfold Uppers at h
  rw [e8] at h
  exact h
theorem c9 (w : World) (hT : Tabs w) : Calls Tryd.prog 14 #[.string tA, .string tB] w fun e w' => e = .returned (.bool true) ∧ Below w.heap.size w w' := by
  have h := less_any w tA tB hT
  unfold Lesses at h
  rw [e9] at h
  exact h
theorem c10 (w : World) (hT : Tabs w) : Calls Tryd.prog 14 #[.string tA, .string tA] w fun e w' => e = .returned (.bool false) ∧ Below w.heap.size w w' := by
  have h := less_any w tA tA hT
  unfold Lesses at h
  rw [e10] at h
  exact h
theorem c11 (w : World) (hT : Tabs w) : Calls Tryd.prog 14 #[.string tZ, .string tShi] w fun e w' => e = .returned (.bool true) ∧ Below w.heap.size w w' := by
  have h := less_any w tZ tShi hT
  unfold Lesses at h
  rw [e11] at h
  exact h
set_option maxHeartbeats 400000 in
set_option maxRecDepth 100000 in
theorem known_any (w : World) (hT : Tabs w) : Calls Tryd.prog 10 #[] w fun e w' => e = .returned (.bool true) ∧ Below w.heap.size w w' := by
  have HT := Lib.hid hT
  clear hT
  go_enter Tryd.func10, Tryd.ntmps10
  go_wp2_with fail
  refine (c1 _).mono ?_
  rintro e w1 ⟨rfl, hb⟩
  have HB1 := Lib.hid hb
  clear hb
  go_wp2_with fail
  refine (c2 _).mono ?_
  rintro e w2 ⟨rfl, hb⟩
  have HB2 := Lib.hid (step HB1.out hb)
  clear hb
  go_wp2_with fail
  refine (c3 _).mono ?_
  rintro e w3 ⟨rfl, hb⟩
  have HB3 := Lib.hid (step HB2.out hb)
  clear hb
  go_wp2_with fail
  refine (c4 _).mono ?_
  rintro e w4 ⟨rfl, hb⟩
  have HB4 := Lib.hid (step HB3.out hb)
  clear hb
  go_wp2_with fail
  refine (c5 _).mono ?_
  rintro e w5 ⟨rfl, hb⟩
  have HB5 := Lib.hid (step HB4.out hb)
  clear hb
  go_wp2_with fail
  refine (c6 _).mono ?_
  rintro e w6 ⟨rfl, hb⟩
  have HB6 := Lib.hid (step HB5.out hb)
  clear hb
  go_wp2_with fail
  refine (c7 _).mono ?_
  rintro e w7 ⟨rfl, hb⟩
  have HB7 := Lib.hid (step HB6.out hb)
  clear hb
  go_wp2_with fail
  refine (c8 _).mono ?_
  rintro e w8 ⟨rfl, hb⟩
  have HB8 := Lib.hid (step HB7.out hb)
  clear hb
  go_wp2_with fail
  refine (c9 _ (HT.out.keep HB8.out)).mono ?_
  rintro e w9 ⟨rfl, hb⟩
  have HB9 := Lib.hid (step HB8.out hb)
  clear hb
  go_wp2_with fail
  refine (c10 _ (HT.out.keep HB9.out)).mono ?_
  rintro e w10 ⟨rfl, hb⟩
  have HB10 := Lib.hid (step HB9.out hb)
  clear hb
  go_wp2_with fail
  refine (c11 _ (HT.out.keep HB10.out)).mono ?_
  rintro e w11 ⟨rfl, hb⟩
  have HB11 := Lib.hid (step HB10.out hb)
  clear hb
  go_wp2
  go_ret
  exact ⟨rfl, HB11.out⟩
end Go.Proofs.YticplcnkaapmgaaDoor
