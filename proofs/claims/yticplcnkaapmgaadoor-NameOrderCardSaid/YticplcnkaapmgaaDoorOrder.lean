/- The walk of 'NameOrder'. It asks that the library's two tables of runes hold what they begin with. -/
import Derived.Test.YticplcnkaapmgaaDoorTells
import Derived.Deep.Cut
namespace Go.Proofs.YticplcnkaapmgaaDoor
open Go.RowKit
open Go.RuneMath
set_option linter.unusedVariables false

theorem list_append (A B : ByteArray) : (A ++ B).data.toList = A.data.toList ++ B.data.toList := by
  conv => lhs; rw [← bs_self A, ← bs_self B, bs_append, bs_list]
theorem less_x (l : List UInt8) : lessB l (l ++ [120]) = true := by
  unfold lessB
  rw [runes_app l (start_ascii 120 [] (by decide)), runes_ascii 120 [] (by decide)]
  exact less_more _ _
theorem count_blank (a b : List UInt8) : countB (a ++ [32] ++ b) = countB a + 1 + countB b := by
  unfold countB
  rw [List.append_assoc, List.cons_append, List.nil_append, runes_app a (start_ascii 32 b (by decide)), runes_ascii 32 b (by decide), List.length_append, List.length_cons]
  omega
theorem ko1 (W : World) (A B : ByteArray) (p : Bool) (hp : lessB A.data.toList B.data.toList = p) (hT : Tabs W) : Calls Tryd.prog 14 #[.string A, .string B] W fun e w' => e = .returned (.bool p) ∧ Below W.heap.size W w' := by
  have c := less_any W A B hT
  unfold Lesses at c
  rw [hp] at c
  exact c
theorem ko2 (W : World) (A : ByteArray) (hA : A.size ≤ 1073741824) (n : Nat) (hn : countB A.data.toList = n) : Calls Tryd.prog 15 #[.string A] W fun e w' => e = .returned (.int .i64 (n : Int)) ∧ Below W.heap.size W w' := by
  have c := count_any W A (by omega)
  unfold Counts at c
  rw [hn] at c
  exact c
theorem ko3 (W : World) (A : ByteArray) (hA : A.size ≤ 1073741824) (U : ByteArray) (hU : bs (upperB A.data.toList) = U) : Calls Tryd.prog 16 #[.string A] W fun e w' => e = .returned (.string U) ∧ Below W.heap.size W w' := by
  have c := upper_any W A hA
  unfold Uppers at c
  rw [hU] at c
  exact c
theorem upper_size (l : List UInt8) : (upperB l).length ≤ 4 * l.length := by
  unfold upperB
  have h1 := encs_len ((runes l).map upR)
  have h2 := runes_len l
  rw [List.length_map] at h1
  omega
set_option maxHeartbeats 8000000 in
set_option maxRecDepth 100000 in
theorem order_any (w : World) (a b c : ByteArray) (hT : Tabs w) : Calls Tryd.prog 6 #[.string a, .string b, .string c] w fun e w' => e = .returned (.bool true) ∧ Below w.heap.size w w' := by
  have HT := Lib.hid hT
  clear hT
  go_enter Tryd.func6, Tryd.ntmps6
  go_upto_if 9 with (fail)
  go_cut [0] from 7 (fun s0 wx => ∃ A : ByteArray, s0 = .string A ∧ A.size ≤ 20 ∧ w = wx)
  case first =>
    go_wp2
    all_goals
      go_meet
      first
        | exact ⟨_, rfl, cut_size _ _, rfl⟩
        | exact ⟨_, rfl, by omega, rfl⟩
  case rest =>
    obtain ⟨A, rfl, hA, rfl⟩ := hcut
    go_upto_if 14 with (fail)
    go_cut [1] from 7 (fun s0 wx => ∃ B : ByteArray, s0 = .string B ∧ B.size ≤ 20 ∧ w = wx)
    case first =>
      go_wp2
      all_goals
        go_meet
        first
          | exact ⟨_, rfl, cut_size _ _, rfl⟩
          | exact ⟨_, rfl, by omega, rfl⟩
    case rest =>
      obtain ⟨B, rfl, hB, rfl⟩ := hcut
      go_upto_if 19 with (fail)
      go_cut [2] from 7 (fun s0 wx => ∃ C : ByteArray, s0 = .string C ∧ C.size ≤ 20 ∧ w = wx)
      case first =>
        go_wp2
        all_goals
          go_meet
          first
            | exact ⟨_, rfl, cut_size _ _, rfl⟩
            | exact ⟨_, rfl, by omega, rfl⟩
      case rest =>
        obtain ⟨C, rfl, hC, rfl⟩ := hcut
        obtain ⟨P, hP⟩ : ∃ P, lessB A.data.toList B.data.toList = P := ⟨_, rfl⟩
        obtain ⟨Q, hQ⟩ : ∃ Q, lessB B.data.toList A.data.toList = Q := ⟨_, rfl⟩
        obtain ⟨R, hR⟩ : ∃ R, lessB B.data.toList C.data.toList = R := ⟨_, rfl⟩
        obtain ⟨S, hS⟩ : ∃ S, lessB A.data.toList C.data.toList = S := ⟨_, rfl⟩
        obtain ⟨m, hm⟩ : ∃ m, countB A.data.toList = m := ⟨_, rfl⟩
        obtain ⟨n, hn⟩ : ∃ n, countB B.data.toList = n := ⟨_, rfl⟩
        obtain ⟨U, hU⟩ : ∃ U, bs (upperB A.data.toList) = U := ⟨_, rfl⟩
        have hUz : U.size ≤ 80 := by
          rw [← hU, bs_size]
          have := upper_size A.data.toList
          rw [← Lib.size_eq] at this
          omega
        have hm20 : m ≤ 20 := by
          have := runes_len A.data.toList
          rw [← Lib.size_eq] at this
          unfold countB at hm
          omega
        have hn20 : n ≤ 20 := by
          have := runes_len B.data.toList
          rw [← Lib.size_eq] at this
          unfold countB at hn
          omega
        have HPQ : Hid (P = true → Q = false) := by
          intro h
          rw [← hQ]
          exact less_asym _ _ (by unfold lessB at hP; rw [hP]; exact h)
        have HPR : Hid (P = true → R = true → S = true) := by
          intro h1 h2
          rw [← hS]
          exact less_trans _ (runes B.data.toList) _ (by unfold lessB at hP; rw [hP]; exact h1) (by unfold lessB at hR; rw [hR]; exact h2)
        have C1 := Lib.hid (fun W h => ko1 W A B P hP h)
        have C2 := Lib.hid (fun W h => ko1 W B A Q hQ h)
        have C3 := Lib.hid (fun W h => ko1 W A A false (less_irr _) h)
        have C4 := Lib.hid (fun W h => ko1 W B C R hR h)
        have C5 := Lib.hid (fun W h => ko1 W A C S hS h)
        have C6 := Lib.hid (fun W h => ko1 W A (A ++ ⟨#[120]⟩) true (by rw [list_append]; exact less_x _) h)
        have C7 := Lib.hid (fun W => ko2 W A (by omega) m hm)
        have C8 := Lib.hid (fun W => ko2 W ⟨#[32]⟩ (by decide) 1 (by decide +kernel))
        have C9 := Lib.hid (fun W => ko2 W B (by omega) n hn)
        have hab : (A ++ (⟨#[32]⟩ : ByteArray)).size + B.size ≤ 100 := by
          rw [ByteArray.size_append]
          have : (⟨#[32]⟩ : ByteArray).size = 1 := rfl
          omega
        have C10 := Lib.hid (fun W => ko2 W (A ++ ⟨#[32]⟩ ++ B) (by rw [ByteArray.size_append]; omega) (m + 1 + n) (by rw [list_append, list_append, ← hm, ← hn]; exact count_blank _ _))
        have C11 := Lib.hid (fun W => ko3 W A (by omega) U hU)
        have C12 := Lib.hid (fun W => ko3 W U (by omega) U (by rw [← hU, bs_list, upper_upper]))
        have hz1 : A.size + (⟨#[120]⟩ : ByteArray).size ≤ 100 := by
          have : (⟨#[120]⟩ : ByteArray).size = 1 := rfl
          omega
        have hz2 : A.size + (⟨#[32]⟩ : ByteArray).size ≤ 100 := by
          have : (⟨#[32]⟩ : ByteArray).size = 1 := rfl
          omega
        clear hP hQ hR hS hm hn hU hz1 hz2 hab
        cases P
        · clear HPQ HPR
          go_wp2_with fail
          refine (C1.out _ HT.out).mono ?_
          rintro e w1 ⟨rfl, hb⟩
          have HB1 := Lib.hid hb
          clear hb
          go_wp2_with fail
          refine (C3.out _ (HT.out.keep HB1.out)).mono ?_
          rintro e w2 ⟨rfl, hb⟩
          have HB2 := Lib.hid (step HB1.out hb)
          clear hb
          go_wp2_with fail
          refine (C1.out _ (HT.out.keep HB2.out)).mono ?_
          rintro e w3 ⟨rfl, hb⟩
          have HB3 := Lib.hid (step HB2.out hb)
          clear hb
          go_wp2_with fail
          refine (C6.out _ (HT.out.keep HB3.out)).mono ?_
          rintro e w4 ⟨rfl, hb⟩
          have HB4 := Lib.hid (step HB3.out hb)
          clear hb
          go_wp2_with fail
          refine (C7.out _).mono ?_
          rintro e w5 ⟨rfl, hb⟩
          have HB5 := Lib.hid (step HB4.out hb)
          clear hb
          go_wp2_with fail
          refine (C8.out _).mono ?_
          rintro e w6 ⟨rfl, hb⟩
          have HB6 := Lib.hid (step HB5.out hb)
          clear hb
          go_wp2_with fail
          refine (C9.out _).mono ?_
          rintro e w7 ⟨rfl, hb⟩
          have HB7 := Lib.hid (step HB6.out hb)
          clear hb
          go_wp2_with fail
          refine (C10.out _).mono ?_
          rintro e w8 ⟨rfl, hb⟩
          have HB8 := Lib.hid (step HB7.out hb)
          clear hb
          go_wp2_with fail
          refine (C11.out _).mono ?_
          rintro e w9 ⟨rfl, hb⟩
          have HB9 := Lib.hid (step HB8.out hb)
          clear hb
          go_wp2_with fail
          refine (C12.out _).mono ?_
          rintro e w10 ⟨rfl, hb⟩
          have HB10 := Lib.hid (step HB9.out hb)
          clear hb
          go_wp2_with fail
          refine (C11.out _).mono ?_
          rintro e w11 ⟨rfl, hb⟩
          have HB11 := Lib.hid (step HB10.out hb)
          clear hb
          go_wp2_with fail
          refine (known_any _ (HT.out.keep HB11.out)).mono ?_
          rintro e w12 ⟨rfl, hb⟩
          have HB12 := Lib.hid (step HB11.out hb)
          clear hb
          go_wp2
          go_ret
          exact ⟨rfl, HB12.out⟩
        · obtain rfl := HPQ.out rfl
          cases R
          · clear HPQ HPR
            go_wp2_with fail
            refine (C1.out _ HT.out).mono ?_
            rintro e w1 ⟨rfl, hb⟩
            have HB1 := Lib.hid hb
            clear hb
            go_wp2_with fail
            refine (C2.out _ (HT.out.keep HB1.out)).mono ?_
            rintro e w2 ⟨rfl, hb⟩
            have HB2 := Lib.hid (step HB1.out hb)
            clear hb
            go_wp2_with fail
            refine (C3.out _ (HT.out.keep HB2.out)).mono ?_
            rintro e w3 ⟨rfl, hb⟩
            have HB3 := Lib.hid (step HB2.out hb)
            clear hb
            go_wp2_with fail
            refine (C1.out _ (HT.out.keep HB3.out)).mono ?_
            rintro e w4 ⟨rfl, hb⟩
            have HB4 := Lib.hid (step HB3.out hb)
            clear hb
            go_wp2_with fail
            refine (C4.out _ (HT.out.keep HB4.out)).mono ?_
            rintro e w5 ⟨rfl, hb⟩
            have HB5 := Lib.hid (step HB4.out hb)
            clear hb
            go_wp2_with fail
            refine (C6.out _ (HT.out.keep HB5.out)).mono ?_
            rintro e w6 ⟨rfl, hb⟩
            have HB6 := Lib.hid (step HB5.out hb)
            clear hb
            go_wp2_with fail
            refine (C7.out _).mono ?_
            rintro e w7 ⟨rfl, hb⟩
            have HB7 := Lib.hid (step HB6.out hb)
            clear hb
            go_wp2_with fail
            refine (C8.out _).mono ?_
            rintro e w8 ⟨rfl, hb⟩
            have HB8 := Lib.hid (step HB7.out hb)
            clear hb
            go_wp2_with fail
            refine (C9.out _).mono ?_
            rintro e w9 ⟨rfl, hb⟩
            have HB9 := Lib.hid (step HB8.out hb)
            clear hb
            go_wp2_with fail
            refine (C10.out _).mono ?_
            rintro e w10 ⟨rfl, hb⟩
            have HB10 := Lib.hid (step HB9.out hb)
            clear hb
            go_wp2_with fail
            refine (C11.out _).mono ?_
            rintro e w11 ⟨rfl, hb⟩
            have HB11 := Lib.hid (step HB10.out hb)
            clear hb
            go_wp2_with fail
            refine (C12.out _).mono ?_
            rintro e w12 ⟨rfl, hb⟩
            have HB12 := Lib.hid (step HB11.out hb)
            clear hb
            go_wp2_with fail
            refine (C11.out _).mono ?_
            rintro e w13 ⟨rfl, hb⟩
            have HB13 := Lib.hid (step HB12.out hb)
            clear hb
            go_wp2_with fail
            refine (known_any _ (HT.out.keep HB13.out)).mono ?_
            rintro e w14 ⟨rfl, hb⟩
            have HB14 := Lib.hid (step HB13.out hb)
            clear hb
            go_wp2
            go_ret
            exact ⟨rfl, HB14.out⟩
          · obtain rfl := HPR.out rfl rfl
            clear HPQ HPR
            go_wp2_with fail
            refine (C1.out _ HT.out).mono ?_
            rintro e w1 ⟨rfl, hb⟩
            have HB1 := Lib.hid hb
            clear hb
            go_wp2_with fail
            refine (C2.out _ (HT.out.keep HB1.out)).mono ?_
            rintro e w2 ⟨rfl, hb⟩
            have HB2 := Lib.hid (step HB1.out hb)
            clear hb
            go_wp2_with fail
            refine (C3.out _ (HT.out.keep HB2.out)).mono ?_
            rintro e w3 ⟨rfl, hb⟩
            have HB3 := Lib.hid (step HB2.out hb)
            clear hb
            go_wp2_with fail
            refine (C1.out _ (HT.out.keep HB3.out)).mono ?_
            rintro e w4 ⟨rfl, hb⟩
            have HB4 := Lib.hid (step HB3.out hb)
            clear hb
            go_wp2_with fail
            refine (C4.out _ (HT.out.keep HB4.out)).mono ?_
            rintro e w5 ⟨rfl, hb⟩
            have HB5 := Lib.hid (step HB4.out hb)
            clear hb
            go_wp2_with fail
            refine (C5.out _ (HT.out.keep HB5.out)).mono ?_
            rintro e w6 ⟨rfl, hb⟩
            have HB6 := Lib.hid (step HB5.out hb)
            clear hb
            go_wp2_with fail
            refine (C6.out _ (HT.out.keep HB6.out)).mono ?_
            rintro e w7 ⟨rfl, hb⟩
            have HB7 := Lib.hid (step HB6.out hb)
            clear hb
            go_wp2_with fail
            refine (C7.out _).mono ?_
            rintro e w8 ⟨rfl, hb⟩
            have HB8 := Lib.hid (step HB7.out hb)
            clear hb
            go_wp2_with fail
            refine (C8.out _).mono ?_
            rintro e w9 ⟨rfl, hb⟩
            have HB9 := Lib.hid (step HB8.out hb)
            clear hb
            go_wp2_with fail
            refine (C9.out _).mono ?_
            rintro e w10 ⟨rfl, hb⟩
            have HB10 := Lib.hid (step HB9.out hb)
            clear hb
            go_wp2_with fail
            refine (C10.out _).mono ?_
            rintro e w11 ⟨rfl, hb⟩
            have HB11 := Lib.hid (step HB10.out hb)
            clear hb
            go_wp2_with fail
            refine (C11.out _).mono ?_
            rintro e w12 ⟨rfl, hb⟩
            have HB12 := Lib.hid (step HB11.out hb)
            clear hb
            go_wp2_with fail
            refine (C12.out _).mono ?_
            rintro e w13 ⟨rfl, hb⟩
            have HB13 := Lib.hid (step HB12.out hb)
            clear hb
            go_wp2_with fail
            refine (C11.out _).mono ?_
            rintro e w14 ⟨rfl, hb⟩
            have HB14 := Lib.hid (step HB13.out hb)
            clear hb
            go_wp2_with fail
            refine (known_any _ (HT.out.keep HB14.out)).mono ?_
            rintro e w15 ⟨rfl, hb⟩
            have HB15 := Lib.hid (step HB14.out hb)
            clear hb
            go_wp2
            go_ret
            exact ⟨rfl, HB15.out⟩
end Go.Proofs.YticplcnkaapmgaaDoor
