/- The walk of 'VarintTells'. Condition: the row takes no more than a row that is read may. -/
import Derived.Test.YtnahagcjieckeaaPuts
import Derived.Test.YtnahagcjieckeaaReads
import Derived.Test.YtnahagcjieckeaaRowsWalk2
namespace Go.Proofs.Ytnahagcjieckeaa
open Go.RowKit
open Go.VarMath hiding AllB
set_option linter.unusedVariables false

theorem mask6 (a : Int) : bits .and .i64 a 63 = a % 64 := by
  have h1 : (BitVec.ofInt 64 63).toNat = 2 ^ 6 - 1 := by decide
  have key : (BitVec.ofInt 64 a &&& BitVec.ofInt 64 63).toNat = (a % ((2 ^ 64 : Nat) : Int)).toNat % 2 ^ 6 := by
    rw [BitVec.toNat_and, BitVec.toNat_ofInt, h1, Nat.and_two_pow_sub_one_eq_mod]
  show IntKind.i64.wrap ((BitVec.ofInt 64 a &&& BitVec.ofInt 64 63).toNat : Nat) = _
  rw [key, IntKind.wrap_i64]
  omega
theorem mask6_nat (a : Int) : ∃ m : Nat, bits .and .i64 a 63 = (m : Int) ∧ m < 64 := ⟨(a % 64).toNat, by rw [mask6]; omega, by omega⟩
theorem shr_in (n : Int) (m : Nat) (h0 : -9223372036854775808 ≤ n) (h1 : n ≤ 9223372036854775807) : -9223372036854775808 ≤ n / 2 ^ m ∧ n / 2 ^ m ≤ 9223372036854775807 := by
  have hp : (0 : Int) < 2 ^ m := Int.pow_pos (by omega)
  constructor
  · rw [Int.le_ediv_iff_mul_le hp]
    have h2 : (1 : Int) ≤ 2 ^ m := hp
    have := Int.mul_le_mul_of_nonneg_left h2 (show (0 : Int) ≤ 9223372036854775808 by omega)
    rw [Int.neg_mul]
    omega
  · by_cases h : 0 ≤ n
    · exact Int.le_trans (Int.ediv_le_self _ h) h1
    · have := Int.ediv_neg_of_neg_of_pos (by omega : n < 0) hp
      omega
set_option maxRecDepth 100000 in
set_option maxHeartbeats 4000000 in
theorem vtells_any (w : World) (ad : Option Addr) (len cap : Nat) (bs : List Nat) (n : Int) (s : ByteArray) (cut most : Int) (h : Row w ad len cap bs) (hL : len ≤ 140737488351232) (h0 : -9223372036854775808 ≤ n) (h1 : n ≤ 9223372036854775807) (hs : s.size ≤ maxLen)
    (hcut : -9223372036854775808 ≤ cut ∧ cut ≤ 9223372036854775807) (hmost : -9223372036854775808 ≤ most ∧ most ≤ 9223372036854775807) :
    Calls Try.prog 4 #[.slice ad len cap, .int .i64 n, .string s, .int .i64 cut, .int .i64 most] w fun e w' => e = .returned (.bool true) ∧ Below w.heap.size w w' := by
  have hs : s.size ≤ 9223372036854775807 := hs
  have HR := Lib.hid h
  clear h
  obtain ⟨m, hm, hm6⟩ := mask6_nat n
  obtain ⟨m2, hm2, hm26⟩ := mask6_nat most
  obtain ⟨hs0, hs1⟩ := shr_in n m h0 h1
  have hk2 := encN_len h0 h1
  obtain ⟨k, hk⟩ : ∃ k, k = (encN n).length := ⟨_, rfl⟩
  rw [← hk] at hk2
  have HK := Lib.hid hk
  have start : ∃ t : ByteArray, t.size ≤ 200 ∧ ((200 < s.size ∧ t = s.extract 0 200) ∨ (¬ 200 < s.size ∧ t = s)) := by
    by_cases h200 : 200 < s.size
    · exact ⟨_, by rw [ByteArray.size_extract]; omega, .inl ⟨h200, rfl⟩⟩
    · exact ⟨s, by omega, .inr ⟨h200, rfl⟩⟩
  obtain ⟨t, ht1, ht⟩ := start
  obtain ⟨kt, hkt⟩ : ∃ kt, kt = (encN n ++ textB (bytesS t)).length := ⟨_, rfl⟩
  have hkt2 : kt ≤ 300 := by
    have := textB_len (s := bytesS t) (by rw [length_bytesS]; omega)
    rw [length_bytesS] at this
    rw [hkt, List.length_append]; omega
  have HKT := Lib.hid hkt
  have HAT : Hid (AllB (encN n ++ textB (bytesS t))) := all_append (in_zig h0 h1) (in_text (bytesS_all t) (by rw [length_bytesS]; omega))
  obtain ⟨P, hP⟩ : ∃ P, P = encN n ++ textB (bytesS t) := ⟨_, rfl⟩
  rw [← hP] at HKT HAT
  have HPE := Lib.hid hP
  clear hkt hk hP
  go_enter Try.func4, Try.ntmps4
  rcases ht with ⟨h200, ht⟩ | ⟨h200, ht⟩
  case inl =>
    have hd : decide ((200 : Int) < (s.size : Int)) = true := by simp; omega
    have hts := ht.symm
    clear ht
    go_wp2_with fail
    refine (refPut_any w none 0 0 [] n ⟨Byt.nil w, fun _ => rfl⟩ (by omega) h0 h1).mono ?_
    rintro e w1 ⟨g1, c1, rfl, ho1, hb1⟩
    rw [List.nil_append] at ho1 ⊢
    rw [← HK.out] at ho1 ⊢
    have HB1 := Lib.hid hb1
    have HX1 := Lib.hid (owns_row ho1 (in_zig h0 h1))
    clear ho1 hb1
    go_wp2_with fail
    refine (refText_any w1 _ _ _ (encN n) t HX1.out (by omega)).mono ?_
    rintro e w2 ⟨g2, c2, rfl, ho2, hb2⟩
    rw [← HPE.out] at ho2 ⊢
    rw [← HKT.out] at ho2 ⊢
    have HO2 := Lib.hid ho2
    have HB2 := Lib.hid hb2
    have HW2 : Hid (Below w.heap.size w w2) := HB1.out.trans (hb2.mono HB1.out.size)
    clear ho2 hb2
    go_wp2_with (at_builtin; refine append_row rfl (.tmp 21) (.tmp 22) rfl w1.heap.size kt P _ _ rfl HO2.out (some_ne _ _ _) HB2.out.size _ _ _ rfl (HR.out.keep HW2.out (Nat.le_refl _)) (by omega) w1 HB2.out ?_)
    intro g c w3 ho3 hb3
    have HO3 := Lib.hid (owns_row ho3 (all_append HAT.out HR.out.1.all)).1
    have HW3 : Hid (Below w.heap.size w w3) := HB1.out.trans (hb3.mono HB1.out.size)
    clear ho3 hb3 HO2 HB2 HW2 HX1 HB1
    obtain ⟨X, hX⟩ : ∃ X, X = P ++ bs := ⟨_, rfl⟩
    rw [← hX] at HO3
    obtain ⟨lx, hlx⟩ : ∃ lx, lx = kt + len := ⟨_, rfl⟩
    have hcx : ((kt : Int) + (len : Int)) = (lx : Int) := by omega
    rw [← hlx] at HO3 ⊢
    have hlx2 : lx ≤ 140737488355328 := by omega
    clear hX hlx hcx
    go_wp2_with fail
    refine (within_any cut (lx : Int) w3 hcut (by omega)).mono ?_
    rintro e w' ⟨q, rfl, hq, rfl⟩
    have hq2 : q ≤ lx := by omega
    go_wp2_with fail
    refine (puts_any w3 ad len cap bs n t (HR.out.keep HW3.out (Nat.le_refl _)) hL (by omega) h0 h1).mono ?_
    rintro e w4 ⟨rfl, hb4⟩
    have HW4 : Hid (Below w.heap.size w w4) := HW3.out.trans (hb4.mono HW3.out.size)
    have HO4 := Lib.hid (HO3.out.keep hb4 (Nat.le_refl _))
    clear hb4 HO3 HW3
    go_wp2_with fail
    refine (puts_any w4 ad len cap bs (n / 2 ^ m) t (HR.out.keep HW4.out (Nat.le_refl _)) hL (by omega) hs0 hs1).mono ?_
    rintro e w5 ⟨rfl, hb5⟩
    have HW5 : Hid (Below w.heap.size w w5) := HW4.out.trans (hb5.mono HW4.out.size)
    have HO5 := Lib.hid (HO4.out.keep hb5 (Nat.le_refl _))
    clear hb5 HO4 HW4 hm
    go_wp2_with fail
    refine (reads_any w5 ad len cap bs most (HR.out.keep HW5.out (Nat.le_refl _)).1 (by omega) hmost.1 hmost.2).mono ?_
    rintro e w6 ⟨rfl, hb6⟩
    have HW6 : Hid (Below w.heap.size w w6) := HW5.out.trans (hb6.mono HW5.out.size)
    have HO6 := Lib.hid (HO5.out.keep hb6 (Nat.le_refl _))
    clear hb6 HO5 HW5
    go_wp2_with fail
    refine (reads_any w6 _ _ _ X (m2 : Int) HO6.out hlx2 (by omega) (by omega)).mono ?_
    rintro e w7 ⟨rfl, hb7⟩
    have HW7 : Hid (Below w.heap.size w w7) := HW6.out.trans (hb7.mono HW6.out.size)
    have HO7 := Lib.hid (HO6.out.keep hb7 (Nat.le_refl _))
    have hsl := run_upto (some ⟨g, 0, none⟩) lx c q (by have := HO7.out.fits; omega)
    clear hb7 HO6 HW6 hm2
    go_wp2_with fail
    refine (reads_any w7 _ _ _ (X.take q) 300 (byt_upto HO7.out q hq2) (by omega) (by omega) (by omega)).mono ?_
    rintro e w8 ⟨rfl, hb8⟩
    have HW8 : Hid (Below w.heap.size w w8) := HW7.out.trans (hb8.mono HW7.out.size)
    have hby := byt_from (HO7.out.keep hb8 (Nat.le_refl _)) q hq2
    have hsf := fun W => run_from g 0 lx c q hq2 W
    obtain ⟨o, ho⟩ : ∃ o, o = if c = q then 0 else 0 + q := ⟨_, rfl⟩
    rw [← ho] at hby hsf
    have HBY := Lib.hid hby
    clear hb8 HO7 HW7 hsl hby ho
    go_wp2_with fail
    refine (reads_any w8 _ _ _ (X.drop q) most HBY.out (by omega) hmost.1 hmost.2).mono ?_
    rintro e w9 ⟨rfl, hb9⟩
    have HW9 : Hid (Below w.heap.size w w9) := HW8.out.trans (hb9.mono HW8.out.size)
    clear hb9 HW8 hsf
    go_wp2_with fail
    refine (known_any w9).mono ?_
    rintro e w10 ⟨rfl, hb10⟩
    go_wp2
    go_ret
    exact ⟨rfl, HW9.out.trans (hb10.mono HW9.out.size)⟩
  case inr =>
    have hd : decide ((200 : Int) < (s.size : Int)) = false := by simp; omega
    subst ht
    go_wp2_with fail
    refine (refPut_any w none 0 0 [] n ⟨Byt.nil w, fun _ => rfl⟩ (by omega) h0 h1).mono ?_
    rintro e w1 ⟨g1, c1, rfl, ho1, hb1⟩
    rw [List.nil_append] at ho1 ⊢
    rw [← HK.out] at ho1 ⊢
    have HB1 := Lib.hid hb1
    have HX1 := Lib.hid (owns_row ho1 (in_zig h0 h1))
    clear ho1 hb1
    go_wp2_with fail
    refine (refText_any w1 _ _ _ (encN n) t HX1.out (by omega)).mono ?_
    rintro e w2 ⟨g2, c2, rfl, ho2, hb2⟩
    rw [← HPE.out] at ho2 ⊢
    rw [← HKT.out] at ho2 ⊢
    have HO2 := Lib.hid ho2
    have HB2 := Lib.hid hb2
    have HW2 : Hid (Below w.heap.size w w2) := HB1.out.trans (hb2.mono HB1.out.size)
    clear ho2 hb2
    go_wp2_with (at_builtin; refine append_row rfl (.tmp 21) (.tmp 22) rfl w1.heap.size kt P _ _ rfl HO2.out (some_ne _ _ _) HB2.out.size _ _ _ rfl (HR.out.keep HW2.out (Nat.le_refl _)) (by omega) w1 HB2.out ?_)
    intro g c w3 ho3 hb3
    have HO3 := Lib.hid (owns_row ho3 (all_append HAT.out HR.out.1.all)).1
    have HW3 : Hid (Below w.heap.size w w3) := HB1.out.trans (hb3.mono HB1.out.size)
    clear ho3 hb3 HO2 HB2 HW2 HX1 HB1
    obtain ⟨X, hX⟩ : ∃ X, X = P ++ bs := ⟨_, rfl⟩
    rw [← hX] at HO3
    obtain ⟨lx, hlx⟩ : ∃ lx, lx = kt + len := ⟨_, rfl⟩
    have hcx : ((kt : Int) + (len : Int)) = (lx : Int) := by omega
    rw [← hlx] at HO3 ⊢
    have hlx2 : lx ≤ 140737488355328 := by omega
    clear hX hlx hcx
    go_wp2_with fail
    refine (within_any cut (lx : Int) w3 hcut (by omega)).mono ?_
    rintro e w' ⟨q, rfl, hq, rfl⟩
    have hq2 : q ≤ lx := by omega
    go_wp2_with fail
    refine (puts_any w3 ad len cap bs n t (HR.out.keep HW3.out (Nat.le_refl _)) hL (by omega) h0 h1).mono ?_
    rintro e w4 ⟨rfl, hb4⟩
    have HW4 : Hid (Below w.heap.size w w4) := HW3.out.trans (hb4.mono HW3.out.size)
    have HO4 := Lib.hid (HO3.out.keep hb4 (Nat.le_refl _))
    clear hb4 HO3 HW3
    go_wp2_with fail
    refine (puts_any w4 ad len cap bs (n / 2 ^ m) t (HR.out.keep HW4.out (Nat.le_refl _)) hL (by omega) hs0 hs1).mono ?_
    rintro e w5 ⟨rfl, hb5⟩
    have HW5 : Hid (Below w.heap.size w w5) := HW4.out.trans (hb5.mono HW4.out.size)
    have HO5 := Lib.hid (HO4.out.keep hb5 (Nat.le_refl _))
    clear hb5 HO4 HW4 hm
    go_wp2_with fail
    refine (reads_any w5 ad len cap bs most (HR.out.keep HW5.out (Nat.le_refl _)).1 (by omega) hmost.1 hmost.2).mono ?_
    rintro e w6 ⟨rfl, hb6⟩
    have HW6 : Hid (Below w.heap.size w w6) := HW5.out.trans (hb6.mono HW5.out.size)
    have HO6 := Lib.hid (HO5.out.keep hb6 (Nat.le_refl _))
    clear hb6 HO5 HW5
    go_wp2_with fail
    refine (reads_any w6 _ _ _ X (m2 : Int) HO6.out hlx2 (by omega) (by omega)).mono ?_
    rintro e w7 ⟨rfl, hb7⟩
    have HW7 : Hid (Below w.heap.size w w7) := HW6.out.trans (hb7.mono HW6.out.size)
    have HO7 := Lib.hid (HO6.out.keep hb7 (Nat.le_refl _))
    have hsl := run_upto (some ⟨g, 0, none⟩) lx c q (by have := HO7.out.fits; omega)
    clear hb7 HO6 HW6 hm2
    go_wp2_with fail
    refine (reads_any w7 _ _ _ (X.take q) 300 (byt_upto HO7.out q hq2) (by omega) (by omega) (by omega)).mono ?_
    rintro e w8 ⟨rfl, hb8⟩
    have HW8 : Hid (Below w.heap.size w w8) := HW7.out.trans (hb8.mono HW7.out.size)
    have hby := byt_from (HO7.out.keep hb8 (Nat.le_refl _)) q hq2
    have hsf := fun W => run_from g 0 lx c q hq2 W
    obtain ⟨o, ho⟩ : ∃ o, o = if c = q then 0 else 0 + q := ⟨_, rfl⟩
    rw [← ho] at hby hsf
    have HBY := Lib.hid hby
    clear hb8 HO7 HW7 hsl hby ho
    go_wp2_with fail
    refine (reads_any w8 _ _ _ (X.drop q) most HBY.out (by omega) hmost.1 hmost.2).mono ?_
    rintro e w9 ⟨rfl, hb9⟩
    have HW9 : Hid (Below w.heap.size w w9) := HW8.out.trans (hb9.mono HW8.out.size)
    clear hb9 HW8 hsf
    go_wp2_with fail
    refine (known_any w9).mono ?_
    rintro e w10 ⟨rfl, hb10⟩
    go_wp2
    go_ret
    exact ⟨rfl, HW9.out.trans (hb10.mono HW9.out.size)⟩
end Go.Proofs.Ytnahagcjieckeaa
