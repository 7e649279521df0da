/- The walk of 'VarintBack'. Condition: the row takes no more than a row that is read may. -/
import Derived.Test.YtnahagcjieckeaaLongs
namespace Go.Proofs.Ytnahagcjieckeaa
open Go.RowKit
open Go.VarMath hiding AllB
set_option linter.unusedVariables false

theorem encN_all {n : Int} (h0 : -9223372036854775808 ≤ n) (h1 : n ≤ 9223372036854775807) : AllB (encN n) := enc_all (zig_lt h0 h1)
theorem encN_len {n : Int} (h0 : -9223372036854775808 ≤ n) (h1 : n ≤ 9223372036854775807) : 1 ≤ (encN n).length ∧ (encN n).length ≤ 10 := enc_len (zig_lt h0 h1)
theorem textB_all {s : List Nat} (h : AllB s) (hl : s.length < 9223372036854775808) : AllB (textB s) := all_append (enc_all (by omega)) h
theorem textB_len {s : List Nat} (hl : s.length < 9223372036854775808) : s.length + 1 ≤ (textB s).length ∧ (textB s).length ≤ s.length + 10 := by
  have := enc_len (u := 2 * s.length) (by omega)
  unfold textB
  rw [List.length_append]; omega
theorem str_bytesS (s : ByteArray) : str (bytesS s) = s := by
  apply ByteArray.ext
  apply Array.toList_inj.1
  unfold str bytesS
  simp only [List.map_map]
  conv => rhs; rw [← List.map_id s.data.toList]
  apply List.map_congr_left
  intro x _
  simp
theorem put_nil (W : World) (n : Int) (h0 : -9223372036854775808 ≤ n) (h1 : n ≤ 9223372036854775807) (k : Nat) (hk : k = (encN n).length) : Calls Try.prog 14 #[.slice none 0 0, .int .i64 n] W fun e w' => ∃ g cp, e = .returned (.slice (some ⟨g, 0, none⟩) k cp) ∧ Hid (w'.ownsRow W.heap.size 5 1 (.slice (some ⟨g, 0, none⟩) k cp) k (vals (encN n))) ∧ Hid (Below W.heap.size W w') := by
  refine (put_any W none 0 0 [] n ⟨Byt.nil W, fun _ => rfl⟩ (by omega) h0 h1).mono ?_
  rintro e w' ⟨g, cp, rfl, ho, hb⟩
  rw [List.nil_append] at ho ⊢
  rw [← hk] at ho ⊢
  exact ⟨g, cp, rfl, ho, hb⟩
theorem text_nil (W : World) (s : ByteArray) (hs : s.size ≤ 4096) (k : Nat) (hk : k = (textB (bytesS s)).length) : Calls Try.prog 17 #[.slice none 0 0, .string s] W fun e w' => ∃ g cp, e = .returned (.slice (some ⟨g, 0, none⟩) k cp) ∧ Hid (w'.ownsRow W.heap.size 5 1 (.slice (some ⟨g, 0, none⟩) k cp) k (vals (textB (bytesS s)))) ∧ Hid (Below W.heap.size W w') := by
  refine (text_any W none 0 0 [] s ⟨Byt.nil W, fun _ => rfl⟩ (by omega)).mono ?_
  rintro e w' ⟨g, cp, rfl, ho, hb⟩
  rw [List.nil_append] at ho ⊢
  rw [← hk] at ho ⊢
  exact ⟨g, cp, rfl, ho, hb⟩
theorem get_put (W : World) (n : Int) (h0 : -9223372036854775808 ≤ n) (h1 : n ≤ 9223372036854775807) (k : Nat) (hk : k = (encN n).length) (ad : Option Addr) (len cap : Nat) (bs : List Nat) (h : Byt W ad len cap (encN n ++ bs)) (hL : len ≤ 140737488355328) :
    Calls Try.prog 15 #[.slice ad len cap] W fun e w' => e = .returned (.tuple #[.int .i64 n, .int .i64 (k : Int)]) ∧ W = w' := by
  refine (get_any W ad len cap _ h hL).mono ?_
  rintro e w' ⟨rfl, rfl⟩
  rw [getB_encN h0 h1, hk]
  exact ⟨rfl, rfl⟩
theorem get_less (W : World) (n : Int) (h0 : -9223372036854775808 ≤ n) (h1 : n ≤ 9223372036854775807) (ad : Option Addr) (len cap j : Nat) (hj : j < (encN n).length) (h : Byt W ad len cap ((encN n).take j)) (hL : len ≤ 140737488355328) :
    Calls Try.prog 15 #[.slice ad len cap] W fun e w' => e = .returned (.tuple #[.int .i64 0, .int .i64 0]) ∧ W = w' := by
  refine (get_any W ad len cap _ h hL).mono ?_
  rintro e w' ⟨rfl, rfl⟩
  unfold encN at hj ⊢
  rw [getB_short (zig_lt h0 h1) j hj]
  exact ⟨rfl, rfl⟩
theorem cut_text (W : World) (s : ByteArray) (hs : s.size ≤ 4096) (k : Nat) (hk : k = (textB (bytesS s)).length) (ad : Option Addr) (len cap : Nat) (bs : List Nat) (h : Byt W ad len cap (textB (bytesS s) ++ bs)) (hL : len ≤ 140737488355328) :
    Calls Try.prog 16 #[.slice ad len cap, .int .i64 (s.size : Int)] W fun e w' => e = .returned (.tuple #[.string s, .int .i64 (k : Int)]) ∧ Hid (Below W.heap.size W w') := by
  refine (cut_any W ad len cap _ (s.size : Int) h hL (by omega) (by omega)).mono ?_
  rintro e w' ⟨rfl, hb⟩
  have hc := cutB_text (s := bytesS s) (by rw [length_bytesS]; omega) bs
  rw [length_bytesS] at hc
  rw [hc, hk, str_bytesS]
  exact ⟨rfl, hb⟩
theorem cut_less (W : World) (s : ByteArray) (hs : s.size ≤ 4096) (ad : Option Addr) (len cap : Nat) (h : Byt W ad len cap (textB (bytesS s))) (hL : len ≤ 140737488355328) :
    Calls Try.prog 16 #[.slice ad len cap, .int .i64 ((s.size : Int) - 1)] W fun e w' => e = .returned (.tuple #[.string ⟨#[]⟩, .int .i64 0]) ∧ Hid (Below W.heap.size W w') := by
  refine (cut_any W ad len cap _ ((s.size : Int) - 1) h hL (by omega) (by omega)).mono ?_
  rintro e w' ⟨rfl, hb⟩
  have hc := cutB_less (s := bytesS s) (by rw [length_bytesS]; omega)
  rw [length_bytesS] at hc
  rw [hc]
  exact ⟨rfl, hb⟩
theorem extract_size {s : ByteArray} (h : 100 < s.size) : (s.extract 0 100).size = 100 := by
  rw [ByteArray.size_extract]; omega
set_option maxRecDepth 100000 in
set_option maxHeartbeats 4000000 in
theorem vback_any (w : World) (n : Int) (s : ByteArray) (ad : Option Addr) (len cap : Nat) (bs : List Nat) (h : Row w ad len cap bs) (hL : len ≤ 140737488351232) (h0 : -9223372036854775808 ≤ n) (h1 : n ≤ 9223372036854775807) (hs : s.size ≤ maxLen) :
    Calls Try.prog 5 #[.int .i64 n, .string s, .slice ad len cap] w fun e w' => e = .returned (.bool true) ∧ Below w.heap.size w w' := by
  have hs : s.size ≤ 9223372036854775807 := hs
  have HR := Lib.hid h
  clear h
  have hk2 := encN_len h0 h1
  obtain ⟨k, hk⟩ : ∃ k, k = (encN n).length := ⟨_, rfl⟩
  rw [← hk] at hk2
  have HK := Lib.hid hk
  clear hk
  have start : ∃ t : ByteArray, t.size ≤ 100 ∧ ((100 < s.size ∧ t = s.extract 0 100) ∨ (¬ 100 < s.size ∧ t = s)) := by
    by_cases h100 : 100 < s.size
    · exact ⟨_, by rw [extract_size h100]; omega, .inl ⟨h100, rfl⟩⟩
    · exact ⟨s, by omega, .inr ⟨h100, rfl⟩⟩
  obtain ⟨t, ht1, ht⟩ := start
  obtain ⟨kt, hkt⟩ : ∃ kt, kt = (textB (bytesS t)).length := ⟨_, rfl⟩
  have hkt2 := textB_len (s := bytesS t) (by rw [length_bytesS]; omega)
  rw [← hkt, length_bytesS] at hkt2
  have HKT := Lib.hid hkt
  clear hkt
  go_enter Try.func5, Try.ntmps5
  rcases ht with ⟨h100, ht⟩ | ⟨h100, ht⟩
  case inl =>
    have hd : decide ((100 : Int) < (s.size : Int)) = true := by simp; omega
    have hts := ht.symm
    clear ht
    go_wp2_with fail
    refine (put_nil w n h0 h1 k HK.out).mono ?_
    rintro e w1 ⟨g1, c1, rfl, HO1, HB1⟩
    have HZ1 : Hid (Below w1.heap.size w1 (w1.alloc (.cells #[] 5))) := (Below.refl _ _).alloc (Nat.le_refl _) _
    have HX1 := Lib.hid (owns_row HO1.out (encN_all h0 h1))
    go_wp2_with (at_builtin; refine append_row rfl (.tmp 26) (.tmp 27) rfl w1.heap.size 0 [] _ _ rfl (own_empty w1 _ (Nat.le_refl _)) (some_ne _ _ _) HZ1.out.size _ _ _ rfl (HX1.out.keep HZ1.out (Nat.le_refl _)) (by omega) w1 HZ1.out ?_)
    intro g2 c2 w2 ho2 hb2
    have HO2 := Lib.hid (show w2.ownsRow w1.heap.size 5 1 (.slice (some ⟨g2, 0, none⟩) k c2) k (vals (encN n)) by simpa using ho2)
    have HB2 := Lib.hid hb2
    have HW2 : Hid (Below w.heap.size w w2) := HB1.out.trans (hb2.mono HB1.out.size)
    clear ho2 hb2
    go_wp2_with (at_builtin; refine append_row rfl (.tmp 28) (.tmp 29) rfl w1.heap.size k (encN n) _ _ rfl HO2.out (some_ne _ _ _) HB2.out.size _ _ _ rfl (HR.out.keep HW2.out (Nat.le_refl _)) (by omega) w1 HB2.out ?_)
    intro g3 c3 w3 ho3 hb3
    have HO3 := Lib.hid (owns_row ho3 (all_append (encN_all h0 h1) HR.out.1.all)).1
    have HB3 := Lib.hid hb3
    clear ho3 hb3
    go_wp2_with fail
    refine (get_put w3 n h0 h1 k HK.out _ _ _ bs HO3.out (by omega)).mono ?_
    rintro e w' ⟨rfl, rfl⟩
    clear HO2 HO3 HB2 HW2 HZ1
    go_wp2_with fail
    refine (text_nil w3 t (by omega) kt HKT.out).mono ?_
    rintro e w4 ⟨g4, c4, rfl, HO4, hb4⟩
    have HV4 : Hid (Below w.heap.size w w4) := HB1.out.trans ((HB3.out.trans (hb4.out.mono HB3.out.size)).mono HB1.out.size)
    go_wp2_with (at_builtin; refine append_row rfl (.tmp 36) (.tmp 37) rfl w3.heap.size kt (textB (bytesS t)) _ _ rfl HO4.out (some_ne _ _ _) hb4.out.size _ _ _ rfl (HR.out.keep HV4.out (Nat.le_refl _)) (by omega) w3 hb4.out ?_)
    intro g5 c5 w5 ho5 hb5
    have HO5 := Lib.hid (owns_row ho5 (all_append (textB_all (bytesS_all t) (by rw [length_bytesS]; omega)) HR.out.1.all)).1
    have HB5 : Hid (Below w1.heap.size w1 w5) := HB3.out.trans (hb5.mono HB3.out.size)
    clear ho5 hb5 hb4 HO4 HV4 HB3
    go_wp2_with fail
    refine (cut_text w5 t (by omega) kt HKT.out _ _ _ bs HO5.out (by omega)).mono ?_
    rintro e w6 ⟨rfl, hb6⟩
    have HB6 : Hid (Below w1.heap.size w1 w6) := HB5.out.trans (hb6.out.mono HB5.out.size)
    clear hb6 HO5 HB5
    go_wp2_with fail
    refine (text_nil w6 t (by omega) kt HKT.out).mono ?_
    rintro e w7 ⟨g7, c7, rfl, HO7, hb7⟩
    have HB7 : Hid (Below w1.heap.size w1 w7) := HB6.out.trans (hb7.out.mono HB6.out.size)
    have HY7 := Lib.hid (owns_row HO7.out (textB_all (bytesS_all t) (by rw [length_bytesS]; omega))).1
    clear hb7 HO7 HB6
    go_wp2_with fail
    refine (cut_less w7 t (by omega) _ _ _ HY7.out (by omega)).mono ?_
    rintro e w8 ⟨rfl, hb8⟩
    have HB8 : Hid (Below w1.heap.size w1 w8) := HB7.out.trans (hb8.out.mono HB7.out.size)
    clear hb8 HY7 HB7
    go_wp2_with fail
    refine (long_nil w8 n h0 h1).mono ?_
    rintro e w9 ⟨g9, c9, rfl, HO9, hb9⟩
    have HV9 : Hid (Below w.heap.size w w9) := HB1.out.trans ((HB8.out.trans (hb9.out.mono HB8.out.size)).mono HB1.out.size)
    go_wp2_with (at_builtin; refine append_row rfl (.tmp 55) (.tmp 56) rfl w8.heap.size 8 (longB n) _ _ rfl HO9.out (some_ne _ _ _) hb9.out.size _ _ _ rfl (HR.out.keep HV9.out (Nat.le_refl _)) (by omega) w8 hb9.out ?_)
    intro g10 c10 w10 ho10 hb10
    have HO10 := Lib.hid (owns_row ho10 (all_append (longB_all _) HR.out.1.all)).1
    have HB10 : Hid (Below w1.heap.size w1 w10) := HB8.out.trans (hb10.mono HB8.out.size)
    clear ho10 hb10 hb9 HO9 HV9 HB8
    go_wp2_with fail
    refine (back_long w10 n h0 h1 _ _ _ bs HO10.out (by omega)).mono ?_
    rintro e w' ⟨rfl, rfl⟩
    have hk0 : ((k : Int) == 0) = false := by simp; omega
    have HX10 := Lib.hid (cut_row (HX1.out.keep HB10.out (Nat.le_refl _)) (k - 1) (by omega))
    have hsl := run_upto (some ⟨g1, 0, none⟩) k c1 (k - 1) (by have := HX1.out.1.fits; omega)
    have hcast : ((k - 1 : Nat) : Int) = (k : Int) - 1 := by omega
    rw [hcast] at hsl
    clear hcast
    go_wp2_with fail
    refine (get_less w10 n h0 h1 _ _ _ (k - 1) (by rw [← HK.out]; omega) HX10.out.1 (by omega)).mono ?_
    rintro e w' ⟨rfl, rfl⟩
    clear hsl
    have HV10 : Hid (Below w.heap.size w w10) := HB1.out.trans (HB10.out.mono HB1.out.size)
    clear HB10 HX10 HX1 HO1 HO10
    go_wp2_with fail
    refine (known_any w10).mono ?_
    rintro e w11 ⟨rfl, hb11⟩
    go_wp2
    go_ret
    exact ⟨rfl, HV10.out.trans (hb11.mono HV10.out.size)⟩
  case inr =>
    have hd : decide ((100 : Int) < (s.size : Int)) = false := by simp; omega
    subst ht
    go_wp2_with fail
    refine (put_nil w n h0 h1 k HK.out).mono ?_
    rintro e w1 ⟨g1, c1, rfl, HO1, HB1⟩
    have HZ1 : Hid (Below w1.heap.size w1 (w1.alloc (.cells #[] 5))) := (Below.refl _ _).alloc (Nat.le_refl _) _
    have HX1 := Lib.hid (owns_row HO1.out (encN_all h0 h1))
    go_wp2_with (at_builtin; refine append_row rfl (.tmp 26) (.tmp 27) rfl w1.heap.size 0 [] _ _ rfl (own_empty w1 _ (Nat.le_refl _)) (some_ne _ _ _) HZ1.out.size _ _ _ rfl (HX1.out.keep HZ1.out (Nat.le_refl _)) (by omega) w1 HZ1.out ?_)
    intro g2 c2 w2 ho2 hb2
    have HO2 := Lib.hid (show w2.ownsRow w1.heap.size 5 1 (.slice (some ⟨g2, 0, none⟩) k c2) k (vals (encN n)) by simpa using ho2)
    have HB2 := Lib.hid hb2
    have HW2 : Hid (Below w.heap.size w w2) := HB1.out.trans (hb2.mono HB1.out.size)
    clear ho2 hb2
    go_wp2_with (at_builtin; refine append_row rfl (.tmp 28) (.tmp 29) rfl w1.heap.size k (encN n) _ _ rfl HO2.out (some_ne _ _ _) HB2.out.size _ _ _ rfl (HR.out.keep HW2.out (Nat.le_refl _)) (by omega) w1 HB2.out ?_)
    intro g3 c3 w3 ho3 hb3
    have HO3 := Lib.hid (owns_row ho3 (all_append (encN_all h0 h1) HR.out.1.all)).1
    have HB3 := Lib.hid hb3
    clear ho3 hb3
    go_wp2_with fail
    refine (get_put w3 n h0 h1 k HK.out _ _ _ bs HO3.out (by omega)).mono ?_
    rintro e w' ⟨rfl, rfl⟩
    clear HO2 HO3 HB2 HW2 HZ1
    go_wp2_with fail
    refine (text_nil w3 t (by omega) kt HKT.out).mono ?_
    rintro e w4 ⟨g4, c4, rfl, HO4, hb4⟩
    have HV4 : Hid (Below w.heap.size w w4) := HB1.out.trans ((HB3.out.trans (hb4.out.mono HB3.out.size)).mono HB1.out.size)
    go_wp2_with (at_builtin; refine append_row rfl (.tmp 36) (.tmp 37) rfl w3.heap.size kt (textB (bytesS t)) _ _ rfl HO4.out (some_ne _ _ _) hb4.out.size _ _ _ rfl (HR.out.keep HV4.out (Nat.le_refl _)) (by omega) w3 hb4.out ?_)
    intro g5 c5 w5 ho5 hb5
    have HO5 := Lib.hid (owns_row ho5 (all_append (textB_all (bytesS_all t) (by rw [length_bytesS]; omega)) HR.out.1.all)).1
    have HB5 : Hid (Below w1.heap.size w1 w5) := HB3.out.trans (hb5.mono HB3.out.size)
    clear ho5 hb5 hb4 HO4 HV4 HB3
    go_wp2_with fail
    refine (cut_text w5 t (by omega) kt HKT.out _ _ _ bs HO5.out (by omega)).mono ?_
    rintro e w6 ⟨rfl, hb6⟩
    have HB6 : Hid (Below w1.heap.size w1 w6) := HB5.out.trans (hb6.out.mono HB5.out.size)
    clear hb6 HO5 HB5
    go_wp2_with fail
    refine (text_nil w6 t (by omega) kt HKT.out).mono ?_
    rintro e w7 ⟨g7, c7, rfl, HO7, hb7⟩
    have HB7 : Hid (Below w1.heap.size w1 w7) := HB6.out.trans (hb7.out.mono HB6.out.size)
    have HY7 := Lib.hid (owns_row HO7.out (textB_all (bytesS_all t) (by rw [length_bytesS]; omega))).1
    clear hb7 HO7 HB6
    go_wp2_with fail
    refine (cut_less w7 t (by omega) _ _ _ HY7.out (by omega)).mono ?_
    rintro e w8 ⟨rfl, hb8⟩
    have HB8 : Hid (Below w1.heap.size w1 w8) := HB7.out.trans (hb8.out.mono HB7.out.size)
    clear hb8 HY7 HB7
    go_wp2_with fail
    refine (long_nil w8 n h0 h1).mono ?_
    rintro e w9 ⟨g9, c9, rfl, HO9, hb9⟩
    have HV9 : Hid (Below w.heap.size w w9) := HB1.out.trans ((HB8.out.trans (hb9.out.mono HB8.out.size)).mono HB1.out.size)
    go_wp2_with (at_builtin; refine append_row rfl (.tmp 55) (.tmp 56) rfl w8.heap.size 8 (longB n) _ _ rfl HO9.out (some_ne _ _ _) hb9.out.size _ _ _ rfl (HR.out.keep HV9.out (Nat.le_refl _)) (by omega) w8 hb9.out ?_)
    intro g10 c10 w10 ho10 hb10
    have HO10 := Lib.hid (owns_row ho10 (all_append (longB_all _) HR.out.1.all)).1
    have HB10 : Hid (Below w1.heap.size w1 w10) := HB8.out.trans (hb10.mono HB8.out.size)
    clear ho10 hb10 hb9 HO9 HV9 HB8
    go_wp2_with fail
    refine (back_long w10 n h0 h1 _ _ _ bs HO10.out (by omega)).mono ?_
    rintro e w' ⟨rfl, rfl⟩
    have hk0 : ((k : Int) == 0) = false := by simp; omega
    have HX10 := Lib.hid (cut_row (HX1.out.keep HB10.out (Nat.le_refl _)) (k - 1) (by omega))
    have hsl := run_upto (some ⟨g1, 0, none⟩) k c1 (k - 1) (by have := HX1.out.1.fits; omega)
    have hcast : ((k - 1 : Nat) : Int) = (k : Int) - 1 := by omega
    rw [hcast] at hsl
    clear hcast
    go_wp2_with fail
    refine (get_less w10 n h0 h1 _ _ _ (k - 1) (by rw [← HK.out]; omega) HX10.out.1 (by omega)).mono ?_
    rintro e w' ⟨rfl, rfl⟩
    clear hsl
    have HV10 : Hid (Below w.heap.size w w10) := HB1.out.trans (HB10.out.mono HB1.out.size)
    clear HB10 HX10 HX1 HO1 HO10
    go_wp2_with fail
    refine (known_any w10).mono ?_
    rintro e w11 ⟨rfl, hb11⟩
    go_wp2
    go_ret
    exact ⟨rfl, HV10.out.trans (hb11.mono HV10.out.size)⟩
end Go.Proofs.Ytnahagcjieckeaa
