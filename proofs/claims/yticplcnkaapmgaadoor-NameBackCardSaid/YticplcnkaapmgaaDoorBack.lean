/- The walk of 'NameBack'. It asks that the library's two tables of runes hold what they begin with. -/
import Derived.Test.YticplcnkaapmgaaDoorTells
namespace Go.Proofs.YticplcnkaapmgaaDoor
open Go.RowKit
open Go.RuneMath
set_option linter.unusedVariables false

theorem mask40 (a : Int) : ∃ x : Nat, bits .and .i64 a 1099511627775 = (x : Int) ∧ x ≤ 1099511627775 := by
  have h1 : (BitVec.ofInt 64 1099511627775).toNat = 2 ^ 40 - 1 := by decide
  have key : (BitVec.ofInt 64 a &&& BitVec.ofInt 64 1099511627775).toNat = (a % ((2 ^ 64 : Nat) : Int)).toNat % 2 ^ 40 := by
    rw [BitVec.toNat_and, BitVec.toNat_ofInt, h1, Nat.and_two_pow_sub_one_eq_mod]
  refine ⟨(a % ((2 ^ 64 : Nat) : Int)).toNat % 2 ^ 40, ?_, by omega⟩
  show IntKind.i64.wrap ((BitVec.ofInt 64 a &&& BitVec.ofInt 64 1099511627775).toNat : Nat) = _
  rw [key, IntKind.wrap_i64]
  omega
theorem runes_file (n : Nat) (k : List UInt8) : runes (fileL n k) = (dig n 20).map (·.toNat) ++ 46 :: runes k := by
  unfold fileL
  rw [runes_low _ (low_dig n 20), runes_ascii 46 k (by decide)]
  rfl
theorem count_file (n : Nat) (k : List UInt8) : countB (fileL n k) = 21 + countB k := by
  unfold countB
  rw [runes_file, List.length_append, List.length_map, dig_len, List.length_cons]
  omega
theorem okR_digit {c : UInt8} (h : 48 ≤ c.toNat ∧ c.toNat ≤ 57) : okR c.toNat = true := by
  unfold okR
  simp [h.1, h.2]
theorem right_file {n : Nat} {k : List UInt8} (hk : rightB k = true) (hc : countB k ≤ 19) : rightB (fileL n k) = true := by
  have hcf := count_file n k
  unfold countB at hcf hc
  unfold rightB rightR at hk ⊢
  simp only [Bool.and_eq_true, decide_eq_true_eq] at hk ⊢
  refine ⟨⟨?_, by omega⟩, by omega⟩
  rw [runes_file, List.all_append, List.all_cons, hk.1.1]
  have : ((dig n 20).map (·.toNat)).all okR = true := by
    rw [List.all_eq_true]
    intro r hr
    obtain ⟨c, hc, rfl⟩ := List.mem_map.1 hr
    exact okR_digit (dig_all n 20 c hc)
  rw [this]
  rfl
theorem less_file {m n : Nat} (hm : m ≤ 1099511627775) (hn : n ≤ 1099511627775) (k : List UInt8) : lessB (fileL m k) (fileL n k) = decide (m < n) := by
  have h1 : m < 10 ^ 20 := Nat.lt_of_le_of_lt hm (by decide)
  have h2 : n < 10 ^ 20 := Nat.lt_of_le_of_lt hn (by decide)
  unfold lessB
  rw [runes_file, runes_file, less_app _ _ (by simp [dig_len]), less_dig 20 m n h1 h2, less_irr]
  split
  · rename_i e
    have : m = n := dig_inj h1 h2 ((List.map_inj_right (fun _ _ h => UInt8.toNat_inj.1 h)).1 e)
    subst this
    simp
  · rfl
theorem file_inj {m n : Nat} (hm : m ≤ 1099511627775) (hn : n ≤ 1099511627775) {k : List UInt8} (h : fileL m k = fileL n k) : m = n := by
  have e : valD ((fileL m k).take 20) = valD ((fileL n k).take 20) := by rw [h]
  rwa [file_take (by omega), file_take (by omega)] at e
/-- A kind that may be. -/
def OkKind (K : ByteArray) : Prop := rightB K.data.toList = true ∧ K.data.toList.contains 46 = false ∧ countB K.data.toList ≤ 8 ∧ K.size ≤ 8
theorem five (w : World) (j : Nat) (hj : j < 5) : ∃ K : ByteArray, (w.alloc (.cells #[.string tLog, .string tIndex, .string tSnap, .string tAborts, .string tShi] 9)).cell? ⟨w.heap.size, j, none⟩ = some (.string K) ∧ OkKind K := by
  have hg : (w.alloc (.cells #[.string tLog, .string tIndex, .string tSnap, .string tAborts, .string tShi] 9)).heap[w.heap.size]? = some (.cells #[.string tLog, .string tIndex, .string tSnap, .string tAborts, .string tShi] 9 (0, 0)) := heap_alloc_new w _
  rw [cell_of_row _ _ _ _ _ _ hg]
  match j, hj with
  | 0, _ => exact ⟨tLog, rfl, by decide +kernel, by decide +kernel, by decide +kernel, by decide⟩
  | 1, _ => exact ⟨tIndex, rfl, by decide +kernel, by decide +kernel, by decide +kernel, by decide⟩
  | 2, _ => exact ⟨tSnap, rfl, by decide +kernel, by decide +kernel, by decide +kernel, by decide⟩
  | 3, _ => exact ⟨tAborts, rfl, by decide +kernel, by decide +kernel, by decide +kernel, by decide⟩
  | 4, _ => exact ⟨tShi, rfl, by decide +kernel, by decide +kernel, by decide +kernel, by decide⟩
theorem kind_ok {K : ByteArray} (h : OkKind K) {x : Nat} (hx : x ≤ 1099511627775) : okFile x K.data.toList = true := ok_yes (by omega) (by omega) h.1 h.2.1
theorem name_list {K : ByteArray} (h : OkKind K) {x : Nat} (hx : x ≤ 1099511627775) : (fileV x K).data.toList = fileL x K.data.toList := by
  unfold fileV
  rw [bs_list, file_ok_val (kind_ok h hx)]
theorem kb1 {K : ByteArray} (h : OkKind K) {x : Nat} (hx : x ≤ 1099511627775) (W : World) : Calls Tryd.prog 11 #[.int .i64 (x : Int), .string K] W fun e w' => e = .returned (.tuple #[.string (fileV x K), .bool true]) ∧ Below W.heap.size W w' := by
  have c := file_any W (x : Int) K (by have := h.2.2.2; omega)
  unfold Files fileO at c
  rw [kind_ok h hx] at c
  exact c
theorem size_name {K : ByteArray} (h : OkKind K) (x : Int) : (fileV x K).size ≤ 29 := by have := fileV_size x K; have := h.2.2.2; omega
theorem kb2 {K : ByteArray} (h : OkKind K) {x : Nat} (hx : x ≤ 1099511627775) (W : World) : Calls Tryd.prog 12 #[.string (fileV x K)] W fun e w' => e = .returned (.tuple #[.int .i64 (x : Int), .string K, .bool true]) ∧ Below W.heap.size W w' := by
  have c := parse_any W (fileV x K) (by have := size_name h x; omega)
  unfold Parses at c
  obtain ⟨a, b, d⟩ := parse_yes (kind_ok h hx) (name_list h hx).symm
  rw [a, b, d, bs_self] at c
  exact c
theorem kb3 {K : ByteArray} (h : OkKind K) {x : Nat} (hx : x ≤ 1099511627775) (W : World) : Calls Tryd.prog 13 #[.string (fileV x K)] W fun e w' => e = .returned (.bool true) ∧ Below W.heap.size W w' := by
  have c := right_any W (fileV x K)
  unfold Rights at c
  rw [name_list h hx, right_file h.1 (by have := h.2.2.1; omega)] at c
  exact c
theorem kb4 {K : ByteArray} (h : OkKind K) {x y : Nat} (hx : x ≤ 1099511627775) (hy : y ≤ 1099511627775) (W : World) (hT : Tabs W) : Calls Tryd.prog 14 #[.string (fileV x K), .string (fileV y K)] W fun e w' => e = .returned (.bool (decide (x < y))) ∧ Below W.heap.size W w' := by
  have c := less_any W (fileV x K) (fileV y K) hT
  unfold Lesses at c
  rw [name_list h hx, name_list h hy, less_file hx hy] at c
  exact c
theorem kb5 {K : ByteArray} (h : OkKind K) {x : Nat} (hx : x ≤ 1099511627775) (W : World) : Calls Tryd.prog 15 #[.string (fileV x K)] W fun e w' => e = .returned (.int .i64 (21 + (countB K.data.toList : Int))) ∧ Below W.heap.size W w' := by
  have c := count_any W (fileV x K) (by have := size_name h x; omega)
  unfold Counts at c
  rw [name_list h hx, count_file] at c
  have e : ((21 + countB K.data.toList : Nat) : Int) = 21 + (countB K.data.toList : Int) := by omega
  rw [e] at c
  exact c
theorem names_differ {K : ByteArray} (h : OkKind K) {x y : Nat} (hx : x ≤ 1099511627775) (hy : y ≤ 1099511627775) (hxy : x ≠ y) : ((fileV x K).toList == (fileV y K).toList) = false := by
  simp only [beq_eq_false_iff_ne, ne_eq]
  rw [Lib.toList_data, Lib.toList_data, name_list h hx, name_list h hy]
  exact fun e => hxy (file_inj hx hy e)
theorem rem5 (k : Int) : ∃ c : Int, k.tmod 5 = c ∧ -4 ≤ c ∧ c ≤ 4 := by
  refine ⟨_, rfl, ?_⟩
  cases k with
  | ofNat n =>
    show -4 ≤ ((n % 5 : Nat) : Int) ∧ ((n % 5 : Nat) : Int) ≤ 4
    omega
  | negSucc n =>
    show -4 ≤ -(((n + 1) % 5 : Nat) : Int) ∧ -(((n + 1) % 5 : Nat) : Int) ≤ 4
    omega
set_option maxHeartbeats 1000000 in
set_option maxRecDepth 100000 in
theorem back_law_any (w : World) (a b k : Int) (hk0 : -9223372036854775808 ≤ k) (hk1 : k ≤ 9223372036854775807) (hT : Tabs w) : Calls Tryd.prog 5 #[.int .i64 a, .int .i64 b, .int .i64 k] w fun e w' => e = .returned (.bool true) ∧ Below w.heap.size w w' := by
  have HT := Lib.hid hT
  clear hT
  obtain ⟨c, hc, hc0, hc1⟩ := rem5 k
  obtain ⟨j, hj⟩ : ∃ j : Nat, (c + 5) % 5 = (j : Int) := ⟨((c + 5) % 5).toNat, by omega⟩
  have hj5 : j < 5 := by omega
  obtain ⟨K, hK, hok⟩ := five w j hj5
  obtain ⟨x, hx, hx40⟩ := mask40 a
  obtain ⟨y, hy, hy40⟩ := mask40 b
  have HB0 := Lib.hid (show Below w.heap.size w (w.alloc (.cells #[.string tLog, .string tIndex, .string tSnap, .string tAborts, .string tShi] 9)) from (Below.refl _ w).alloc (Nat.le_refl _) _)
  have C1 := Lib.hid (fun W => kb1 hok hx40 W)
  have C2 := Lib.hid (fun W => kb1 hok hy40 W)
  have C3 := Lib.hid (fun W => kb2 hok hx40 W)
  have C4 := Lib.hid (fun W => kb3 hok hx40 W)
  have C5 := Lib.hid (fun W h => kb4 hok hx40 hy40 W h)
  have C6 := Lib.hid (fun W => kb5 hok hx40 W)
  have X7 := fun W => count_any W K (by have := hok.2.2.2; omega)
  unfold Counts at X7
  have hn8 : countB K.data.toList ≤ 8 := hok.2.2.1
  obtain ⟨n, hn⟩ : ∃ n, n = countB K.data.toList := ⟨_, rfl⟩
  rw [← hn] at X7 C6 hn8
  have C7 := Lib.hid X7
  have HDIF := Lib.hid (fun hxy => names_differ hok hx40 hy40 hxy)
  obtain ⟨S, hS⟩ : ∃ S, S = fileV x K := ⟨_, rfl⟩
  obtain ⟨T, hTT⟩ : ∃ T, T = fileV y K := ⟨_, rfl⟩
  have HEQ : Hid (x = y → T = S) := by
    intro e
    rw [hTT, hS, e]
  rw [← hS] at C1 C3 C4 C5 C6 HDIF
  rw [← hTT] at C2 C5 HDIF
  clear X7 hn hok hS hTT
  rcases Nat.lt_trichotomy x y with hxy | hxy | hxy
  · skip
    have hd : decide ((x : Int) < (y : Int)) = true := by simp; omega
    have hd2 : decide (x < y) = true := by simp; omega
    have he : ((x : Int) == (y : Int)) = false := by simp; omega
    have hne := HDIF.out (by omega)
    clear HDIF HEQ
    rw [hd2] at C5
    go_enter Tryd.func5, Tryd.ntmps5
    go_wp2_with fail
    refine (C1.out _).mono ?_
    rintro e w1 ⟨rfl, hb⟩
    have HB1 := Lib.hid (step HB0.out hb)
    clear hb
    go_wp2_with fail
    refine (C2.out _).mono ?_
    rintro e w2 ⟨rfl, hb⟩
    have HB2 := Lib.hid (step HB1.out hb)
    clear hb
    go_wp2_with fail
    refine (C3.out _).mono ?_
    rintro e w3 ⟨rfl, hb⟩
    have HB3 := Lib.hid (step HB2.out hb)
    clear hb
    go_wp2_with fail
    refine (C4.out _).mono ?_
    rintro e w4 ⟨rfl, hb⟩
    have HB4 := Lib.hid (step HB3.out hb)
    clear hb
    go_wp2_with fail
    refine (C5.out _ (HT.out.keep HB4.out)).mono ?_
    rintro e w5 ⟨rfl, hb⟩
    have HB5 := Lib.hid (step HB4.out hb)
    clear hb
    go_wp2_with fail
    refine (C6.out _).mono ?_
    rintro e w6 ⟨rfl, hb⟩
    have HB6 := Lib.hid (step HB5.out hb)
    clear hb
    go_wp2_with fail
    refine (C7.out _).mono ?_
    rintro e w7 ⟨rfl, hb⟩
    have HB7 := Lib.hid (step HB6.out hb)
    clear hb
    go_wp2_with fail
    refine (known_any _ (HT.out.keep HB7.out)).mono ?_
    rintro e w8 ⟨rfl, hb⟩
    have HB8 := Lib.hid (step HB7.out hb)
    clear hb
    go_wp2
    go_ret
    exact ⟨rfl, HB8.out⟩
  · skip
    obtain rfl : T = S := HEQ.out hxy
    subst hxy
    have hd2 : decide (x < x) = false := by simp
    clear HDIF HEQ
    rw [hd2] at C5
    go_enter Tryd.func5, Tryd.ntmps5
    go_wp2_with fail
    refine (C1.out _).mono ?_
    rintro e w1 ⟨rfl, hb⟩
    have HB1 := Lib.hid (step HB0.out hb)
    clear hb
    go_wp2_with fail
    refine (C2.out _).mono ?_
    rintro e w2 ⟨rfl, hb⟩
    have HB2 := Lib.hid (step HB1.out hb)
    clear hb
    go_wp2_with fail
    refine (C3.out _).mono ?_
    rintro e w3 ⟨rfl, hb⟩
    have HB3 := Lib.hid (step HB2.out hb)
    clear hb
    go_wp2_with fail
    refine (C4.out _).mono ?_
    rintro e w4 ⟨rfl, hb⟩
    have HB4 := Lib.hid (step HB3.out hb)
    clear hb
    go_wp2_with fail
    refine (C5.out _ (HT.out.keep HB4.out)).mono ?_
    rintro e w5 ⟨rfl, hb⟩
    have HB5 := Lib.hid (step HB4.out hb)
    clear hb
    go_wp2_with fail
    refine (C6.out _).mono ?_
    rintro e w6 ⟨rfl, hb⟩
    have HB6 := Lib.hid (step HB5.out hb)
    clear hb
    go_wp2_with fail
    refine (C7.out _).mono ?_
    rintro e w7 ⟨rfl, hb⟩
    have HB7 := Lib.hid (step HB6.out hb)
    clear hb
    go_wp2_with fail
    refine (known_any _ (HT.out.keep HB7.out)).mono ?_
    rintro e w8 ⟨rfl, hb⟩
    have HB8 := Lib.hid (step HB7.out hb)
    clear hb
    go_wp2
    go_ret
    exact ⟨rfl, HB8.out⟩
  · skip
    have hd : decide ((x : Int) < (y : Int)) = false := by simp; omega
    have hd2 : decide (x < y) = false := by simp; omega
    have he : ((x : Int) == (y : Int)) = false := by simp; omega
    have hne := HDIF.out (by omega)
    clear HDIF HEQ
    rw [hd2] at C5
    go_enter Tryd.func5, Tryd.ntmps5
    go_wp2_with fail
    refine (C1.out _).mono ?_
    rintro e w1 ⟨rfl, hb⟩
    have HB1 := Lib.hid (step HB0.out hb)
    clear hb
    go_wp2_with fail
    refine (C2.out _).mono ?_
    rintro e w2 ⟨rfl, hb⟩
    have HB2 := Lib.hid (step HB1.out hb)
    clear hb
    go_wp2_with fail
    refine (C3.out _).mono ?_
    rintro e w3 ⟨rfl, hb⟩
    have HB3 := Lib.hid (step HB2.out hb)
    clear hb
    go_wp2_with fail
    refine (C4.out _).mono ?_
    rintro e w4 ⟨rfl, hb⟩
    have HB4 := Lib.hid (step HB3.out hb)
    clear hb
    go_wp2_with fail
    refine (C5.out _ (HT.out.keep HB4.out)).mono ?_
    rintro e w5 ⟨rfl, hb⟩
    have HB5 := Lib.hid (step HB4.out hb)
    clear hb
    go_wp2_with fail
    refine (C6.out _).mono ?_
    rintro e w6 ⟨rfl, hb⟩
    have HB6 := Lib.hid (step HB5.out hb)
    clear hb
    go_wp2_with fail
    refine (C7.out _).mono ?_
    rintro e w7 ⟨rfl, hb⟩
    have HB7 := Lib.hid (step HB6.out hb)
    clear hb
    go_wp2_with fail
    refine (known_any _ (HT.out.keep HB7.out)).mono ?_
    rintro e w8 ⟨rfl, hb⟩
    have HB8 := Lib.hid (step HB7.out hb)
    clear hb
    go_wp2
    go_ret
    exact ⟨rfl, HB8.out⟩
end Go.Proofs.YticplcnkaapmgaaDoor
