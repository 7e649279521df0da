/- The contract of the code's Parse, and what it is made of: Cut at a dot, Clone, number. -/
import Derived.Test.YticplcnkaapmgaaDoorFile
import Derived.BigQuiet
import Derived.Deep.QuietTactic
import Derived.Lib.Hide
namespace Go.Proofs.YticplcnkaapmgaaDoor
open Go.RowKit
open Go.RuneMath
set_option linter.unusedVariables false

def cutF (l : List UInt8) : List UInt8 := l.takeWhile (· != 46)
def cutK (l : List UInt8) : List UInt8 := (l.dropWhile (· != 46)).drop 1
theorem idx_miss : ∀ (l : List UInt8), Lib.indexByte l 46 = -1 → cutF l = l ∧ cutK l = []
  | [], _ => ⟨rfl, rfl⟩
  | b :: l, h => by
    have hg := Lib.indexByte_ge l 46
    unfold Lib.indexByte at h
    by_cases hb : b = 46
    · subst hb; simp at h
    · have h1 : (b == 46) = false := by simpa using hb
      rw [h1] at h
      by_cases h2 : Lib.indexByte l 46 = -1
      · obtain ⟨e1, e2⟩ := idx_miss l h2
        unfold cutF cutK at *
        have h3 : (b != 46) = true := by simpa using hb
        rw [List.takeWhile_cons, List.dropWhile_cons, h3, if_pos rfl, if_pos rfl, e1, e2]
        exact ⟨rfl, rfl⟩
      · have h3 : (Lib.indexByte l 46 == -1) = false := by simpa using h2
        rw [h3] at h
        simp at h
        omega
theorem idx_hit : ∀ (l : List UInt8) (i : Nat), Lib.indexByte l 46 = (i : Int) → i < l.length ∧ cutF l = l.take i ∧ cutK l = l.drop (i + 1)
  | [], i, h => by simp [Lib.indexByte] at h
  | b :: l, i, h => by
    unfold Lib.indexByte at h
    by_cases hb : b = 46
    · subst hb
      simp at h
      obtain rfl : i = 0 := by omega
      exact ⟨by simp, by simp [cutF], by simp [cutK]⟩
    · have h1 : (b == 46) = false := by simpa using hb
      rw [h1] at h
      by_cases h2 : Lib.indexByte l 46 = -1
      · rw [h2] at h
        simp at h
      · have h3 : (Lib.indexByte l 46 == -1) = false := by simpa using h2
        rw [h3] at h
        simp at h
        obtain ⟨j, rfl⟩ : ∃ j, i = j + 1 := ⟨i - 1, by have := Lib.indexByte_ge l 46; omega⟩
        obtain ⟨e0, e1, e2⟩ := idx_hit l j (by omega)
        unfold cutF cutK at *
        have h4 : (b != 46) = true := by simpa using hb
        rw [List.takeWhile_cons, List.dropWhile_cons, h4, if_pos rfl, if_pos rfl, e1, e2]
        exact ⟨by simpa using e0, by rw [List.take_succ_cons], by rw [List.drop_succ_cons]⟩
theorem cut_digits : ∀ (d k : List UInt8), (∀ c ∈ d, 48 ≤ c.toNat ∧ c.toNat ≤ 57) → cutF (d ++ 46 :: k) = d ∧ cutK (d ++ 46 :: k) = k
  | [], k, _ => ⟨by simp [cutF], by simp [cutK]⟩
  | c :: d, k, h => by
    obtain ⟨e1, e2⟩ := cut_digits d k (fun x hx => h x (by simp [hx]))
    have hc : (c != 46) = true := by
      have := h c (by simp)
      simp
      intro e
      subst e
      simp at this
    unfold cutF cutK at *
    rw [List.cons_append, List.takeWhile_cons, List.dropWhile_cons, hc, if_pos rfl, if_pos rfl, e1, e2]
    exact ⟨rfl, rfl⟩
theorem cut_file (n : Nat) (k : List UInt8) : cutF (fileL n k) = dig n 20 ∧ cutK (fileL n k) = k := cut_digits _ _ (dig_all n 20)

def Cuts (s : ByteArray) (w : World) (e : Ending) (w' : World) : Prop := ∃ o : Bool, e = .returned (.tuple #[.string (bs (cutF s.data.toList)), .string (bs (cutK s.data.toList)), .bool o]) ∧ Below w.heap.size w w'
theorem cuts_mk {s F K : ByteArray} {o : Bool} {w w' : World} (hF : F = bs (cutF s.data.toList)) (hK : K = bs (cutK s.data.toList)) (hb : Below w.heap.size w w') : Cuts s w (.returned (.tuple #[.string F, .string K, .bool o])) w' := ⟨o, by rw [hF, hK], hb⟩
theorem bs_take (s : ByteArray) (i : Nat) : s.extract 0 i = bs (s.data.toList.take i) := by
  conv => lhs; rw [← bs_self (s.extract 0 i)]
  congr 1
  rw [Lib.extract_data, List.drop_zero, Nat.sub_zero]
theorem drop_data (s : ByteArray) (i : Nat) : (s.extract i s.size).data.toList = s.data.toList.drop i := by
  rw [Lib.extract_data, List.take_of_length_le (by rw [List.length_drop, ← Lib.size_eq]; exact Nat.le_refl _)]
theorem bs_drop (s : ByteArray) (i : Nat) : s.extract i s.size = bs (s.data.toList.drop i) := by
  conv => lhs; rw [← bs_self (s.extract i s.size)]
  rw [drop_data]
theorem below_drewN (w : World) (n : Nat) : Below w.heap.size w (w.drewN n) := by
  induction n with
  | zero => exact Below.refl _ _
  | succ n ih => exact ih.drew
set_option maxHeartbeats 400000 in
set_option maxRecDepth 100000 in
theorem lite_cut_any (w : World) (s : ByteArray) (hs : s.size ≤ 1073741824) : Calls Tryd.prog 36 #[.string s, .string ⟨#[46]⟩] w (Cuts s w) := by
  have CI := Lib.hid (fun W => Tryd.stringslite_Index_one s 46 W)
  rcases (show Lib.indexByte s.data.toList 46 < 0 ∨ 0 ≤ Lib.indexByte s.data.toList 46 by omega) with hneg | hpos
  · have hm1 : Lib.indexByte s.data.toList 46 = -1 := by have := Lib.indexByte_ge s.data.toList 46; omega
    obtain ⟨e1, e2⟩ := idx_miss _ hm1
    have HF : Hid (s = bs (cutF s.data.toList)) := by show _ = _; rw [e1, bs_self]
    have HK : Hid ((⟨#[]⟩ : ByteArray) = bs (cutK s.data.toList)) := by show _ = _; rw [e2]; rfl
    have HM := Lib.hid hm1
    clear hm1 e1 e2 hneg
    go_enter Tryd.func36, Tryd.ntmps36
    go_wp2_with fail
    refine (CI.out _).mono ?_
    rintro e w' ⟨rfl, rfl⟩
    rw [HM.out]
    go_wp2
    go_ret3
    exact cuts_mk HF.out HK.out (Below.refl _ _)
  · obtain ⟨i, hi⟩ : ∃ i : Nat, Lib.indexByte s.data.toList 46 = i := ⟨(Lib.indexByte s.data.toList 46).toNat, by omega⟩
    obtain ⟨hil, e1, e2⟩ := idx_hit _ _ hi
    have hsz : i < s.size := by rw [Lib.size_eq]; exact hil
    have HF : Hid (s.extract 0 i = bs (cutF s.data.toList)) := by show _ = _; rw [e1, bs_take]
    have HK : Hid (s.extract (i + 1) s.size = bs (cutK s.data.toList)) := by show _ = _; rw [e2, bs_drop]
    have HM := Lib.hid hi
    clear hi e1 e2 hil hpos
    go_enter Tryd.func36, Tryd.ntmps36
    go_wp2_with fail
    refine (CI.out _).mono ?_
    rintro e w' ⟨rfl, rfl⟩
    rw [HM.out]
    have hw1 : IntKind.i64.wrap ((i : Int) + 1) = (i : Int) + 1 := IntWalk.i64_in _ (by omega)
    go_wp2
    go_quiet (fail)
    go_wp2
    go_ret3
    exact cuts_mk HF.out HK.out (below_drewN _ _)
set_option maxHeartbeats 400000 in
theorem cut_any (w : World) (s : ByteArray) (hs : s.size ≤ 1073741824) : Calls Tryd.prog 25 #[.string s, .string ⟨#[46]⟩] w (Cuts s w) := by
  have CI := Lib.hid (fun W => lite_cut_any W s hs)
  go_enter Tryd.func25, Tryd.ntmps25
  go_wp2_with fail
  refine (CI.out _).mono ?_
  rintro e w1 ⟨o, rfl, hb1⟩
  have HB1 := Lib.hid hb1
  clear hb1
  go_wp2
  go_ret3
  exact ⟨o, rfl, HB1.out⟩
def Clones (s : ByteArray) (w : World) (e : Ending) (w' : World) : Prop := e = .returned (.string s) ∧ Below w.heap.size w w'
set_option maxHeartbeats 400000 in
theorem clone_any (w : World) (s : ByteArray) (hs : s.size ≤ 1073741824) : Calls Tryd.prog 27 #[.string s] w (Clones s w) := by
  have CI := Lib.hid (fun W => Tryd.stringslite_Clone s W (by omega))
  go_enter Tryd.func27, Tryd.ntmps27
  go_wp2_with fail
  refine (CI.out _).mono ?_
  rintro e w1 ⟨rfl, hb1⟩
  have HB1 := Lib.hid hb1
  clear hb1
  go_wp2
  go_ret
  exact ⟨rfl, HB1.out⟩

/-! ### the number in front -/
def numO (l : List UInt8) : Bool := (numR 0 (runes l)).isSome
def numV (l : List UInt8) : Nat := (numR 0 (runes l)).getD 0
def Nums (s : ByteArray) (w : World) (e : Ending) (w' : World) : Prop := e = .returned (.tuple #[.int .i64 (numV s.data.toList : Nat), .bool (numO s.data.toList)]) ∧ Below w.heap.size w w'
theorem nums_no {s : ByteArray} {w w' : World} (h : numR 0 (runes s.data.toList) = none) (hb : Below w.heap.size w w') : Nums s w (.returned (.tuple #[.int .i64 0, .bool false])) w' := by
  refine ⟨?_, hb⟩
  unfold numV numO
  rw [h]
  rfl
theorem nums_yes {s : ByteArray} {w w' : World} {n : Nat} (h : numR 0 (runes s.data.toList) = some n) (hb : Below w.heap.size w w') : Nums s w (.returned (.tuple #[.int .i64 (n : Int), .bool true])) w' := by
  refine ⟨?_, hb⟩
  unfold numV numO
  rw [h]
  rfl
theorem num_bad {n r : Nat} {tl : List Nat} (h : digitR r = false) : numR n (r :: tl) = none := by
  unfold digitR at h
  rw [numR, if_neg (by simpa using h)]
theorem num_big {n r : Nat} {tl : List Nat} (h : digitR r = true) (h2 : 1099511627776 < 10 * n + (r - 48)) : numR n (r :: tl) = none := by
  unfold digitR at h
  rw [numR, if_pos (by simpa using h), if_pos h2]
theorem num_next {n r : Nat} {tl : List Nat} (h : digitR r = true) (h2 : ¬ 1099511627776 < 10 * n + (r - 48)) : numR n (r :: tl) = numR (10 * n + (r - 48)) tl := by
  unfold digitR at h
  rw [numR, if_pos (by simpa using h), if_neg h2]
set_option maxHeartbeats 400000 in
set_option maxRecDepth 100000 in
theorem number_any (w : World) (s : ByteArray) : Calls Tryd.prog 26 #[.string s] w (Nums s w) := by
  go_enter Tryd.func26, Tryd.ntmps26
  go_wp2
  go_loopw [4] (fun v wr => ∃ pos n : Nat, ItAt wr w.heap.size s pos ∧ Below w.heap.size w wr ∧ v = .int .i64 n ∧ n ≤ 1099511627776 ∧ numR 0 (runes s.data.toList) = numR n (rs s pos)) (fun _ wr => s.size - wr.iterPos w.heap.size)
  case atStart => exact ⟨0, 0, it_start w s, (Below.refl _ w).alloc (Nat.le_refl _) _, rfl, by omega, by rw [rs_zero]⟩
  case round =>
    obtain ⟨pos, n, hit, hbw, rfl, hn, hnr⟩ := hrel
    have HI := Lib.hid hit
    have HB := Lib.hid hbw
    have HN := Lib.hid hnr
    clear hit hbw hnr
    by_cases hp : pos < s.size
    · have hnx : ∀ ty, (Instr.next (.pointer (some ⟨w.heap.size, 0, none⟩)) true ty).run Tryd.prog wr = _ := fun ty => Lib.run_next_any_at wr w.heap.size s pos ty HI.out hp
      have HW := Lib.hid (Lib.width_pos s pos)
      have hst := HN.out
      rw [rs_step hp] at hst
      have hr4 := Lib.rune_le s pos
      obtain ⟨r, hr⟩ : ∃ r, r = (Utf8.decode s pos).1 := ⟨_, rfl⟩
      obtain ⟨k, hk⟩ : ∃ k, k = (Utf8.decode s pos).2 := ⟨_, rfl⟩
      rw [← hr, ← hk] at hst
      rw [← hr] at hr4
      rw [← hk] at HW
      simp only [← hr, ← hk] at hnx
      have HT := Lib.hid hst
      clear hst hr hk
      have HB2 := Lib.hid (Lib.below_iterAt HB.out (Nat.le_refl _) s (pos + k))
      have HI2 := Lib.hid (it_next HI.out (pos + k))
      obtain ⟨d, hd⟩ : ∃ d, d = digitR r := ⟨_, rfl⟩
      have CA0 := fun W => digit_any W r
      rw [← hd] at CA0
      have CA := Lib.hid CA0
      have HK := Lib.hid hd
      clear CA0 hd
      cases d
      · have HF : Hid (numR 0 (runes s.data.toList) = none) := by
          show _ = _
          rw [HT.out, num_bad HK.out.symm]
        go_wp2_with fail
        refine (CA.out _).mono ?_
        rintro e w' ⟨rfl, rfl⟩
        go_wp2
        go_ret2
        exact nums_no HF.out HB2.out
      · have hr48 : 48 ≤ r ∧ r ≤ 57 := by have := HK.out; unfold digitR at this; simpa using this.symm
        obtain ⟨h48, h57⟩ := hr48
        obtain ⟨c, rfl⟩ : ∃ c, r = 48 + c := ⟨r - 48, by omega⟩
        have hc9 : c ≤ 9 := by omega
        have hsub : ((48 + c : Nat) : Int) - 48 = (c : Int) := by omega
        obtain ⟨m, hm⟩ : ∃ m, m = 10 * n + (48 + c - 48) := ⟨_, rfl⟩
        have hmz : 10 * (n : Int) + (c : Int) = (m : Int) := by omega
        have hmb : m ≤ 10995116277769 := by omega
        by_cases hbig : 1099511627776 < m
        · have HF : Hid (numR 0 (runes s.data.toList) = none) := by
            show _ = _
            rw [HT.out, num_big HK.out.symm (by rw [← hm]; exact hbig)]
          clear hm
          go_wp2_with fail
          refine (CA.out _).mono ?_
          rintro e w' ⟨rfl, rfl⟩
          go_wp2
          all_goals first
            | (exfalso; omega)
            | (go_ret2; exact nums_no HF.out HB2.out)
        · have HF : Hid (numR 0 (runes s.data.toList) = numR m (rs s (pos + k))) := by
            show _ = _
            rw [HT.out, num_next HK.out.symm (by rw [← hm]; exact hbig), ← hm]
          have hml : m ≤ 1099511627776 := by omega
          clear hm hbig
          go_wp2_with fail
          refine (CA.out _).mono ?_
          rintro e w' ⟨rfl, rfl⟩
          go_wp2
          all_goals first
            | (exfalso; omega)
            | (go_roundw
               case rel => exact ⟨pos + k, m, HI2.out, HB2.out, by go_num, hml, HF.out⟩
               case measure =>
                 rw [it_pos HI2.out, it_pos HI.out]
                 have := HW.out
                 omega)
    · have hnx : ∀ ty, (Instr.next (.pointer (some ⟨w.heap.size, 0, none⟩)) true ty).run Tryd.prog wr = _ := fun ty => Lib.run_next_end_at wr w.heap.size s pos ty HI.out hp
      have HF : Hid (numR 0 (runes s.data.toList) = some n) := by
        show _ = _
        rw [HN.out, rs_end hp, numR]
      go_wp2
      go_ret2
      exact nums_yes HF.out HB.out

/-! ### Parse -/
def Parses (s : ByteArray) (w : World) (e : Ending) (w' : World) : Prop := e = .returned (.tuple #[.int .i64 (parseN s.data.toList : Nat), .string (bs (parseS s.data.toList)), .bool (parseK s.data.toList)]) ∧ Below w.heap.size w w'
theorem parses_no {s : ByteArray} {w w' : World} (h : parseK s.data.toList = false) (hb : Below w.heap.size w w') : Parses s w (.returned (.tuple #[.int .i64 0, .string ⟨#[]⟩, .bool false])) w' := by
  refine ⟨?_, hb⟩
  rw [(parse_no h).1, (parse_no h).2, h]
  rfl
theorem parses_yes {s K : ByteArray} {n : Nat} {w w' : World} (h : parseK s.data.toList = true ∧ parseN s.data.toList = n ∧ bs (parseS s.data.toList) = K) (hb : Below w.heap.size w w') : Parses s w (.returned (.tuple #[.int .i64 (n : Int), .string K, .bool true])) w' := by
  refine ⟨?_, hb⟩
  rw [h.2.1, h.2.2, h.1]
theorem file_ok_val {n : Nat} {k : List UInt8} (h : okFile n k = true) : fileS n k = fileL n k := by
  unfold fileS
  rw [if_pos h]
  rfl
theorem parse_all {l : List UInt8} (h : parseK l = true) : numO (cutF l) = true ∧ fileO (numV (cutF l) : Nat) (bs (cutK l)) = true ∧ fileV (numV (cutF l) : Nat) (bs (cutK l)) = bs l := by
  obtain ⟨h1, h2⟩ := parse_is h
  obtain ⟨n, hn⟩ : ∃ n, n = valD (l.take 20) := ⟨_, rfl⟩
  obtain ⟨k, hk⟩ : ∃ k, k = l.drop 21 := ⟨_, rfl⟩
  rw [← hn, ← hk] at h1 h2
  subst h2
  have e := num_dig (ok_nat h1).1
  rw [(cut_file n k).1, (cut_file n k).2]
  have ev : numV (dig n 20) = n := by unfold numV; rw [e]; rfl
  have eo : numO (dig n 20) = true := by unfold numO; rw [e]; rfl
  rw [ev, eo]
  refine ⟨rfl, h1, ?_⟩
  unfold fileV
  rw [bs_list, file_ok_val h1]
theorem parse_these {l : List UInt8} {n : Nat} {K S : ByteArray} (hS : S = fileV (n : Nat) K) (h2 : fileO (n : Nat) K = true) (h3 : S = bs l) : parseK l = true ∧ parseN l = n ∧ bs (parseS l) = K := by
  unfold fileO at h2
  have e : fileL n K.data.toList = l := by
    rw [hS] at h3
    unfold fileV at h3
    rw [file_ok_val h2] at h3
    exact bs_inj h3
  obtain ⟨a, b, c⟩ := parse_yes h2 e
  exact ⟨a, b, by rw [c, bs_self]⟩
theorem cutK_len (l : List UInt8) : (cutK l).length ≤ l.length := by
  unfold cutK
  rw [List.length_drop]
  have := List.Sublist.length_le (List.dropWhile_sublist (· != (46 : UInt8)) (l := l))
  omega
theorem no_of {b : Bool} {l : List UInt8} (h : parseK l = true → b = true) (hb : b = false) : parseK l = false := by
  cases hp : parseK l
  · rfl
  · have := h hp
    rw [hb] at this
    cases this
set_option maxHeartbeats 400000 in
set_option maxRecDepth 100000 in
theorem parse_any (w : World) (s : ByteArray) (hs : s.size ≤ 1073741824) : Calls Tryd.prog 12 #[.string s] w (Parses s w) := by
  have CC0 := fun W => cut_any W s hs
  unfold Cuts at CC0
  have HKs : (cutK s.data.toList).length ≤ 1073741824 := by
    have := cutK_len s.data.toList
    rw [← Lib.size_eq] at this
    omega
  have PA := Lib.hid (parse_all (l := s.data.toList))
  obtain ⟨F, hF⟩ : ∃ F, F = bs (cutF s.data.toList) := ⟨_, rfl⟩
  obtain ⟨K, hK⟩ : ∃ K, K = bs (cutK s.data.toList) := ⟨_, rfl⟩
  have hKz : K.size ≤ 1073741824 := by rw [hK, bs_size]; exact HKs
  have CN0 := fun W => number_any W F
  unfold Nums at CN0
  have eF : F.data.toList = cutF s.data.toList := by rw [hF]; rfl
  rw [eF] at CN0
  rw [← hF, ← hK] at CC0
  have PA2 : Hid (parseK s.data.toList = true → numO (cutF s.data.toList) = true ∧ fileO (numV (cutF s.data.toList) : Nat) K = true ∧ fileV (numV (cutF s.data.toList) : Nat) K = s) := by
    intro h
    have := PA.out h
    rw [← hK, bs_self] at this
    exact this
  clear PA HKs eF hF hK
  obtain ⟨no, hno⟩ : ∃ no, no = numO (cutF s.data.toList) := ⟨_, rfl⟩
  obtain ⟨nv, hnv⟩ : ∃ nv, nv = numV (cutF s.data.toList) := ⟨_, rfl⟩
  rw [← hno, ← hnv] at CN0 PA2
  have CC := Lib.hid CC0
  have CN := Lib.hid CN0
  have CK := Lib.hid (fun W => clone_any W K hKz)
  have CF0 := fun W => file_any W (nv : Int) K hKz
  unfold Files at CF0
  obtain ⟨S, hS⟩ : ∃ S, S = fileV (nv : Int) K := ⟨_, rfl⟩
  obtain ⟨o, ho⟩ : ∃ o, o = fileO (nv : Int) K := ⟨_, rfl⟩
  rw [← hS, ← ho] at CF0 PA2
  have HS := Lib.hid hS
  have HO := Lib.hid ho
  have CF := Lib.hid CF0
  clear CC0 CN0 CF0 hno hnv hS ho hKz
  cases no
  · have HF := Lib.hid (no_of (fun h => (PA2.out h).1) rfl)
    go_enter Tryd.func12, Tryd.ntmps12
    go_wp2_with fail
    refine (CC.out _).mono ?_
    rintro e w1 ⟨x, rfl, hb1⟩
    have HB1 := Lib.hid hb1
    clear hb1
    go_wp2_with fail
    refine (CN.out _).mono ?_
    rintro e w2 ⟨rfl, hb2⟩
    have HB2 := Lib.hid hb2
    clear hb2
    go_wp2
    go_ret3
    exact parses_no HF.out (step HB1.out HB2.out)
  · cases o
    · have HF := Lib.hid (no_of (fun h => (PA2.out h).2.1) rfl)
      go_enter Tryd.func12, Tryd.ntmps12
      go_wp2_with fail
      refine (CC.out _).mono ?_
      rintro e w1 ⟨x, rfl, hb1⟩
      have HB1 := Lib.hid hb1
      clear hb1
      go_wp2_with fail
      refine (CN.out _).mono ?_
      rintro e w2 ⟨rfl, hb2⟩
      have HB2 := Lib.hid hb2
      clear hb2
      go_wp2_with fail
      refine (CF.out _).mono ?_
      rintro e w3 ⟨rfl, hb3⟩
      have HB3 := Lib.hid hb3
      clear hb3
      go_wp2
      go_ret3
      exact parses_no HF.out (step (step HB1.out HB2.out) HB3.out)
    · by_cases hSs : S = s
      · have HF := Lib.hid (parse_these HS.out HO.out.symm (by rw [hSs, bs_self]))
        rw [hSs] at CF
        clear PA2 HS hSs
        go_enter Tryd.func12, Tryd.ntmps12
        go_wp2_with fail
        refine (CC.out _).mono ?_
        rintro e w1 ⟨x, rfl, hb1⟩
        have HB1 := Lib.hid hb1
        clear hb1
        go_wp2_with fail
        refine (CN.out _).mono ?_
        rintro e w2 ⟨rfl, hb2⟩
        have HB2 := Lib.hid hb2
        clear hb2
        go_wp2_with fail
        refine (CF.out _).mono ?_
        rintro e w3 ⟨rfl, hb3⟩
        have HB3 := Lib.hid hb3
        clear hb3
        go_wp2_with fail
        refine (CK.out _).mono ?_
        rintro e w4 ⟨rfl, hb4⟩
        have HB4 := Lib.hid hb4
        clear hb4
        go_wp2
        go_ret3
        exact parses_yes HF.out (step (step (step HB1.out HB2.out) HB3.out) HB4.out)
      · have HF : Hid (parseK s.data.toList = false) := by
          show _ = _
          cases hp : parseK s.data.toList
          · rfl
          · exact absurd (PA2.out hp).2.2 hSs
        have hne : (S.toList == s.toList) = false := by
          simp only [beq_eq_false_iff_ne, ne_eq]
          rw [Lib.toList_data, Lib.toList_data]
          intro e
          apply hSs
          rw [← bs_self S, ← bs_self s, e]
        clear hSs
        go_enter Tryd.func12, Tryd.ntmps12
        go_wp2_with fail
        refine (CC.out _).mono ?_
        rintro e w1 ⟨x, rfl, hb1⟩
        have HB1 := Lib.hid hb1
        clear hb1
        go_wp2_with fail
        refine (CN.out _).mono ?_
        rintro e w2 ⟨rfl, hb2⟩
        have HB2 := Lib.hid hb2
        clear hb2
        go_wp2_with fail
        refine (CF.out _).mono ?_
        rintro e w3 ⟨rfl, hb3⟩
        have HB3 := Lib.hid hb3
        clear hb3
        go_wp2
        go_ret3
        exact parses_no HF.out (step (step HB1.out HB2.out) HB3.out)
end Go.Proofs.YticplcnkaapmgaaDoor
