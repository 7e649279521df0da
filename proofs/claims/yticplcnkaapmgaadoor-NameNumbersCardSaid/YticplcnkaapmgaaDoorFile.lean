/- The contracts of File, of the code and of the document's own answer. -/
import Derived.Test.YticplcnkaapmgaaDoorUpper
import Derived.Test.YticplcnkaapmgaaDoorBytes
namespace Go.Proofs.YticplcnkaapmgaaDoor
open Go.RowKit
open Go.RuneMath
set_option linter.unusedVariables false

/-- A block that is an array of bytes. -/
def Arr (w : World) (b : Nat) (l : List UInt8) : Prop := w.heap[b]? = some (.cells (Lib.byteCells l).toArray 58 (0, 0))
theorem arr_cell {w : World} {b : Nat} {l : List UInt8} (h : Arr w b l) (i : Nat) (hi : i < l.length) : w.cell? ⟨b, i, none⟩ = some (.int .u8 ((l.getD i 0).toNat : Int)) := by
  rw [cell_of_row w b i _ _ _ h]
  simp [Lib.byteCells, hi]
theorem arr_free {w : World} {b : Nat} {l : List UInt8} (h : Arr w b l) (i : Nat) : w.frozen? ⟨b, i, none⟩ = false := frozen_of_row w b i _ _ h
theorem arr_set {w : World} {b : Nat} {l : List UInt8} (h : Arr w b l) (i : Nat) (c : UInt8) : Arr (w.setCell ⟨b, i, none⟩ (.int .u8 (c.toNat : Int))) b (l.set i c) := by
  have := heap_setCell_same w b i _ _ (.int .u8 (c.toNat : Int)) h
  unfold Arr
  rw [this]
  congr 2
  simp [Lib.byteCells]
theorem arr_byt {w : World} {b : Nat} {l : List UInt8} (h : Arr w b l) : Byt w (some ⟨b, 0, none⟩) l.length l.length (l.map (·.toNat)) := by
  refine ⟨by simp, Nat.le_refl _, ?_, .inr ⟨b, 0, rfl, fun i hi => ?_⟩⟩
  · intro x hx
    obtain ⟨c, _, rfl⟩ := List.mem_map.1 hx
    exact c.toNat_lt
  · rw [Nat.zero_add, arr_cell h i hi]
    simp [hi]
theorem str_bs (l : List UInt8) : str (l.map (·.toNat)) = bs l := by
  unfold str bs
  rw [List.map_map]
  congr 2
  conv => rhs; rw [← List.map_id l]
  apply List.map_congr_left
  intro c _
  simp
theorem set_pad {i : Nat} (hi : i < 20) (suf : List UInt8) (c : UInt8) : (List.replicate (20 - i) (0 : UInt8) ++ suf).set (19 - i) c = List.replicate (20 - (i + 1)) (0 : UInt8) ++ (c :: suf) := by
  have e : 20 - i = (20 - (i + 1)) + 1 := by omega
  rw [e, List.replicate_succ', List.append_assoc, List.set_append]
  rw [if_neg (by simp), show 19 - i - (List.replicate (20 - (i + 1)) (0 : UInt8)).length = 0 by simp]
  rfl
theorem dig_more {n m i : Nat} {suf : List UInt8} (hi : i < 20) (h : dig n 20 = dig m (20 - i) ++ suf) : dig n 20 = dig (m / 10) (20 - (i + 1)) ++ (UInt8.ofNat (48 + m % 10) :: suf) := by
  have e : 20 - i = (20 - (i + 1)) + 1 := by omega
  rw [h, e, dig, List.append_assoc]
  rfl
def PadR (n : Nat) (w wr : World) (i m : Nat) : Prop := ∃ suf : List UInt8, Arr wr w.heap.size (List.replicate (20 - i) 0 ++ suf) ∧ suf.length = i ∧ dig n 20 = dig m (20 - i) ++ suf ∧ Below w.heap.size w wr
theorem PadR.cell {n i m : Nat} {w wr : World} (h : PadR n w wr i m) (hi : i < 20) : ∃ x : Int, wr.cell? ⟨w.heap.size, 19 - i, none⟩ = some (.int .u8 x) := by
  obtain ⟨suf, ha, hs, _⟩ := h
  exact ⟨_, arr_cell ha (19 - i) (by rw [List.length_append, List.length_replicate, hs]; omega)⟩
theorem PadR.free {n i m : Nat} {w wr : World} (h : PadR n w wr i m) (j : Nat) : wr.frozen? ⟨w.heap.size, j, none⟩ = false := by
  obtain ⟨suf, ha, hs, _⟩ := h
  exact arr_free ha j
theorem PadR.next {n i m j : Nat} {w wr : World} {x : Int} (h : PadR n w wr i m) (hi : i < 20) (hj : j = 19 - i) (hx : x = 48 + (m % 10 : Nat)) : PadR n w (wr.setCell ⟨w.heap.size, j, none⟩ (.int .u8 x)) (i + 1) (m / 10) := by
  obtain ⟨suf, ha, hs, hd, hb⟩ := h
  have e : x = ((UInt8.ofNat (48 + m % 10)).toNat : Int) := by
    rw [digit_nat, hx]
    omega
  subst hj
  refine ⟨UInt8.ofNat (48 + m % 10) :: suf, ?_, by simp [hs], dig_more hi hd, hb.setCell (p := ⟨w.heap.size, 19 - i, none⟩) (Nat.le_refl _) _⟩
  rw [← set_pad hi, e]
  exact arr_set ha _ _
theorem PadR.start (n : Nat) (w : World) (o : Obj) (ho : o = .cells (Lib.byteCells (List.replicate 20 0)).toArray 58 (0, 0)) : PadR n w (w.alloc o) 0 n := by
  subst ho
  refine ⟨[], ?_, rfl, by simp, (Below.refl _ w).alloc (Nat.le_refl _) _⟩
  exact heap_alloc_new w _
theorem PadR.done {n m : Nat} {w wr : World} (h : PadR n w wr 20 m) : Byt wr (some ⟨w.heap.size, 0, none⟩) 20 20 ((dig n 20).map (·.toNat)) ∧ Below w.heap.size w wr := by
  obtain ⟨suf, ha, hs, hd, hb⟩ := h
  rw [show 20 - 20 = 0 from rfl, List.replicate_zero, List.nil_append] at ha
  rw [show 20 - 20 = 0 from rfl, dig, List.nil_append] at hd
  refine ⟨?_, hb⟩
  have := arr_byt ha
  rw [hs] at this
  rw [hd]
  exact this
def padS (n : Nat) : ByteArray := bs (dig n 20)
def Pads (n : Nat) (w : World) (e : Ending) (w' : World) : Prop := e = .returned (.string (padS n)) ∧ Below w.heap.size w w'
set_option maxHeartbeats 400000 in
set_option maxRecDepth 100000 in
theorem padded_any (w : World) (n : Nat) (hn : n ≤ 1099511627776) : Calls Tryd.prog 24 #[.int .i64 (n : Int)] w (Pads n w) := by
  go_enter Tryd.func24, Tryd.ntmps24
  go_wp2
  go_loopw [0, 5] (fun v0 v5 wr => ∃ (i m : Nat), i ≤ 20 ∧ v0 = .int .i64 m ∧ v5 = .int .i64 i ∧ m ≤ 1099511627776 ∧ PadR n w wr i m) (fun _ v5 _ => 20 - (intOf v5).toNat)
  case atStart =>
    refine ⟨0, n, by omega, rfl, rfl, hn, ?_⟩
    exact PadR.start n w _ rfl
  case round =>
    obtain ⟨i, m, hi, rfl, rfl, hm, hpad⟩ := hrel
    have HP := Lib.hid hpad
    clear hpad
    by_cases h20 : i < 20
    · obtain ⟨x, hc⟩ := HP.out.cell h20
      have hf := HP.out.free (19 - i)
      obtain ⟨d, hde⟩ : ∃ d, d = m % 10 := ⟨_, rfl⟩
      obtain ⟨q, hqe⟩ : ∃ q, q = m / 10 := ⟨_, rfl⟩
      have hd10 : d < 10 := by omega
      have hq10 : q ≤ 1099511627776 := by omega
      have hsub : (19 : Int) - (i : Int) = ((19 - i : Nat) : Int) := by omega
      have hmod : (m : Int) % 10 = (d : Int) := by omega
      have hdiv : (m : Int) / 10 = (q : Int) := by omega
      have hlt : 19 - i < 20 := by omega
      have HDE := Lib.hid hde
      have HQE := Lib.hid hqe
      clear hde hqe
      obtain ⟨j, hj⟩ : ∃ j, j = 19 - i := ⟨_, rfl⟩
      rw [← hj] at hsub hc hf hlt
      have HJ := Lib.hid hj
      clear hj
      go_wp2
      go_roundw
      case rel => exact ⟨i + 1, q, by omega, rfl, by go_num, hq10, by rw [HQE.out]; exact HP.out.next h20 HJ.out (by rw [← HDE.out])⟩
      case measure => simp [intOf]; omega
    · obtain rfl : i = 20 := by omega
      have hcv := run_str_at HP.out.done.1 (str_bs _).symm
      rw [show bs (dig n 20) = padS n from rfl] at hcv
      go_wp2
      go_ret
      exact ⟨rfl, HP.out.done.2⟩

/-! ### File -/
def fileV (n : Int) (k : ByteArray) : ByteArray := bs (fileS n k.data.toList)
def fileO (n : Int) (k : ByteArray) : Bool := okFile n k.data.toList
def Files (n : Int) (k : ByteArray) (w : World) (e : Ending) (w' : World) : Prop := e = .returned (.tuple #[.string (fileV n k), .bool (fileO n k)]) ∧ Below w.heap.size w w'
theorem files_no {n : Int} {k : ByteArray} {w w' : World} (h : okFile n k.data.toList = false) (hb : Below w.heap.size w w') : Files n k w (.returned (.tuple #[.string ⟨#[]⟩, .bool false])) w' := by
  refine ⟨?_, hb⟩
  unfold fileV fileO fileS
  rw [h]
  rfl
theorem file_val {n : Nat} {k : ByteArray} (h : okFile n k.data.toList = true) : padS n ++ ⟨#[46]⟩ ++ k = fileV n k := by
  unfold fileV fileS
  rw [if_pos h]
  conv => lhs; rw [← bs_self k]
  show bs (dig n 20) ++ bs [46] ++ bs k.data.toList = _
  rw [bs_append, bs_append, List.append_assoc]
  rfl
theorem files_yes {n : Nat} {k : ByteArray} {w w' : World} {s : ByteArray} (h : okFile n k.data.toList = true) (hs : s = padS n ++ ⟨#[46]⟩ ++ k) (hb : Below w.heap.size w w') : Files n k w (.returned (.tuple #[.string s, .bool true])) w' := by
  refine ⟨?_, hb⟩
  rw [hs, file_val h]
  unfold fileO
  rw [h]
theorem padS_size (n : Nat) : (padS n).size = 20 := by unfold padS; rw [bs_size, dig_len]
theorem contains_index : ∀ (l : List UInt8) (c : UInt8), decide (0 ≤ Lib.indexByte l c) = l.contains c
  | [], c => by simp [Lib.indexByte]
  | b :: l, c => by
    have ih := contains_index l c
    have hg := Lib.indexByte_ge l c
    unfold Lib.indexByte
    by_cases h : b = c
    · subst h
      simp
    · have h1 : (b == c) = false := by simpa using h
      have h2 : (c == b) = false := by simpa using fun e => h e.symm
      rw [h1, List.contains_cons, h2, Bool.false_or, ← ih]
      by_cases h3 : Lib.indexByte l c = -1
      · rw [h3]
        rfl
      · have h4 : (Lib.indexByte l c == -1) = false := by simpa using h3
        rw [h4, Bool.eq_iff_iff]
        simp
        omega
theorem ok_neg {n : Int} {l : List UInt8} (h : n < 0 ∨ 1099511627776 < n) : okFile n l = false := by
  unfold okFile
  rcases h with h | h
  · rw [decide_eq_false (show ¬ 0 ≤ n by omega)]; rfl
  · rw [decide_eq_false (show ¬ n ≤ 1099511627776 by omega)]; simp
theorem ok_right {n : Int} {l : List UInt8} (h : rightB l = false) : okFile n l = false := by
  unfold okFile
  rw [h]; simp
theorem ok_dot {n : Int} {l : List UInt8} (h : l.contains 46 = true) : okFile n l = false := by
  unfold okFile
  rw [h]; simp
theorem ok_yes {n : Int} {l : List UInt8} (h0 : 0 ≤ n) (h1 : n ≤ 1099511627776) (h2 : rightB l = true) (h3 : l.contains 46 = false) : okFile n l = true := by
  unfold okFile
  rw [h2, h3, decide_eq_true h0, decide_eq_true h1]; rfl
set_option maxHeartbeats 400000 in
set_option maxRecDepth 100000 in
theorem file_any (w : World) (n : Int) (k : ByteArray) (hk : k.size ≤ 1073741824) : Calls Tryd.prog 11 #[.int .i64 n, .string k] w (Files n k w) := by
  by_cases h0 : n < 0
  · have HF := Lib.hid (ok_neg (l := k.data.toList) (.inl h0))
    go_enter Tryd.func11, Tryd.ntmps11
    go_wp2
    go_ret2
    exact files_no HF.out (Below.refl _ _)
  · by_cases h1 : 1099511627776 < n
    · have HF := Lib.hid (ok_neg (l := k.data.toList) (.inr h1))
      go_enter Tryd.func11, Tryd.ntmps11
      go_wp2
      go_ret2
      exact files_no HF.out (Below.refl _ _)
    · obtain ⟨m, rfl⟩ : ∃ m : Nat, n = m := ⟨n.toNat, by omega⟩
      have hm : m ≤ 1099511627776 := by omega
      clear h0 h1
      have CR0 := fun W => right_any W k
      unfold Rights at CR0
      obtain ⟨r, hr⟩ : ∃ r, r = rightB k.data.toList := ⟨_, rfl⟩
      rw [← hr] at CR0
      have CR := Lib.hid CR0
      have HR := Lib.hid hr
      clear CR0 hr
      cases r
      · have HF := Lib.hid (ok_right (n := m) HR.out.symm)
        go_enter Tryd.func11, Tryd.ntmps11
        go_wp2_with fail
        refine (CR.out _).mono ?_
        rintro e w1 ⟨rfl, hb1⟩
        have HB1 := Lib.hid hb1
        clear hb1
        go_wp2
        go_ret2
        exact files_no HF.out HB1.out
      · have CC0 := fun W => Tryd.strings_Contains_one k 46 W
        rw [contains_index] at CC0
        obtain ⟨c, hc⟩ : ∃ c, c = k.data.toList.contains 46 := ⟨_, rfl⟩
        rw [← hc] at CC0
        have CC := Lib.hid CC0
        have HC := Lib.hid hc
        clear CC0 hc
        cases c
        · have HF := Lib.hid (ok_yes (n := m) (by omega) (by omega) HR.out.symm HC.out.symm)
          go_enter Tryd.func11, Tryd.ntmps11
          go_wp2_with fail
          refine (CR.out _).mono ?_
          rintro e w1 ⟨rfl, hb1⟩
          have HB1 := Lib.hid hb1
          clear hb1
          go_wp2_with fail
          refine (CC.out _).mono ?_
          rintro e w' ⟨rfl, rfl⟩
          go_wp2_with fail
          refine (padded_any _ m hm).mono ?_
          rintro e w2 ⟨rfl, hb2⟩
          have HB2 := Lib.hid hb2
          clear hb2
          obtain ⟨S, hS⟩ : ∃ S, S = padS m := ⟨_, rfl⟩
          have hz : S.size ≤ 20 := by rw [hS, padS_size]; exact Nat.le_refl _
          rw [← hS]
          have HS := Lib.hid hS
          clear hS
          go_wp2
          go_ret2
          exact files_yes HF.out (by rw [HS.out]) (step HB1.out HB2.out)
        · have HF := Lib.hid (ok_dot (n := m) HC.out.symm)
          go_enter Tryd.func11, Tryd.ntmps11
          go_wp2_with fail
          refine (CR.out _).mono ?_
          rintro e w1 ⟨rfl, hb1⟩
          have HB1 := Lib.hid hb1
          clear hb1
          go_wp2_with fail
          refine (CC.out _).mono ?_
          rintro e w' ⟨rfl, rfl⟩
          go_wp2
          go_ret2
          exact files_no HF.out HB1.out

/-! ### the document's own -/
def Dots (k : ByteArray) (w : World) (e : Ending) (w' : World) : Prop := e = .returned (.bool (k.data.toList.contains 46)) ∧ w = w'
theorem dots_mk {k : ByteArray} {w : World} {b : Bool} (h : b = k.data.toList.contains 46) : Dots k w (.returned (.bool b)) w := ⟨by rw [h], rfl⟩
theorem get_list (k : ByteArray) (i : Nat) (h : i < k.size) : k.data.toList[i]'(by rw [← Lib.size_eq]; exact h) = k[i]'h := rfl
theorem take_more (k : ByteArray) (i : Nat) (h : i < k.size) : k.data.toList.take (i + 1) = k.data.toList.take i ++ [k[i]'h] := by
  rw [List.take_succ_eq_append_getElem (by rw [← Lib.size_eq]; exact h)]
  rfl
theorem has_dot (k : ByteArray) (i : Nat) (h : i < k.size) (e : k[i]'h = 46) : k.data.toList.contains 46 = true := by
  rw [List.contains_iff_mem, ← e]
  exact Array.getElem_mem_toList (xs := k.data) h
set_option maxHeartbeats 400000 in
theorem dot_any (w : World) (k : ByteArray) (hk : k.size ≤ 1073741824) : Calls Tryd.prog 22 #[.string k] w (Dots k w) := by
  go_enter Tryd.func22, Tryd.ntmps22
  go_wp2
  go_loop [3] (fun v => ∃ i : Nat, i ≤ k.size ∧ v = .int .i64 i ∧ (k.data.toList.take i).contains 46 = false) (fun v => k.size - (intOf v).toNat)
  case atStart => exact ⟨0, Nat.zero_le _, rfl, rfl⟩
  case round =>
    obtain ⟨i, hi, rfl, hc⟩ := hrel
    have HC := Lib.hid hc
    clear hc
    by_cases hlt : i < k.size
    · have HM := Lib.hid (take_more k i hlt)
      have HD := Lib.hid (has_dot k i hlt)
      obtain ⟨c, hce⟩ : ∃ c, c = k[i]'hlt := ⟨_, rfl⟩
      have hix : k[i]'hlt = c := hce.symm
      rw [← hce] at HM HD
      clear hce
      by_cases h46 : c = 46
      · have HF := Lib.hid (HD.out h46)
        have h46z : ((c.toNat : Int) == 46) = true := by rw [h46]; rfl
        clear HD HM
        go_wp2
        go_ret
        exact dots_mk HF.out.symm
      · have HF : Hid ((k.data.toList.take (i + 1)).contains 46 = false) := by
          show _ = _
          rw [HM.out, List.contains_eq_any_beq, List.any_append, ← List.contains_eq_any_beq, HC.out]
          simpa using fun e => h46 e.symm
        have h46z : ((c.toNat : Int) == 46) = false := by
          simp only [beq_eq_false_iff_ne, ne_eq]
          intro e
          apply h46
          apply UInt8.toNat_inj.1
          show c.toNat = 46
          omega
        clear HD HM h46
        go_wp2
        go_round
        case rel => exact ⟨i + 1, by omega, by go_num, HF.out⟩
        case measure => simp [intOf]; omega
    · have HF : Hid (k.data.toList.contains 46 = false) := by
        show _ = _
        have h := HC.out
        rw [List.take_of_length_le (by rw [← Lib.size_eq]; omega)] at h
        exact h
      go_wp2
      go_ret
      exact dots_mk HF.out.symm

def RPad (n i m : Nat) (v : ByteArray) : Prop := ∃ suf : List UInt8, v = bs suf ∧ suf.length = i ∧ dig n 20 = dig m (20 - i) ++ suf
theorem RPad.start (n : Nat) : RPad n 0 n ⟨#[]⟩ := ⟨[], rfl, rfl, by simp⟩
theorem RPad.size {n i m : Nat} {v : ByteArray} (h : RPad n i m v) : v.size = i := by
  obtain ⟨suf, rfl, hs, _⟩ := h
  rw [bs_size, hs]
theorem RPad.next {n i m : Nat} {v E : ByteArray} (h : RPad n i m v) (hi : i < 20) (hE : E = Utf8.encode (48 + ((m % 10 : Nat) : Int))) : RPad n (i + 1) (m / 10) (E ++ v) := by
  obtain ⟨suf, rfl, hs, hd⟩ := h
  refine ⟨UInt8.ofNat (48 + m % 10) :: suf, ?_, by simp [hs], dig_more hi hd⟩
  have e : (48 : Int) + ((m % 10 : Nat) : Int) = ((48 + m % 10 : Nat) : Int) := by omega
  have e2 : enc (48 + m % 10) = [UInt8.ofNat (48 + m % 10)] := by
    unfold enc Lib.encodeRune
    rw [Lib.encodeRuneZ_one (by omega) (by omega)]
    simp only [List.map_cons, List.map_nil, Int.toNat_natCast]
  rw [hE, e, encode_bs (by unfold Scal; omega), bs_append, e2]
  rfl
theorem RPad.done {n m : Nat} {v : ByteArray} (h : RPad n 20 m v) : v = padS n := by
  obtain ⟨suf, rfl, hs, hd⟩ := h
  rw [show 20 - 20 = 0 from rfl, dig, List.nil_append] at hd
  unfold padS
  rw [hd]
set_option maxHeartbeats 400000 in
set_option maxRecDepth 100000 in
theorem ref_file_any (w : World) (n : Int) (k : ByteArray) (hk : k.size ≤ 1073741824) : Calls Tryd.prog 9 #[.int .i64 n, .string k] w (Files n k w) := by
  by_cases h0 : n < 0
  · have HF := Lib.hid (ok_neg (l := k.data.toList) (.inl h0))
    go_enter Tryd.func9, Tryd.ntmps9
    go_wp2
    go_ret2
    exact files_no HF.out (Below.refl _ _)
  · by_cases h1 : 1099511627776 < n
    · have HF := Lib.hid (ok_neg (l := k.data.toList) (.inr h1))
      go_enter Tryd.func9, Tryd.ntmps9
      go_wp2
      go_ret2
      exact files_no HF.out (Below.refl _ _)
    · obtain ⟨m, rfl⟩ : ∃ m : Nat, n = m := ⟨n.toNat, by omega⟩
      have hm : m ≤ 1099511627776 := by omega
      clear h0 h1
      have CR0 := fun W => ref_right_any W k (by omega)
      unfold Rights at CR0
      obtain ⟨r, hr⟩ : ∃ r, r = rightB k.data.toList := ⟨_, rfl⟩
      rw [← hr] at CR0
      have CR := Lib.hid CR0
      have HR := Lib.hid hr
      clear CR0 hr
      cases r
      · have HF := Lib.hid (ok_right (n := m) HR.out.symm)
        go_enter Tryd.func9, Tryd.ntmps9
        go_wp2_with fail
        refine (CR.out _).mono ?_
        rintro e w1 ⟨rfl, hb1⟩
        have HB1 := Lib.hid hb1
        clear hb1
        go_wp2
        go_ret2
        exact files_no HF.out HB1.out
      · have CC0 := fun W => dot_any W k hk
        unfold Dots at CC0
        obtain ⟨c, hc⟩ : ∃ c, c = k.data.toList.contains 46 := ⟨_, rfl⟩
        rw [← hc] at CC0
        have CC := Lib.hid CC0
        have HC := Lib.hid hc
        clear CC0 hc
        cases c
        · have HF := Lib.hid (ok_yes (n := m) (by omega) (by omega) HR.out.symm HC.out.symm)
          go_enter Tryd.func9, Tryd.ntmps9
          go_wp2_with fail
          refine (CR.out _).mono ?_
          rintro e w1 ⟨rfl, hb1⟩
          have HB1 := Lib.hid hb1
          clear hb1
          go_wp2_with fail
          refine (CC.out _).mono ?_
          rintro e w' ⟨rfl, rfl⟩
          go_wp2
          go_loop [0, 6, 7] (fun v0 v6 v7 => ∃ (i q : Nat) (S : ByteArray), i ≤ 20 ∧ v0 = .int .i64 q ∧ v7 = .int .i64 i ∧ v6 = .string S ∧ q ≤ 1099511627776 ∧ RPad m i q S) (fun _ _ v7 => 20 - (intOf v7).toNat)
          case atStart => exact ⟨0, m, ⟨#[]⟩, by omega, rfl, rfl, rfl, hm, RPad.start m⟩
          case round =>
            obtain ⟨i, q, S, hi, rfl, rfl, rfl, hq, hrp⟩ := hrel
            have HP := Lib.hid hrp
            have hsz : S.size ≤ 20 := by rw [hrp.size]; exact hi
            clear hrp
            by_cases h20 : i < 20
            · obtain ⟨d, hde⟩ : ∃ d, d = q % 10 := ⟨_, rfl⟩
              obtain ⟨u, hue⟩ : ∃ u, u = q / 10 := ⟨_, rfl⟩
              have hd10 : d < 10 := by omega
              have hu10 : u ≤ 1099511627776 := by omega
              have hmod : (q : Int) % 10 = (d : Int) := by omega
              have hdiv : (q : Int) / 10 = (u : Int) := by omega
              obtain ⟨E, hE⟩ : ∃ E, E = Utf8.encode (48 + (d : Int)) := ⟨_, rfl⟩
              have hcv : ∀ W : World, (convert 21 9 (.int .i32 (48 + (d : Int)))).run Tryd.prog W = .ok (.string E) W := by
                intro W
                rw [hE]
                exact run_convert_int_string W 21 9 .i32 _ (by kernel_rfl) Tryd.underlying9
              have hEs : E.size ≤ 4 := by
                rw [hE, show (48 : Int) + (d : Int) = ((48 + d : Nat) : Int) by omega, encode_bs (by unfold Scal; omega), bs_size]
                exact enc_len _
              have HN := Lib.hid (HP.out.next (E := E) h20 (by rw [hE, hde]))
              rw [← hue] at HN
              clear hde hue hE
              go_wp2
              go_round
              case rel => exact ⟨i + 1, u, E ++ S, by omega, rfl, by go_num, rfl, hu10, HN.out⟩
              case measure => simp [intOf]; omega
            · obtain rfl : i = 20 := by omega
              go_wp2
              go_ret2
              exact files_yes HF.out (by rw [HP.out.done]) HB1.out
        · have HF := Lib.hid (ok_dot (n := m) HC.out.symm)
          go_enter Tryd.func9, Tryd.ntmps9
          go_wp2_with fail
          refine (CR.out _).mono ?_
          rintro e w1 ⟨rfl, hb1⟩
          have HB1 := Lib.hid hb1
          clear hb1
          go_wp2_with fail
          refine (CC.out _).mono ?_
          rintro e w' ⟨rfl, rfl⟩
          go_wp2
          go_ret2
          exact files_no HF.out HB1.out
end Go.Proofs.YticplcnkaapmgaaDoor
