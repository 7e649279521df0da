/- Plain mathematics: the runes of a row of bytes, their encodings, the order of texts by their runes. Nothing of the program. -/
import Derived.Lib.MapLaws
import Derived.Lib.ValidLaws
import Derived.Lib.RuneLoops
namespace Go.RuneMath
open Go.Lib
set_option linter.unusedVariables false

def runesF : Nat → List UInt8 → List Nat
  | 0, _ => []
  | n + 1, l => if l = [] then [] else (decodeL l).1 :: runesF n (l.drop (decodeL l).2)
def runes (l : List UInt8) : List Nat := runesF l.length l
theorem runesF_nil : ∀ n, runesF n [] = []
  | 0 => rfl
  | _ + 1 => by simp [runesF]
theorem runesF_fuel : ∀ (n m : Nat) (l : List UInt8), l.length ≤ n → l.length ≤ m → runesF n l = runesF m l
  | 0, m, l, hn, _ => by
    have : l = [] := List.eq_nil_of_length_eq_zero (by omega)
    subst this
    rw [runesF_nil, runesF_nil]
  | n + 1, 0, l, _, hm => by
    have : l = [] := List.eq_nil_of_length_eq_zero (by omega)
    subst this
    rw [runesF_nil, runesF_nil]
  | n + 1, m + 1, l, hn, hm => by
    by_cases hne : l = []
    · subst hne
      rw [runesF_nil, runesF_nil]
    · have hw := decodeL_width l
      have hl : 0 < l.length := List.length_pos_iff.2 hne
      simp only [runesF, if_neg hne]
      rw [runesF_fuel n m _ (by rw [List.length_drop]; omega) (by rw [List.length_drop]; omega)]
theorem runes_nil : runes [] = [] := rfl
theorem runes_cons {l : List UInt8} (hne : l ≠ []) : runes l = (decodeL l).1 :: runes (l.drop (decodeL l).2) := by
  have hw := decodeL_width l
  have hl : 0 < l.length := List.length_pos_iff.2 hne
  unfold runes
  obtain ⟨n, hn⟩ : ∃ n, l.length = n + 1 := ⟨l.length - 1, by omega⟩
  rw [hn]
  simp only [runesF, if_neg hne]
  rw [runesF_fuel n _ _ (by rw [List.length_drop]; omega) (Nat.le_refl _)]
/-- At most as many runes as bytes. -/
theorem runesF_len : ∀ n l, (runesF n l).length ≤ n
  | 0, _ => Nat.le_refl _
  | n + 1, l => by
    unfold runesF
    split
    · simp
    · have := runesF_len n (l.drop (decodeL l).2)
      rw [List.length_cons]; omega
theorem runes_len (l : List UInt8) : (runes l).length ≤ l.length := runesF_len _ _
theorem runes_eq_nil {l : List UInt8} (h : runes l = []) : l = [] := by
  by_cases hne : l = []
  · exact hne
  · rw [runes_cons hne] at h; cases h

/-! ### at a place of a string -/
def rs (s : ByteArray) (pos : Nat) : List Nat := runes (s.data.toList.drop pos)
theorem rs_zero (s : ByteArray) : rs s 0 = runes s.data.toList := by unfold rs; rw [List.drop_zero]
theorem rs_end {s : ByteArray} {pos : Nat} (h : ¬ pos < s.size) : rs s pos = [] := by
  unfold rs
  rw [List.drop_eq_nil_of_le (by rw [← size_eq]; omega)]
  rfl
theorem drop_ne {s : ByteArray} {pos : Nat} (h : pos < s.size) : s.data.toList.drop pos ≠ [] := by
  intro h0
  have := congrArg List.length h0
  rw [List.length_drop, ← size_eq] at this
  simp at this
  omega
theorem rs_step {s : ByteArray} {pos : Nat} (h : pos < s.size) : rs s pos = (Utf8.decode s pos).1 :: rs s (pos + (Utf8.decode s pos).2) := by
  unfold rs
  rw [runes_cons (drop_ne h), decodeL_drop, List.drop_drop]

/-! ### encodings -/
def Scal (r : Nat) : Prop := r < 55296 ∨ (57343 < r ∧ r ≤ 1114111)
def enc (r : Nat) : List UInt8 := encodeRune (r : Int)
def encs (rs : List Nat) : List UInt8 := rs.flatMap enc
theorem encs_nil : encs [] = [] := rfl
theorem encs_cons (r : Nat) (l : List Nat) : encs (r :: l) = enc r ++ encs l := rfl
theorem encs_append (a b : List Nat) : encs (a ++ b) = encs a ++ encs b := by simp [encs]
theorem decodeN_scal (n b0 b1 b2 b3 : Nat) (h0 : b0 < 256) : Scal (decodeN n b0 b1 b2 b3).1 := by
  unfold Scal decodeN
  repeat' split
  all_goals (simp only; omega)
theorem decode_scal (l : List UInt8) : Scal (decodeL l).1 := by
  rw [decodeL_N]
  exact decodeN_scal _ _ _ _ _ (UInt8.toNat_lt _)
theorem runesF_scal : ∀ n l, ∀ r ∈ runesF n l, Scal r
  | 0, _, r, h => by simp [runesF] at h
  | n + 1, l, r, h => by
    unfold runesF at h
    split at h
    · simp at h
    · rcases List.mem_cons.1 h with rfl | h
      · exact decode_scal l
      · exact runesF_scal n _ r h
theorem runes_scal (l : List UInt8) : ∀ r ∈ runes l, Scal r := runesF_scal _ _
theorem enc_ne (r : Nat) : enc r ≠ [] := by
  intro h
  have h1 := (encodeRuneZ_length (r : Int)).1
  have h2 := congrArg List.length h
  unfold enc encodeRune at h2
  rw [List.length_map] at h2
  simp at h2
  rw [h2] at h1
  simp at h1
theorem byteNat {z : Int} {n : Nat} (h : z = (n : Int)) (h2 : n < 256) : (z.toNat.toUInt8).toNat = n := by
  subst h
  simp
  omega
theorem decodeN_two {n b0 b1 b2 b3 r : Nat} (h0 : b0 = 192 + r / 64) (h1 : b1 = 128 + r % 64) (hn : 1 < n) (hr : 128 ≤ r) (hr2 : r < 2048) : decodeN n b0 b1 b2 b3 = (r, 2) := by
  unfold decodeN
  rw [if_neg (by omega), if_pos ⟨by omega, hn, by omega⟩, if_pos (by omega)]
  congr 1
  omega
theorem decodeN_three {n b0 b1 b2 b3 r : Nat} (h0 : b0 = 224 + r / 4096) (h1 : b1 = 128 + r / 64 % 64) (h2 : b2 = 128 + r % 64) (hn : 2 < n) (hr : 2048 ≤ r) (hr2 : r < 55296 ∨ (57343 < r ∧ r < 65536)) : decodeN n b0 b1 b2 b3 = (r, 3) := by
  have e : b0 % 16 * 4096 + b1 % 64 * 64 + b2 % 64 = r := by omega
  unfold decodeN
  rw [if_neg (by omega), if_neg (by omega), if_pos ⟨by omega, ⟨by omega, by omega⟩, hn, by omega⟩, e, if_pos ⟨by omega, by omega⟩]
theorem decodeN_four {n b0 b1 b2 b3 r : Nat} (h0 : b0 = 240 + r / 262144) (h1 : b1 = 128 + r / 4096 % 64) (h2 : b2 = 128 + r / 64 % 64) (h3 : b3 = 128 + r % 64) (hn : 3 < n) (hr : 65536 ≤ r) (hr2 : r ≤ 1114111) : decodeN n b0 b1 b2 b3 = (r, 4) := by
  have e : b0 % 8 * 262144 + b1 % 64 * 4096 + b2 % 64 * 64 + b3 % 64 = r := by omega
  unfold decodeN
  rw [if_neg (by omega), if_neg (by omega), if_neg (by omega), if_pos ⟨by omega, ⟨by omega, by omega⟩, ⟨by omega, by omega⟩, hn, by omega⟩, e, if_pos ⟨by omega, by omega⟩]
/-- What was encoded is decoded, whatever stands behind it. -/
theorem decode_enc {r : Nat} (h : Scal r) (t : List UInt8) : decodeL (enc r ++ t) = (r, (enc r).length) := by
  rw [decodeL_N]
  unfold Scal at h
  unfold enc encodeRune
  by_cases h1 : r < 128
  · rw [encodeRuneZ_one (by omega) (by omega)]
    simp only [List.map_cons, List.map_nil, List.cons_append, List.nil_append, List.length_cons, List.length_nil, List.getD_cons_zero, List.getD_cons_succ]
    rw [byteNat (n := r) (by omega) (by omega), decodeN_ascii _ _ _ _ _ h1]
  · by_cases h2 : r < 2048
    · rw [encodeRuneZ_two (by omega) (by omega)]
      simp only [List.map_cons, List.map_nil, List.cons_append, List.nil_append, List.length_cons, List.length_nil, List.getD_cons_zero, List.getD_cons_succ]
      exact decodeN_two (byteNat (by omega) (by omega)) (byteNat (by omega) (by omega)) (by omega) (by omega) h2
    · by_cases h3 : r < 65536
      · rw [encodeRuneZ_three (by omega)]
        simp only [List.map_cons, List.map_nil, List.cons_append, List.nil_append, List.length_cons, List.length_nil, List.getD_cons_zero, List.getD_cons_succ]
        exact decodeN_three (byteNat (by omega) (by omega)) (byteNat (by omega) (by omega)) (byteNat (by omega) (by omega)) (by omega) (by omega) (by omega)
      · rw [encodeRuneZ_four (by omega) (by omega)]
        simp only [List.map_cons, List.map_nil, List.cons_append, List.nil_append, List.length_cons, List.length_nil, List.getD_cons_zero, List.getD_cons_succ]
        exact decodeN_four (byteNat (by omega) (by omega)) (byteNat (by omega) (by omega)) (byteNat (by omega) (by omega)) (byteNat (by omega) (by omega)) (by omega) (by omega) (by omega)
theorem runes_enc {r : Nat} (h : Scal r) (t : List UInt8) : runes (enc r ++ t) = r :: runes t := by
  rw [runes_cons (by intro h0; exact enc_ne r (List.append_eq_nil_iff.1 h0).1), decode_enc h]
  simp
theorem runes_encs : ∀ (l : List Nat), (∀ r ∈ l, Scal r) → ∀ t, runes (encs l ++ t) = l ++ runes t
  | [], _, t => rfl
  | r :: l, h, t => by
    rw [encs_cons, List.append_assoc, runes_enc (h r (by simp)), runes_encs l (fun x hx => h x (by simp [hx])), List.cons_append]
theorem runes_encs' {l : List Nat} (h : ∀ r ∈ l, Scal r) : runes (encs l) = l := by
  have := runes_encs l h []
  rwa [List.append_nil, runes_nil, List.append_nil] at this
theorem enc_len (r : Nat) : (enc r).length ≤ 4 := by
  unfold enc
  rw [← runeCells_length]
  exact (runeCells_le _).2
theorem encs_len : ∀ l : List Nat, (encs l).length ≤ 4 * l.length
  | [] => by simp [encs]
  | r :: l => by
    rw [encs_cons, List.length_append, List.length_cons]
    have := encs_len l
    have := enc_len r
    omega

/-! ### one row behind another -/
/-- A row that a rune may begin with, or none. -/
def Start (t : List UInt8) : Prop := t = [] ∨ (t.getD 0 0).toNat / 64 ≠ 2
theorem decodeN_wide {n m b0 b1 b2 b3 : Nat} (hn : 4 ≤ n) (hm : 4 ≤ m) : decodeN n b0 b1 b2 b3 = decodeN m b0 b1 b2 b3 := by
  unfold decodeN
  simp only [show 1 < n by omega, show 2 < n by omega, show 3 < n by omega, show 1 < m by omega, show 2 < m by omega, show 3 < m by omega, true_and]
theorem decodeN_no1 {n b0 b1 b2 b3 : Nat} (h : ¬ (1 < n ∧ b1 / 64 = 2)) : decodeN n b0 b1 b2 b3 = if b0 < 128 then (b0, 1) else (65533, 1) := by
  unfold decodeN
  simp only [h, and_false, false_and, if_false]
theorem decodeN_no2 {n b0 b1 b2 b3 : Nat} (h1 : 1 < n) (h : ¬ (2 < n ∧ b2 / 64 = 2)) : decodeN n b0 b1 b2 b3 = if b0 < 128 then (b0, 1) else if b0 / 32 = 6 ∧ b1 / 64 = 2 then (if b0 % 32 * 64 + b1 % 64 ≥ 128 then (b0 % 32 * 64 + b1 % 64, 2) else (65533, 1)) else (65533, 1) := by
  unfold decodeN
  simp only [h, h1, true_and, and_false, false_and, if_false]
theorem decodeN_no3 {n m b0 b1 b2 b3 c3 : Nat} (h1 : 2 < n) (h2 : 2 < m) (h : ¬ (3 < n ∧ b3 / 64 = 2)) (h' : ¬ (3 < m ∧ c3 / 64 = 2)) : decodeN n b0 b1 b2 b3 = decodeN m b0 b1 b2 c3 := by
  unfold decodeN
  simp only [h, h', h1, h2, show 1 < n by omega, show 1 < m by omega, true_and, and_false, if_false]
theorem decode_ahead {a t : List UInt8} (ha : a ≠ []) (ht : Start t) : decodeL (a ++ t) = decodeL a := by
  rcases ht with rfl | ht
  · rw [List.append_nil]
  · cases t with
    | nil => rw [List.append_nil]
    | cons x t =>
      rw [List.getD_cons_zero] at ht
      rw [decodeL_N, decodeL_N]
      match a, ha with
      | [a0], _ =>
        simp only [List.cons_append, List.nil_append, List.getD_cons_zero, List.getD_cons_succ, List.length_cons, List.length_nil]
        rw [decodeN_no1 (by omega), decodeN_no1 (by omega)]
      | [a0, a1], _ =>
        simp only [List.cons_append, List.nil_append, List.getD_cons_zero, List.getD_cons_succ, List.length_cons, List.length_nil]
        rw [decodeN_no2 (by omega) (by omega), decodeN_no2 (by omega) (by omega)]
      | [a0, a1, a2], _ =>
        simp only [List.cons_append, List.nil_append, List.getD_cons_zero, List.getD_cons_succ, List.length_cons, List.length_nil]
        exact decodeN_no3 (by omega) (by omega) (by omega) (by omega)
      | a0 :: a1 :: a2 :: a3 :: a', _ =>
        simp only [List.cons_append, List.getD_cons_zero, List.getD_cons_succ]
        exact decodeN_wide (by simp) (by simp)
theorem runes_append : ∀ (n : Nat) (a t : List UInt8), a.length ≤ n → Start t → runes (a ++ t) = runes a ++ runes t
  | 0, a, t, hn, _ => by
    have : a = [] := List.eq_nil_of_length_eq_zero (by omega)
    subst this
    rfl
  | n + 1, a, t, hn, ht => by
    by_cases ha : a = []
    · subst ha; rfl
    · have hw := decodeL_width a
      have hl := decodeL_le a ha
      rw [runes_cons (l := a ++ t) (by intro h0; exact ha (List.append_eq_nil_iff.1 h0).1), decode_ahead ha ht, List.drop_append_of_le_length hl,
        runes_append n (a.drop (decodeL a).2) t (by rw [List.length_drop]; omega) ht, runes_cons ha, List.cons_append]
theorem runes_app (a : List UInt8) {t : List UInt8} (ht : Start t) : runes (a ++ t) = runes a ++ runes t := runes_append _ a t (Nat.le_refl _) ht
theorem runes_ascii (c : UInt8) (t : List UInt8) (h : c.toNat < 128) : runes (c :: t) = c.toNat :: runes t := by
  rw [runes_cons (by simp), decodeL_ascii c t h]
  simp
theorem start_ascii (c : UInt8) (t : List UInt8) (h : c.toNat < 128) : Start (c :: t) := by
  right
  rw [List.getD_cons_zero]
  omega
theorem runes_low : ∀ (l : List UInt8), (∀ c ∈ l, c.toNat < 128) → ∀ t, runes (l ++ t) = l.map (·.toNat) ++ runes t
  | [], _, t => rfl
  | c :: l, h, t => by
    rw [List.cons_append, runes_ascii c _ (h c (by simp)), runes_low l (fun x hx => h x (by simp [hx])) t]
    rfl
/-- A row that does not begin as a rune does begins with U+FFFD. -/
theorem runes_cont {t : List UInt8} (h : ¬ Start t) : ∀ u, ∃ l, runes (t ++ u) = 65533 :: l := by
  intro u
  unfold Start at h
  have hne : t ≠ [] := fun h0 => h (.inl h0)
  have hc : (t.getD 0 0).toNat / 64 = 2 := by
    by_cases h2 : (t.getD 0 0).toNat / 64 = 2
    · exact h2
    · exact absurd (.inr h2) h
  cases t with
  | nil => exact absurd rfl hne
  | cons x t =>
    rw [List.getD_cons_zero] at hc
    have e := runes_cons (l := x :: t ++ u) (by simp)
    have e2 : decodeL (x :: t ++ u) = (65533, 1) := by
      rw [decodeL_N, List.cons_append, List.getD_cons_zero, decodeN_cont _ _ _ _ _ hc]
    rw [e2] at e
    exact ⟨_, e⟩

/-! ### names that may be -/
def okR (r : Nat) : Bool := (decide (97 ≤ r) && decide (r ≤ 122)) || (decide (48 ≤ r) && decide (r ≤ 57)) || decide (r = 46) || decide (r = 45) || decide (r = 95) || (decide (255 < r) && decide (r ≠ 65533))
def rightR (l : List Nat) : Bool := l.all okR && decide (1 ≤ l.length) && decide (l.length ≤ 40)
def rightB (l : List UInt8) : Bool := rightR (runes l)
def countB (l : List UInt8) : Nat := (runes l).length
def upR (r : Nat) : Nat := if 97 ≤ r ∧ r ≤ 122 then r - 32 else r
def upperB (l : List UInt8) : List UInt8 := encs ((runes l).map upR)
theorem upR_scal {r : Nat} (h : Scal r) : Scal (upR r) := by
  unfold Scal at h ⊢
  unfold upR
  split <;> omega
theorem upR_upR (r : Nat) : upR (upR r) = upR r := by
  unfold upR
  repeat' split
  all_goals omega
theorem up_scal {l : List Nat} (h : ∀ r ∈ l, Scal r) : ∀ r ∈ l.map upR, Scal r := by
  intro r hr
  obtain ⟨x, hx, rfl⟩ := List.mem_map.1 hr
  exact upR_scal (h x hx)
theorem runes_upper (l : List UInt8) : runes (upperB l) = (runes l).map upR := runes_encs' (up_scal (runes_scal l))
theorem upper_upper (l : List UInt8) : upperB (upperB l) = upperB l := by
  unfold upperB
  rw [show runes (encs ((runes l).map upR)) = (runes l).map upR from runes_upper l, List.map_map]
  congr 1
  apply List.map_congr_left
  intro r _
  exact upR_upR r
theorem count_upper (l : List UInt8) : countB (upperB l) = countB l := by
  unfold countB
  rw [runes_upper, List.length_map]
theorem upper_encs {l : List Nat} (h : ∀ r ∈ l, Scal r) : upperB (encs l) = encs (l.map upR) := by
  unfold upperB
  rw [runes_encs' h]
theorem upper_parts (l : List UInt8) (k : Nat) : upperB (encs ((runes l).take k)) ++ upperB (encs ((runes l).drop k)) = upperB l := by
  have hs := runes_scal l
  rw [upper_encs (fun r hr => hs r (List.mem_of_mem_take hr)), upper_encs (fun r hr => hs r (List.mem_of_mem_drop hr)), ← encs_append, ← List.map_append, List.take_append_drop]
  rfl
theorem count_take (l : List UInt8) (k : Nat) : countB (encs ((runes l).take k)) + countB (encs ((runes l).drop k)) = countB l := by
  have hs := runes_scal l
  unfold countB
  rw [runes_encs' (fun r hr => hs r (List.mem_of_mem_take hr)), runes_encs' (fun r hr => hs r (List.mem_of_mem_drop hr)), ← List.length_append, List.take_append_drop]
theorem right_twice (l : List UInt8) : rightB (l ++ l) = (rightB l && decide (2 * countB l ≤ 40)) := by
  unfold rightB countB
  by_cases h : Start l
  · rw [runes_app l h]
    unfold rightR
    rw [List.all_append, List.length_append]
    cases (runes l).all okR
    · rfl
    · rw [Bool.eq_iff_iff]
      simp
      omega
  · obtain ⟨u, hu⟩ := runes_cont h l
    obtain ⟨v, hv⟩ := runes_cont h []
    rw [List.append_nil] at hv
    rw [hu, hv]
    simp [rightR, okR]

/-! ### the order -/
def lessR : List Nat → List Nat → Bool
  | [], [] => false
  | [], _ :: _ => true
  | _ :: _, [] => false
  | a :: x, b :: y => if a = b then lessR x y else decide (a < b)
theorem lessR_cons (a : Nat) (x : List Nat) (b : Nat) (y : List Nat) : lessR (a :: x) (b :: y) = if a = b then lessR x y else decide (a < b) := by rw [lessR]
def lessB (a b : List UInt8) : Bool := lessR (runes a) (runes b)
theorem less_irr : ∀ x, lessR x x = false
  | [] => rfl
  | a :: x => by unfold lessR; rw [if_pos rfl]; exact less_irr x
theorem less_asym : ∀ x y, lessR x y = true → lessR y x = false
  | [], [], h => by cases h
  | [], _ :: _, _ => rfl
  | _ :: _, [], h => by cases h
  | a :: x, b :: y, h => by
    unfold lessR at h ⊢
    split at h
    · rename_i e
      rw [if_pos e.symm]
      exact less_asym x y h
    · rename_i e
      rw [if_neg (fun e2 => e e2.symm)]
      simp at h ⊢
      omega
theorem less_trans : ∀ x y z, lessR x y = true → lessR y z = true → lessR x z = true
  | [], [], _, h, _ => by cases h
  | [], _ :: _, [], _, h => by cases h
  | [], _ :: _, _ :: _, _, _ => rfl
  | _ :: _, [], _, h, _ => by cases h
  | _ :: _, _ :: _, [], _, h => by cases h
  | a :: x, b :: y, c :: z, h1, h2 => by
    unfold lessR at h1 h2 ⊢
    split at h1
    · rename_i e
      subst e
      split at h2
      · rename_i e2
        rw [if_pos e2]
        exact less_trans x y z h1 h2
      · rename_i e2
        rw [if_neg e2]
        exact h2
    · rename_i e
      split at h2
      · rename_i e2
        subst e2
        rw [if_neg e]
        exact h1
      · rename_i e2
        simp at h1 h2
        rw [if_neg (by omega)]
        simp
        omega
theorem less_more : ∀ x r, lessR x (x ++ [r]) = true
  | [], _ => rfl
  | a :: x, r => by rw [List.cons_append]; unfold lessR; rw [if_pos rfl]; exact less_more x r
theorem less_app : ∀ x y, x.length = y.length → ∀ u v, lessR (x ++ u) (y ++ v) = if x = y then lessR u v else lessR x y
  | [], [], _, u, v => by simp
  | [], _ :: _, h, _, _ => by simp at h
  | _ :: _, [], h, _, _ => by simp at h
  | a :: x, b :: y, h, u, v => by
    have ih := less_app x y (by simpa using h) u v
    rw [List.cons_append, List.cons_append, lessR_cons, lessR_cons]
    by_cases e : a = b
    · subst e
      rw [if_pos rfl, if_pos rfl, ih]
      by_cases e2 : x = y
      · rw [if_pos e2, if_pos (by rw [e2])]
      · rw [if_neg e2, if_neg (by intro h0; exact e2 (List.cons.inj h0).2)]
    · rw [if_neg e, if_neg e, if_neg (by intro h0; exact e (List.cons.inj h0).1)]
theorem less_nil (l : List Nat) : lessR l [] = false := by cases l <;> rfl
theorem nil_less {l : List Nat} (h : l ≠ []) : lessR [] l = true := by
  cases l with
  | nil => exact absurd rfl h
  | cons a l => rfl

/-! ### twenty digits -/
def dig (n : Nat) : Nat → List UInt8
  | 0 => []
  | k + 1 => dig (n / 10) k ++ [UInt8.ofNat (48 + n % 10)]
theorem dig_len : ∀ n k, (dig n k).length = k
  | _, 0 => rfl
  | n, k + 1 => by rw [dig, List.length_append, dig_len (n / 10) k]; rfl
theorem digit_nat (n : Nat) : (UInt8.ofNat (48 + n % 10)).toNat = 48 + n % 10 := by simp; omega
theorem dig_all : ∀ n k, ∀ c ∈ dig n k, 48 ≤ c.toNat ∧ c.toNat ≤ 57
  | _, 0, c, h => by simp [dig] at h
  | n, k + 1, c, h => by
    rw [dig] at h
    rcases List.mem_append.1 h with h | h
    · exact dig_all _ _ c h
    · rw [List.mem_singleton] at h
      subst h
      rw [digit_nat]
      omega
def valD (l : List UInt8) : Nat := l.foldl (fun a c => 10 * a + (c.toNat - 48)) 0
theorem valD_snoc (l : List UInt8) (c : UInt8) : valD (l ++ [c]) = 10 * valD l + (c.toNat - 48) := by simp [valD]
theorem valD_dig : ∀ k n, n < 10 ^ k → valD (dig n k) = n
  | 0, n, h => by simp at h; subst h; rfl
  | k + 1, n, h => by
    rw [dig, valD_snoc, valD_dig k (n / 10) (by rw [Nat.pow_succ] at h; omega), digit_nat]
    omega
theorem dig_take : ∀ j k n, (dig n (j + k)).take j = dig (n / 10 ^ k) j
  | j, 0, n => by simp [List.take_of_length_le, dig_len]
  | j, k + 1, n => by
    rw [← Nat.add_assoc, dig, List.take_append_of_le_length (by rw [dig_len]; omega), dig_take j k (n / 10), Nat.div_div_eq_div_mul]
    congr 2
    rw [Nat.pow_succ, Nat.mul_comm]
theorem dig_inj {m n k : Nat} (hm : m < 10 ^ k) (hn : n < 10 ^ k) (h : dig m k = dig n k) : m = n := by
  have := congrArg valD h
  rwa [valD_dig k m hm, valD_dig k n hn] at this
theorem low_dig (n k : Nat) : ∀ c ∈ dig n k, c.toNat < 128 := fun c h => by have := dig_all n k c h; omega
theorem less_dig : ∀ k m n, m < 10 ^ k → n < 10 ^ k → lessR ((dig m k).map (·.toNat)) ((dig n k).map (·.toNat)) = decide (m < n)
  | 0, m, n, hm, hn => by
    simp at hm hn
    subst hm; subst hn
    rfl
  | k + 1, m, n, hm, hn => by
    rw [Nat.pow_succ] at hm hn
    have ih := less_dig k (m / 10) (n / 10) (by omega) (by omega)
    rw [dig, dig, List.map_append, List.map_append, less_app _ _ (by simp [dig_len]), ih]
    by_cases e : m / 10 = n / 10
    · rw [if_pos (by rw [e])]
      simp only [List.map_cons, List.map_nil, digit_nat]
      unfold lessR
      by_cases e2 : 48 + m % 10 = 48 + n % 10
      · rw [if_pos e2]
        have : m = n := by omega
        subst this
        simp [lessR]
      · rw [if_neg e2, Bool.eq_iff_iff]
        simp
        omega
    · have hne : (dig (m / 10) k).map (·.toNat) ≠ (dig (n / 10) k).map (·.toNat) := by
        intro h0
        apply e
        refine dig_inj (k := k) (by omega) (by omega) ?_
        exact (List.map_inj_right (fun _ _ h => UInt8.toNat_inj.1 h)).1 h0
      rw [if_neg hne, Bool.eq_iff_iff]
      simp
      omega

/-! ### names of files -/
def okFile (n : Int) (k : List UInt8) : Bool := decide (0 ≤ n) && decide (n ≤ 1099511627776) && rightB k && !(k.contains 46)
def fileL (n : Nat) (k : List UInt8) : List UInt8 := dig n 20 ++ 46 :: k
def fileS (n : Int) (k : List UInt8) : List UInt8 := if okFile n k then fileL n.toNat k else []
def parseK (l : List UInt8) : Bool := okFile (valD (l.take 20)) (l.drop 21) && decide (fileL (valD (l.take 20)) (l.drop 21) = l)
def parseN (l : List UInt8) : Nat := if parseK l then valD (l.take 20) else 0
def parseS (l : List UInt8) : List UInt8 := if parseK l then l.drop 21 else []
theorem lim20 : (1099511627776 : Nat) < 10 ^ 20 := by decide
theorem file_take {n : Nat} (h : n ≤ 1099511627776) (k : List UInt8) : valD ((fileL n k).take 20) = n := by
  unfold fileL
  rw [List.take_append_of_le_length (by rw [dig_len]; omega), List.take_of_length_le (by rw [dig_len]; omega)]
  exact valD_dig 20 n (Nat.lt_of_le_of_lt h lim20)
theorem file_drop (n : Nat) (k : List UInt8) : (fileL n k).drop 21 = k := by
  unfold fileL
  rw [List.drop_append, dig_len, List.drop_of_length_le (by rw [dig_len]; omega)]
  rfl
theorem ok_nat {n : Nat} {k : List UInt8} (h : okFile n k = true) : n ≤ 1099511627776 ∧ rightB k = true ∧ k.contains 46 = false := by
  unfold okFile at h
  simp only [Bool.and_eq_true, decide_eq_true_eq, Bool.not_eq_true'] at h
  exact ⟨by omega, h.1.2, h.2⟩
/-- What a file is named is parsed again. -/
theorem parse_file {n : Nat} {k l : List UInt8} (ho : okFile n k = true) (hl : fileL n k = l) : parseK l = true ∧ valD (l.take 20) = n ∧ l.drop 21 = k := by
  have h1 := (ok_nat ho).1
  subst hl
  rw [parseK, file_take h1, file_drop, ho]
  simp
/-- What is parsed is a file's name. -/
theorem parse_is {l : List UInt8} (h : parseK l = true) : okFile (valD (l.take 20)) (l.drop 21) = true ∧ fileL (valD (l.take 20)) (l.drop 21) = l := by
  unfold parseK at h
  simp only [Bool.and_eq_true, decide_eq_true_eq] at h
  exact h
theorem parse_yes {n : Nat} {k l : List UInt8} (ho : okFile n k = true) (hl : fileL n k = l) : parseK l = true ∧ parseN l = n ∧ parseS l = k := by
  obtain ⟨h1, h2, h3⟩ := parse_file ho hl
  refine ⟨h1, ?_, ?_⟩
  · rw [parseN, if_pos h1, h2]
  · rw [parseS, if_pos h1, h3]
theorem parse_no {l : List UInt8} (h : parseK l = false) : parseN l = 0 ∧ parseS l = [] := by
  refine ⟨?_, ?_⟩
  · rw [parseN, if_neg (by rw [h]; simp)]
  · rw [parseS, if_neg (by rw [h]; simp)]
theorem file_len {n : Nat} {k : List UInt8} : (fileL n k).length = 21 + k.length := by
  unfold fileL
  rw [List.length_append, dig_len, List.length_cons]
  omega

/-! ### the number that stands in front -/
def numR : Nat → List Nat → Option Nat
  | n, [] => some n
  | n, r :: l => if 48 ≤ r ∧ r ≤ 57 then (if 1099511627776 < 10 * n + (r - 48) then none else numR (10 * n + (r - 48)) l) else none
theorem numR_val : ∀ (l p : List UInt8), (∀ c ∈ l, 48 ≤ c.toNat ∧ c.toNat ≤ 57) → (∀ j, valD (p ++ l.take j) ≤ 1099511627776) → numR (valD p) (l.map (·.toNat)) = some (valD (p ++ l))
  | [], p, _, _ => by simp [numR]
  | c :: l, p, hd, hv => by
    have h1 := hd c (by simp)
    have h2 := hv 1
    rw [List.take_succ_cons, List.take_zero, valD_snoc] at h2
    rw [List.map_cons, numR, if_pos h1, if_neg (by omega), ← valD_snoc, numR_val l (p ++ [c]) (fun x hx => hd x (by simp [hx])) (fun j => by have := hv (j + 1); rwa [List.take_succ_cons, ← List.singleton_append, ← List.append_assoc] at this)]
    simp
theorem num_dig {n : Nat} (h : n ≤ 1099511627776) : numR 0 (runes (dig n 20)) = some n := by
  have e := runes_low (dig n 20) (low_dig n 20) []
  rw [List.append_nil, runes_nil, List.append_nil] at e
  rw [e]
  have := numR_val (dig n 20) [] (dig_all n 20) (fun j => ?_)
  · rw [List.nil_append, valD_dig 20 n (Nat.lt_of_le_of_lt h lim20)] at this
    exact this
  · rw [List.nil_append]
    by_cases hj : j ≤ 20
    · have e2 := dig_take j (20 - j) n
      rw [show j + (20 - j) = 20 by omega] at e2
      rw [e2, valD_dig]
      · exact Nat.le_trans (Nat.div_le_self _ _) h
      · rw [Nat.div_lt_iff_lt_mul (Nat.pow_pos (by omega)), ← Nat.pow_add, show j + (20 - j) = 20 by omega]
        exact Nat.lt_of_le_of_lt h lim20
    · rw [List.take_of_length_le (by rw [dig_len]; omega), valD_dig 20 n (Nat.lt_of_le_of_lt h lim20)]
      exact h
theorem valD_take_file {n : Nat} {k : List UInt8} (h : n ≤ 1099511627776) {j : Nat} (hj : j ≤ 20) : valD ((fileL n k).take j) ≤ 1099511627776 := by
  unfold fileL
  rw [List.take_append_of_le_length (by rw [dig_len]; omega)]
  have e2 := dig_take j (20 - j) n
  rw [show j + (20 - j) = 20 by omega] at e2
  rw [e2, valD_dig]
  · exact Nat.le_trans (Nat.div_le_self _ _) h
  · rw [Nat.div_lt_iff_lt_mul (Nat.pow_pos (by omega)), ← Nat.pow_add, show j + (20 - j) = 20 by omega]
    exact Nat.lt_of_le_of_lt h lim20
end Go.RuneMath
