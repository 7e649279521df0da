/- What walks over chapter 2's functions share: what Put, Text, Long give of nothing, what Get, Cut, Back read of it; rows of bytes and lists of int64 that came in; masks and shifts; numbers one behind the other. -/
import Derived.Test.YtlpmfhccfihnfaaVarCut
import Derived.Test.YtlpmfhccfihnfaaVarLong
import Derived.Test.YtlpmfhccfihnfaaKeep2
namespace Go.Proofs.Ytlpmfhccfihnfaa
open Go.RowKit
open Go.VarMath hiding AllB
set_option linter.unusedVariables false

theorem mask62 (a : Int) : bits .and .i64 a 4611686018427387903 = a % 4611686018427387904 := by
  have h1 : (BitVec.ofInt 64 4611686018427387903).toNat = 2 ^ 62 - 1 := by decide
  have key : (BitVec.ofInt 64 a &&& BitVec.ofInt 64 4611686018427387903).toNat = (a % ((2 ^ 64 : Nat) : Int)).toNat % 2 ^ 62 := by
    rw [BitVec.toNat_and, BitVec.toNat_ofInt, h1, Nat.and_two_pow_sub_one_eq_mod]
  show IntKind.i64.wrap ((BitVec.ofInt 64 a &&& BitVec.ofInt 64 4611686018427387903).toNat : Nat) = _
  rw [key, IntKind.wrap_i64]
  omega
theorem mask62_nat (a : Int) : ∃ x : Nat, bits .and .i64 a 4611686018427387903 = (x : Int) ∧ x < 4611686018427387904 :=
  ⟨(a % 4611686018427387904).toNat, by rw [mask62]; omega, by omega⟩
theorem ofNat_lt {a b : Nat} (ha : a < 256) (hb : b < 256) : (UInt8.ofNat a < UInt8.ofNat b) ↔ a < b := by
  rw [UInt8.lt_iff_toNat_lt]; simp [Nat.mod_eq_of_lt ha, Nat.mod_eq_of_lt hb]
theorem ofNat_eq {a b : Nat} (ha : a < 256) (hb : b < 256) : (UInt8.ofNat a = UInt8.ofNat b) ↔ a = b := by
  rw [← UInt8.toNat_inj]; simp [Nat.mod_eq_of_lt ha, Nat.mod_eq_of_lt hb]
/-- Rows of as many bytes, the most significant first, go as their numbers go. -/
theorem less_be : ∀ k u v, Op.bytesLess ((beB k u).map UInt8.ofNat) ((beB k v).map UInt8.ofNat) = decide (u % 256 ^ k < v % 256 ^ k)
  | 0, u, v => by simp [beB, Op.bytesLess, Nat.mod_one]
  | k + 1, u, v => by
    have ha : u / 256 ^ k % 256 < 256 := Nat.mod_lt _ (by omega)
    have hb : v / 256 ^ k % 256 < 256 := Nat.mod_lt _ (by omega)
    have hu := Nat.mod_mul (x := u) (a := 256 ^ k) (b := 256)
    have hv := Nat.mod_mul (x := v) (a := 256 ^ k) (b := 256)
    have hp : 0 < 256 ^ k := Nat.pow_pos (by omega)
    have hul := Nat.mod_lt u hp
    have hvl := Nat.mod_lt v hp
    rw [beB, beB, List.map_cons, List.map_cons, Op.bytesLess, less_be k u v, Nat.pow_succ, hu, hv]
    obtain ⟨a, hae⟩ : ∃ a, a = u / 256 ^ k % 256 := ⟨_, rfl⟩
    obtain ⟨b, hbe⟩ : ∃ b, b = v / 256 ^ k % 256 := ⟨_, rfl⟩
    rw [← hae] at ha ⊢
    rw [← hbe] at hb ⊢
    rw [Bool.eq_iff_iff]
    simp only [Bool.or_eq_true, Bool.and_eq_true, decide_eq_true_eq, beq_iff_eq, ofNat_lt ha hb, ofNat_eq ha hb]
    generalize 256 ^ k = P at *
    generalize u % P = U at *
    generalize v % P = V at *
    rcases Nat.lt_trichotomy a b with h | h | h
    · have h2 : P * (a + 1) ≤ P * b := Nat.mul_le_mul_left P h
      rw [Nat.mul_add, Nat.mul_one] at h2
      constructor
      · intro _; omega
      · intro _; exact .inl h
    · subst h
      constructor
      · rintro (h1 | ⟨_, h1⟩)
        · omega
        · omega
      · intro h1; exact .inr ⟨rfl, by omega⟩
    · have h2 : P * (b + 1) ≤ P * a := Nat.mul_le_mul_left P h
      rw [Nat.mul_add, Nat.mul_one] at h2
      constructor
      · rintro (h1 | ⟨h1, _⟩) <;> omega
      · intro h1; omega
theorem low64_nat (x : Nat) (h : x < 18446744073709551616) : low64 (x : Int) = x := by unfold low64; omega
theorem less_long (x y : Nat) (hx : x < 4611686018427387904) (hy : y < 4611686018427387904) : Op.bytesLess (str (longB (x : Int))).toList (str (longB (y : Int))).toList = decide (x < y) := by
  rw [str_toList, str_toList]
  unfold longB
  rw [less_be, low64_nat x (by omega), low64_nat y (by omega), pow8, Nat.mod_eq_of_lt (by omega), Nat.mod_eq_of_lt (by omega)]
theorem owns_of_block {w w' : World} {base e size n g cap : Nat} {xs : List Value} (h : w.ownsRow base e size (.slice (some ⟨g, 0, none⟩) n cap) n xs) (hb : w'.heap[g]? = w.heap[g]?) : w'.ownsRow base e size (.slice (some ⟨g, 0, none⟩) n cap) n xs := by
  refine ⟨h.1, ?_⟩
  rcases h.2 with h0 | ⟨g', cap', cur, hv, hg, hh, r⟩
  · exact .inl h0
  · cases hv
    exact .inr ⟨g, cap, cur, rfl, hg, hb.trans hh, r⟩
theorem long_nil (W : World) (n : Int) (h0 : -9223372036854775808 ≤ n) (h1 : n ≤ 9223372036854775807) : Calls Try.prog 36 #[.slice none 0 0, .int .i64 n] W fun e w' => ∃ g cp, e = .returned (.slice (some ⟨g, 0, none⟩) 8 cp) ∧ Hid (w'.ownsRow W.heap.size 5 1 (.slice (some ⟨g, 0, none⟩) 8 cp) 8 (vals (longB n))) ∧ Hid (Below W.heap.size W w') := by
  refine (long_any W none 0 0 [] n ⟨Byt.nil W, fun _ => rfl⟩ (by omega) h0 h1).mono ?_
  rintro e w' ⟨g, cp, rfl, ho, hb⟩
  exact ⟨g, cp, rfl, ho, hb⟩
theorem back_long (W : World) (n : Int) (h0 : -9223372036854775808 ≤ n) (h1 : n ≤ 9223372036854775807) (ad : Option Addr) (len cap : Nat) (bs : List Nat) (h : Byt W ad len cap (longB n ++ bs)) (hL : len ≤ 140737488355328) :
    Calls Try.prog 60 #[.slice ad len cap] W fun e w' => e = .returned (.tuple #[.int .i64 n, .bool true]) ∧ W = w' := by
  refine (back_any W ad len cap _ h hL).mono ?_
  rintro e w' ⟨rfl, rfl⟩
  rw [backB_long h0 h1]
  exact ⟨rfl, rfl⟩
theorem encN_all {n : Int} (h0 : -9223372036854775808 ≤ n) (h1 : n ≤ 9223372036854775807) : AllB (encN n) := enc_all (zig_lt h0 h1)
theorem encN_len {n : Int} (h0 : -9223372036854775808 ≤ n) (h1 : n ≤ 9223372036854775807) : 1 ≤ (encN n).length ∧ (encN n).length ≤ 10 := enc_len (zig_lt h0 h1)
theorem textB_all {s : List Nat} (h : AllB s) (hl : s.length < 9223372036854775808) : AllB (textB s) := all_append (enc_all (by omega)) h
theorem textB_len {s : List Nat} (hl : s.length < 9223372036854775808) : s.length + 1 ≤ (textB s).length ∧ (textB s).length ≤ s.length + 10 := by
  have := enc_len (u := 2 * s.length) (by omega)
  unfold textB
  rw [List.length_append]; omega
theorem str_bytesS (s : ByteArray) : str (bytesS s) = s := by
  apply ByteArray.ext
  apply Array.toList_inj.1
  unfold str bytesS
  simp only [List.map_map]
  conv => rhs; rw [← List.map_id s.data.toList]
  apply List.map_congr_left
  intro x _
  simp
theorem put_nil (W : World) (n : Int) (h0 : -9223372036854775808 ≤ n) (h1 : n ≤ 9223372036854775807) (k : Nat) (hk : k = (encN n).length) : Calls Try.prog 83 #[.slice none 0 0, .int .i64 n] W fun e w' => ∃ g cp, e = .returned (.slice (some ⟨g, 0, none⟩) k cp) ∧ Hid (w'.ownsRow W.heap.size 5 1 (.slice (some ⟨g, 0, none⟩) k cp) k (vals (encN n))) ∧ Hid (Below W.heap.size W w') := by
  refine (put_any W none 0 0 [] n ⟨Byt.nil W, fun _ => rfl⟩ (by omega) h0 h1).mono ?_
  rintro e w' ⟨g, cp, rfl, ho, hb⟩
  rw [List.nil_append] at ho ⊢
  rw [← hk] at ho ⊢
  exact ⟨g, cp, rfl, ho, hb⟩
theorem text_nil (W : World) (s : ByteArray) (hs : s.size ≤ 4096) (k : Nat) (hk : k = (textB (bytesS s)).length) : Calls Try.prog 74 #[.slice none 0 0, .string s] W fun e w' => ∃ g cp, e = .returned (.slice (some ⟨g, 0, none⟩) k cp) ∧ Hid (w'.ownsRow W.heap.size 5 1 (.slice (some ⟨g, 0, none⟩) k cp) k (vals (textB (bytesS s)))) ∧ Hid (Below W.heap.size W w') := by
  refine (text_any W none 0 0 [] s ⟨Byt.nil W, fun _ => rfl⟩ (by omega)).mono ?_
  rintro e w' ⟨g, cp, rfl, ho, hb⟩
  rw [List.nil_append] at ho ⊢
  rw [← hk] at ho ⊢
  exact ⟨g, cp, rfl, ho, hb⟩
theorem get_put (W : World) (n : Int) (h0 : -9223372036854775808 ≤ n) (h1 : n ≤ 9223372036854775807) (k : Nat) (hk : k = (encN n).length) (ad : Option Addr) (len cap : Nat) (bs : List Nat) (h : Byt W ad len cap (encN n ++ bs)) (hL : len ≤ 140737488355328) :
    Calls Try.prog 84 #[.slice ad len cap] W fun e w' => e = .returned (.tuple #[.int .i64 n, .int .i64 (k : Int)]) ∧ W = w' := by
  refine (get_any W ad len cap _ h hL).mono ?_
  rintro e w' ⟨rfl, rfl⟩
  rw [getB_encN h0 h1, hk]
  exact ⟨rfl, rfl⟩
theorem get_less (W : World) (n : Int) (h0 : -9223372036854775808 ≤ n) (h1 : n ≤ 9223372036854775807) (ad : Option Addr) (len cap j : Nat) (hj : j < (encN n).length) (h : Byt W ad len cap ((encN n).take j)) (hL : len ≤ 140737488355328) :
    Calls Try.prog 84 #[.slice ad len cap] W fun e w' => e = .returned (.tuple #[.int .i64 0, .int .i64 0]) ∧ W = w' := by
  refine (get_any W ad len cap _ h hL).mono ?_
  rintro e w' ⟨rfl, rfl⟩
  unfold encN at hj ⊢
  rw [getB_short (zig_lt h0 h1) j hj]
  exact ⟨rfl, rfl⟩
theorem cut_text (W : World) (s : ByteArray) (hs : s.size ≤ 4096) (k : Nat) (hk : k = (textB (bytesS s)).length) (ad : Option Addr) (len cap : Nat) (bs : List Nat) (h : Byt W ad len cap (textB (bytesS s) ++ bs)) (hL : len ≤ 140737488355328) :
    Calls Try.prog 76 #[.slice ad len cap, .int .i64 (s.size : Int)] W fun e w' => e = .returned (.tuple #[.string s, .int .i64 (k : Int)]) ∧ Hid (Below W.heap.size W w') := by
  refine (cut_any W ad len cap _ (s.size : Int) h hL (by omega) (by omega)).mono ?_
  rintro e w' ⟨rfl, hb⟩
  have hc := cutB_text (s := bytesS s) (by rw [length_bytesS]; omega) bs
  rw [length_bytesS] at hc
  rw [hc, hk, str_bytesS]
  exact ⟨rfl, hb⟩
theorem cut_less (W : World) (s : ByteArray) (hs : s.size ≤ 4096) (ad : Option Addr) (len cap : Nat) (h : Byt W ad len cap (textB (bytesS s))) (hL : len ≤ 140737488355328) :
    Calls Try.prog 76 #[.slice ad len cap, .int .i64 ((s.size : Int) - 1)] W fun e w' => e = .returned (.tuple #[.string ⟨#[]⟩, .int .i64 0]) ∧ Hid (Below W.heap.size W w') := by
  refine (cut_any W ad len cap _ ((s.size : Int) - 1) h hL (by omega) (by omega)).mono ?_
  rintro e w' ⟨rfl, hb⟩
  have hc := cutB_less (s := bytesS s) (by rw [length_bytesS]; omega)
  rw [length_bytesS] at hc
  rw [hc]
  exact ⟨rfl, hb⟩
def In64 (n : Int) : Prop := -9223372036854775808 ≤ n ∧ n ≤ 9223372036854775807
/-- A slice of int64 whose first len numbers are zs. -/
structure Nums (w : World) (ad : Option Addr) (len : Nat) (zs : List Int) : Prop where
  length : zs.length = len
  all : ∀ n ∈ zs, In64 n
  cells : len = 0 ∨ ∃ b off, ad = some ⟨b, off, none⟩ ∧ ∀ i, i < len → w.cell? ⟨b, off + i, none⟩ = some (.int .i64 (zs.getD i 0))
theorem Nums.keep {w w' : World} {ad : Option Addr} {len : Nat} {zs : List Int} (h : Nums w ad len zs) {B : Nat} (hb : Below B w w') (hB : w.heap.size ≤ B) : Nums w' ad len zs := by
  refine ⟨h.length, h.all, ?_⟩
  rcases h.cells with h0 | ⟨b, off, e, hc⟩
  · exact .inl h0
  · refine .inr ⟨b, off, e, fun i hi => ?_⟩
    have := hc i hi
    rw [hb.cell (p := ⟨b, off + i, none⟩) (by have := World.block_lt_of_cell? w _ this; exact Nat.lt_of_lt_of_le this hB)]
    exact this
theorem IsRow.nums {w : World} {a : Option Addr} {len cap : Nat} {zs : List Int} (h : IsRow .i64 w a len cap zs) : Nums w a len (zs.take len) ∧ len ≤ cap := by
  rcases h with ⟨rfl, rfl, rfl, rfl⟩ | ⟨x, rfl, hl, hm, hz, hc, hw⟩
  · exact ⟨⟨rfl, (fun x hx => by cases hx), .inl rfl⟩, Nat.le_refl _⟩
  · refine ⟨⟨by rw [List.length_take]; omega, ?_, ?_⟩, hl⟩
    · intro n hn
      have := bounds_i64 (hw n (List.mem_of_mem_take hn))
      exact ⟨by omega, by omega⟩
    · by_cases h0 : len = 0
      · exact .inl h0
      · obtain ⟨b, off, spot⟩ := x
        have h1 := hc 0 (by omega)
        have hs : spot = none := by simpa [Addr.add] using World.cell?_spot h1
        subst hs
        refine .inr ⟨b, off, rfl, fun i hi => ?_⟩
        have h2 := hc i (by omega)
        rw [add_at] at h2
        rw [h2]
        have e : (zs.take len).getD i 0 = zs.getD i 0 := by rw [List.getD_eq_getElem?_getD, List.getElem?_take, if_pos hi, ← List.getD_eq_getElem?_getD]
        rw [e]
/-- The numbers one behind the other, as bytes. -/
def encs (l : List Int) : List Nat := l.flatMap encN
theorem encs_snoc (l : List Int) (j : Nat) (h : j < l.length) : encs (l.take (j + 1)) = encs (l.take j) ++ encN (l.getD j 0) := by
  unfold encs
  rw [List.take_succ_eq_append_getElem h, List.flatMap_append, List.getD_eq_getElem?_getD, List.getElem?_eq_getElem h]
  simp
theorem encs_drop (l : List Int) (j : Nat) (h : j < l.length) : (encs l).drop (encs (l.take j)).length = encN (l.getD j 0) ++ encs (l.drop (j + 1)) := by
  have e : encs l = encs (l.take j) ++ encs (l.drop j) := by
    unfold encs
    rw [← List.flatMap_append, List.take_append_drop]
  rw [e, List.drop_append_of_le_length (Nat.le_refl _), List.drop_length, List.nil_append, List.drop_eq_getElem_cons h, List.getD_eq_getElem?_getD, List.getElem?_eq_getElem h]
  rfl
theorem encs_all {l : List Int} (h : ∀ n ∈ l, In64 n) : AllB (encs l) := by
  intro x hx
  obtain ⟨n, hn, hx⟩ := List.mem_flatMap.1 hx
  exact encN_all (h n hn).1 (h n hn).2 x hx
theorem encs_len {l : List Int} (h : ∀ n ∈ l, In64 n) : (encs l).length ≤ 10 * l.length := by
  induction l with
  | nil => simp [encs]
  | cons n r ih =>
    have h1 := encN_len (h n (by simp)).1 (h n (by simp)).2
    have h2 := ih (fun m hm => h m (by simp [hm]))
    unfold encs at h2 ⊢
    rw [List.flatMap_cons, List.length_append, List.length_cons]
    omega
/-- What the first bytes of numbers in a row begin with: nothing, or the first number. -/
theorem getB_encs (l : List Int) (h : ∀ n ∈ l, In64 n) (c : Nat) : getB ((encs l).take c) = (0, 0) ∨ (0 < l.length ∧ ∃ j, j ≠ 0 ∧ getB ((encs l).take c) = (l.getD 0 0, j)) := by
  cases l with
  | nil => left; simp [encs]; rfl
  | cons n r =>
    have hn := h n (by simp)
    have e : encs (n :: r) = encN n ++ encs r := by unfold encs; rw [List.flatMap_cons]
    have h1 := encN_len hn.1 hn.2
    rw [e]
    by_cases hc : c < (encN n).length
    · left
      rw [List.take_append_of_le_length (by omega)]
      exact getB_short (zig_lt hn.1 hn.2) c hc
    · right
      refine ⟨by simp, (encN n).length, by omega, ?_⟩
      have e2 : (encN n ++ encs r).take c = encN n ++ (encs r).take (c - (encN n).length) := by
        rw [List.take_append, List.take_of_length_le (by omega)]
      rw [e2, getB_encN hn.1 hn.2]
      rfl
theorem encN_one {n : Int} : (encN n).length = 1 ↔ (-64 ≤ n ∧ n < 64) := by unfold encN; rw [enc_one, zig_small]
theorem get_is (W : World) (ad : Option Addr) (len cap : Nat) (bs : List Nat) (h : Byt W ad len cap bs) (hL : len ≤ 140737488355328) (n : Int) (k : Nat) (hg : getB bs = (n, k)) :
    Calls Try.prog 84 #[.slice ad len cap] W fun e w' => e = .returned (.tuple #[.int .i64 n, .int .i64 (k : Int)]) ∧ W = w' := by
  refine (get_any W ad len cap _ h hL).mono ?_
  rintro e w' ⟨rfl, rfl⟩
  rw [hg]
  exact ⟨rfl, rfl⟩
theorem byt_upto {w : World} {ad : Option Addr} {len cap : Nat} {bs : List Nat} (h : Byt w ad len cap bs) (l : Nat) (hl : l ≤ len) : Byt w ad l cap (bs.take l) := by
  refine ⟨by rw [List.length_take, h.length]; omega, Nat.le_trans hl h.fits, take_all h.all l, ?_⟩
  rcases h.cells with h0 | ⟨b, off, e, hc⟩
  · exact .inl (by omega)
  · refine .inr ⟨b, off, e, fun i hi => ?_⟩
    rw [hc i (by omega)]
    have : (bs.take l).getD i 0 = bs.getD i 0 := by rw [List.getD_eq_getElem?_getD, List.getElem?_take, if_pos hi, ← List.getD_eq_getElem?_getD]
    rw [this]
theorem byt_from {w : World} {b off len cap : Nat} {bs : List Nat} (h : Byt w (some ⟨b, off, none⟩) len cap bs) (l : Nat) (hl : l ≤ len) : Byt w (some ⟨b, if cap = l then off else off + l, none⟩) (len - l) (cap - l) (bs.drop l) := by
  refine ⟨by rw [List.length_drop, h.length], by have := h.fits; omega, fun x hx => h.all x (List.mem_of_mem_drop hx), ?_⟩
  by_cases hm : len - l = 0
  · exact .inl hm
  · rcases h.cells with h0 | ⟨b', off', e, hc⟩
    · omega
    · cases e
      have hf := h.fits
      refine .inr ⟨b, off + l, by rw [if_neg (by omega)], fun i hi => ?_⟩
      rw [Nat.add_assoc, hc (l + i) (by omega)]
      congr 3
      rw [List.getD_eq_getElem?_getD, List.getD_eq_getElem?_getD, List.getElem?_drop]
theorem mask6 (a : Int) : bits .and .i64 a 63 = a % 64 := by
  have h1 : (BitVec.ofInt 64 63).toNat = 2 ^ 6 - 1 := by decide
  have key : (BitVec.ofInt 64 a &&& BitVec.ofInt 64 63).toNat = (a % ((2 ^ 64 : Nat) : Int)).toNat % 2 ^ 6 := by
    rw [BitVec.toNat_and, BitVec.toNat_ofInt, h1, Nat.and_two_pow_sub_one_eq_mod]
  show IntKind.i64.wrap ((BitVec.ofInt 64 a &&& BitVec.ofInt 64 63).toNat : Nat) = _
  rw [key, IntKind.wrap_i64]
  omega
theorem mask6_nat (a : Int) : ∃ m : Nat, bits .and .i64 a 63 = (m : Int) ∧ m < 64 := ⟨(a % 64).toNat, by rw [mask6]; omega, by omega⟩
theorem shr_in (n : Int) (m : Nat) (h0 : -9223372036854775808 ≤ n) (h1 : n ≤ 9223372036854775807) : -9223372036854775808 ≤ n / 2 ^ m ∧ n / 2 ^ m ≤ 9223372036854775807 := by
  have hp : (0 : Int) < 2 ^ m := Int.pow_pos (by omega)
  constructor
  · rw [Int.le_ediv_iff_mul_le hp]
    have h2 : (1 : Int) ≤ 2 ^ m := hp
    have := Int.mul_le_mul_of_nonneg_left h2 (show (0 : Int) ≤ 9223372036854775808 by omega)
    rw [Int.neg_mul]
    omega
  · by_cases h : 0 ≤ n
    · exact Int.le_trans (Int.ediv_le_self _ h) h1
    · have := Int.ediv_neg_of_neg_of_pos (by omega : n < 0) hp
      omega
theorem in_zig {n : Int} (h0 : -9223372036854775808 ≤ n) (h1 : n ≤ 9223372036854775807) : AllB (encN n) := enc_all (zig_lt h0 h1)
theorem in_text {s : List Nat} (h : AllB s) (hl : s.length < 9223372036854775808) : AllB (textB s) := all_append (enc_all (by omega)) h
theorem gives_reads {W w' : World} {bs : List Nat} {e : Ending} {t : ByteArray} (h : GivesRow W bs e w') (ha : AllB bs) (ht : t = str bs) : ∃ v, e = .returned v ∧ Hid (Reads w' v t) ∧ Hid (Below W.heap.size W w') := by
  obtain ⟨g, cap, rfl, ho, hb⟩ := h
  exact ⟨_, rfl, by rw [ht]; exact Reads.of (owns_row ho ha).1, hb⟩
theorem wrap64_in (x : Int) : -9223372036854775808 ≤ wrap64 x ∧ wrap64 x ≤ 9223372036854775807 := by unfold wrap64; omega
theorem all_zero : AllB [0] := all_small (by decide)
theorem row_seven (W : World) : Row (W.drew.alloc (.cells #[.int .u8 7] 5)) (some ⟨W.heap.size, 0, none⟩) 1 1 [7] := row_byte W.drew 7 (by omega)
theorem row_zero (W : World) : Row (W.alloc (.cells #[.int .u8 0] 5)) (some ⟨W.heap.size, 0, none⟩) 1 1 [0] := row_byte W 0 (by omega)
theorem row_two (W : World) (z : Nat) (hz : z < 256) : Row (W.alloc (.cells #[.int .u8 (z : Int), .int .u8 0] 5)) (some ⟨W.heap.size, 0, none⟩) 2 2 [z, 0] :=
  ⟨(own_new W [z, 0]).byt (fun x hx => by simp at hx; omega) 2 (by simp), fun h => by cases h⟩
theorem row_cut {w : World} {base g n cap : Nat} {bs : List Nat} (h : w.ownsRow base 5 1 (.slice (some ⟨g, 0, none⟩) n cap) n (vals bs)) (ha : AllB bs) (l : Nat) (hl : l ≤ n) (o : Obj) : Row (w.alloc o) (some ⟨g, 0, none⟩) l l (bs.take l) := by
  have h1 := (byt_upto (owns_row h ha).1 l hl).keep ((Below.refl w.heap.size w).alloc (Nat.le_refl _) o) (Nat.le_refl _)
  exact ⟨⟨h1.length, Nat.le_refl _, h1.all, h1.cells⟩, fun h => by cases h⟩
theorem run_upto_max (a : Addr) (len cap h : Nat) (hc : h ≤ cap) (w : World) :
    (Instr.slice 34 (.slice (some a) len cap) none (some (.int .i64 (h : Int))) (some (.int .i64 (h : Int)))).run Try.prog w = .ok (.slice (some a) h h) w := by
  rw [run_slice_hm _ _ _ _ _ elem22 _ _ _ _ (by omega) (by omega) (by omega), sizeElem]
  simp only [Result.andThen, sliced, Int.toNat_natCast]
  simp [Addr.add]
theorem text_cut (r : Nat) (hr : r ≤ 4) : ∃ s : ByteArray, s.size ≤ 4000 ∧ ∀ W, (Instr.slice 9 (.string ⟨#[116, 101, 120, 116]⟩) none (some (.int .u64 (r : Int))) none).run Try.prog W = .ok (.string s) W := by
  refine ⟨(⟨#[116, 101, 120, 116]⟩ : ByteArray).extract 0 r, by rw [ByteArray.size_extract]; omega, fun W => ?_⟩
  rw [run_slice_string_h]
  · simp
  · exact Try.underlying9
  · omega
  · show (r : Int) ≤ 4
    omega
theorem refPut_nil (W : World) (n : Int) (h0 : -9223372036854775808 ≤ n) (h1 : n ≤ 9223372036854775807) (k : Nat) (hk : k = (encN n).length) : Calls Try.prog 70 #[.slice none 0 0, .int .i64 n] W fun e w' => ∃ g cp, e = .returned (.slice (some ⟨g, 0, none⟩) k cp) ∧ Hid (w'.ownsRow W.heap.size 5 1 (.slice (some ⟨g, 0, none⟩) k cp) k (vals (encN n))) ∧ Hid (Below W.heap.size W w') := by
  refine (refPut_any W none 0 0 [] n ⟨Byt.nil W, fun _ => rfl⟩ (by omega) h0 h1).mono ?_
  rintro e w' ⟨g, cp, rfl, ho, hb⟩
  rw [List.nil_append] at ho ⊢
  rw [← hk] at ho ⊢
  exact ⟨g, cp, rfl, ho, hb⟩
theorem owns_reads {w : World} {base n cap : Nat} {a : Option Addr} {bs : List Nat} (h : w.ownsRow base 5 1 (.slice a n cap) n (vals bs)) (ha : AllB bs) : Byt w a n cap bs := by
  obtain ⟨ad, cap', e, hr⟩ := owns_any h ha
  cases e
  exact hr.1
theorem refText_whole (W : World) : Calls Try.prog 49 #[.slice none 0 0, .string ⟨#[119, 104, 111, 108, 101]⟩] W fun e w' => ∃ g cp, e = .returned (.slice (some ⟨g, 0, none⟩) 6 cp) ∧ Hid (Byt w' (some ⟨g, 0, none⟩) 6 cp [10, 119, 104, 111, 108, 101]) ∧ Hid (Below W.heap.size W w') := by
  refine (refText_any W none 0 0 [] ⟨#[119, 104, 111, 108, 101]⟩ ⟨Byt.nil W, fun _ => rfl⟩ (by decide)).mono ?_
  rintro e w' ⟨g, cp, rfl, ho, hb⟩
  exact ⟨g, cp, rfl, (owns_row (bs := [10, 119, 104, 111, 108, 101]) ho (all_small (by decide))).1, hb⟩
end Go.Proofs.Ytlpmfhccfihnfaa
