/- The walk of 'VarintLongs'. Condition: the row takes no more than a row that is read may. -/
import Derived.Test.YtnahagcjieckeaaVarKnown
import Derived.Test.YtnahagcjieckeaaKeep
namespace Go.Proofs.Ytnahagcjieckeaa
open Go.RowKit
open Go.VarMath hiding AllB
set_option linter.unusedVariables false

theorem mask62 (a : Int) : bits .and .i64 a 4611686018427387903 = a % 4611686018427387904 := by
  have h1 : (BitVec.ofInt 64 4611686018427387903).toNat = 2 ^ 62 - 1 := by decide
  have key : (BitVec.ofInt 64 a &&& BitVec.ofInt 64 4611686018427387903).toNat = (a % ((2 ^ 64 : Nat) : Int)).toNat % 2 ^ 62 := by
    rw [BitVec.toNat_and, BitVec.toNat_ofInt, h1, Nat.and_two_pow_sub_one_eq_mod]
  show IntKind.i64.wrap ((BitVec.ofInt 64 a &&& BitVec.ofInt 64 4611686018427387903).toNat : Nat) = _
  rw [key, IntKind.wrap_i64]
  omega
theorem mask62_nat (a : Int) : ∃ x : Nat, bits .and .i64 a 4611686018427387903 = (x : Int) ∧ x < 4611686018427387904 :=
  ⟨(a % 4611686018427387904).toNat, by rw [mask62]; omega, by omega⟩
theorem ofNat_lt {a b : Nat} (ha : a < 256) (hb : b < 256) : (UInt8.ofNat a < UInt8.ofNat b) ↔ a < b := by
  rw [UInt8.lt_iff_toNat_lt]; simp [Nat.mod_eq_of_lt ha, Nat.mod_eq_of_lt hb]
theorem ofNat_eq {a b : Nat} (ha : a < 256) (hb : b < 256) : (UInt8.ofNat a = UInt8.ofNat b) ↔ a = b := by
  rw [← UInt8.toNat_inj]; simp [Nat.mod_eq_of_lt ha, Nat.mod_eq_of_lt hb]
/-- Rows of as many bytes, the most significant first, go as their numbers go. -/
theorem less_be : ∀ k u v, Op.bytesLess ((beB k u).map UInt8.ofNat) ((beB k v).map UInt8.ofNat) = decide (u % 256 ^ k < v % 256 ^ k)
  | 0, u, v => by simp [beB, Op.bytesLess, Nat.mod_one]
  | k + 1, u, v => by
    have ha : u / 256 ^ k % 256 < 256 := Nat.mod_lt _ (by omega)
    have hb : v / 256 ^ k % 256 < 256 := Nat.mod_lt _ (by omega)
    have hu := Nat.mod_mul (x := u) (a := 256 ^ k) (b := 256)
    have hv := Nat.mod_mul (x := v) (a := 256 ^ k) (b := 256)
    have hp : 0 < 256 ^ k := Nat.pow_pos (by omega)
    have hul := Nat.mod_lt u hp
    have hvl := Nat.mod_lt v hp
    rw [beB, beB, List.map_cons, List.map_cons, Op.bytesLess, less_be k u v, Nat.pow_succ, hu, hv]
    obtain ⟨a, hae⟩ : ∃ a, a = u / 256 ^ k % 256 := ⟨_, rfl⟩
    obtain ⟨b, hbe⟩ : ∃ b, b = v / 256 ^ k % 256 := ⟨_, rfl⟩
    rw [← hae] at ha ⊢
    rw [← hbe] at hb ⊢
    rw [Bool.eq_iff_iff]
    simp only [Bool.or_eq_true, Bool.and_eq_true, decide_eq_true_eq, beq_iff_eq, ofNat_lt ha hb, ofNat_eq ha hb]
    generalize 256 ^ k = P at *
    generalize u % P = U at *
    generalize v % P = V at *
    rcases Nat.lt_trichotomy a b with h | h | h
    · have h2 : P * (a + 1) ≤ P * b := Nat.mul_le_mul_left P h
      rw [Nat.mul_add, Nat.mul_one] at h2
      constructor
      · intro _; omega
      · intro _; exact .inl h
    · subst h
      constructor
      · rintro (h1 | ⟨_, h1⟩)
        · omega
        · omega
      · intro h1; exact .inr ⟨rfl, by omega⟩
    · have h2 : P * (b + 1) ≤ P * a := Nat.mul_le_mul_left P h
      rw [Nat.mul_add, Nat.mul_one] at h2
      constructor
      · rintro (h1 | ⟨h1, _⟩) <;> omega
      · intro h1; omega
theorem low64_nat (x : Nat) (h : x < 18446744073709551616) : low64 (x : Int) = x := by unfold low64; omega
theorem less_long (x y : Nat) (hx : x < 4611686018427387904) (hy : y < 4611686018427387904) : Op.bytesLess (str (longB (x : Int))).toList (str (longB (y : Int))).toList = decide (x < y) := by
  rw [str_toList, str_toList]
  unfold longB
  rw [less_be, low64_nat x (by omega), low64_nat y (by omega), pow8, Nat.mod_eq_of_lt (by omega), Nat.mod_eq_of_lt (by omega)]
theorem owns_of_block {w w' : World} {base e size n g cap : Nat} {xs : List Value} (h : w.ownsRow base e size (.slice (some ⟨g, 0, none⟩) n cap) n xs) (hb : w'.heap[g]? = w.heap[g]?) : w'.ownsRow base e size (.slice (some ⟨g, 0, none⟩) n cap) n xs := by
  refine ⟨h.1, ?_⟩
  rcases h.2 with h0 | ⟨g', cap', cur, hv, hg, hh, r⟩
  · exact .inl h0
  · cases hv
    exact .inr ⟨g, cap, cur, rfl, hg, hb.trans hh, r⟩
theorem long_nil (W : World) (n : Int) (h0 : -9223372036854775808 ≤ n) (h1 : n ≤ 9223372036854775807) : Calls Try.prog 19 #[.slice none 0 0, .int .i64 n] W fun e w' => ∃ g cp, e = .returned (.slice (some ⟨g, 0, none⟩) 8 cp) ∧ Hid (w'.ownsRow W.heap.size 5 1 (.slice (some ⟨g, 0, none⟩) 8 cp) 8 (vals (longB n))) ∧ Hid (Below W.heap.size W w') := by
  refine (long_any W none 0 0 [] n ⟨Byt.nil W, fun _ => rfl⟩ (by omega) h0 h1).mono ?_
  rintro e w' ⟨g, cp, rfl, ho, hb⟩
  exact ⟨g, cp, rfl, ho, hb⟩
theorem back_long (W : World) (n : Int) (h0 : -9223372036854775808 ≤ n) (h1 : n ≤ 9223372036854775807) (ad : Option Addr) (len cap : Nat) (bs : List Nat) (h : Byt W ad len cap (longB n ++ bs)) (hL : len ≤ 140737488355328) :
    Calls Try.prog 18 #[.slice ad len cap] W fun e w' => e = .returned (.tuple #[.int .i64 n, .bool true]) ∧ W = w' := by
  refine (back_any W ad len cap _ h hL).mono ?_
  rintro e w' ⟨rfl, rfl⟩
  rw [backB_long h0 h1]
  exact ⟨rfl, rfl⟩
set_option maxRecDepth 100000 in
set_option maxHeartbeats 1000000 in
theorem longs_any (w : World) (a b : Int) (ad : Option Addr) (len cap : Nat) (bs : List Nat) (h : Row w ad len cap bs) (hL : len ≤ 140737488351232) :
    Calls Try.prog 7 #[.int .i64 a, .int .i64 b, .slice ad len cap] w fun e w' => e = .returned (.bool true) ∧ Below w.heap.size w w' := by
  obtain ⟨x, hx, hx6⟩ := mask62_nat a
  obtain ⟨y, hy, hy6⟩ := mask62_nat b
  have HR := Lib.hid h
  clear h
  go_enter Try.func7, Try.ntmps7
  go_wp2_with fail
  refine (long_nil w (x : Int) (by omega) (by omega)).mono ?_
  rintro e w1 ⟨g1, c1, rfl, HO1, HB1⟩
  go_wp2_with fail
  refine (long_nil w1 (y : Int) (by omega) (by omega)).mono ?_
  rintro e w2 ⟨g2, c2, rfl, HO2, hb2⟩
  have HP2 := Lib.hid (owns_keep HO1.out hb2.out (Nat.le_refl _))
  have HB2 : Hid (Below w.heap.size w w2) := HB1.out.trans (hb2.out.mono HB1.out.size)
  have hg12 : g1 < w1.heap.size := (pre_owns HO1.out).1.lt
  have hg21 : w1.heap.size ≤ g2 := (pre_owns HO2.out).2.2.2.1
  have hg22 : g2 < w2.heap.size := (pre_owns HO2.out).1.lt
  clear hb2 hx hy
  go_wp2_with (at_builtin; refine append_keep rfl (.tmp 22) (.tmp 23) rfl w.heap.size g1 c1 8 (longB x) bs rfl HP2.out HB2.out.size ad len cap rfl (HR.out.keep HB2.out (Nat.le_refl _)) (by omega) w HB2.out ?_)
  intro g3 c3 w3 ho3 hp3 hb3 hot
  have HO3 := Lib.hid (owns_row ho3 (all_append (longB_all _) HR.out.1.all)).1
  have HB3 := Lib.hid hb3
  obtain ⟨s1, hs1⟩ : ∃ s1, s1 = str (longB (x : Int)) := ⟨_, rfl⟩
  obtain ⟨s2, hs2⟩ : ∃ s2, s2 = str (longB (y : Int)) := ⟨_, rfl⟩
  have hcv1 := run_str_at (owns_row hp3 (longB_all _)).1 hs1
  have hcv2 := run_str_at (owns_row (owns_of_block HO2.out (hot g2 hg22 (by omega))) (longB_all _)).1 hs2
  have hless : Op.bytesLess s1.toList s2.toList = decide (x < y) := by rw [hs1, hs2]; exact less_long x y hx6 hy6
  clear ho3 hp3 hb3 hot hs1 hs2 hg12 hg21 hg22
  by_cases hxy : x < y
  · rw [decide_eq_true hxy] at hless
    have hd : decide ((x : Int) < (y : Int)) = true := by simp; omega
    go_wp2_with fail
    refine (back_long w3 (x : Int) (by omega) (by omega) _ _ _ bs HO3.out (by omega)).mono ?_
    rintro e w' ⟨rfl, rfl⟩
    go_wp2_with fail
    refine (known_any w3).mono ?_
    rintro e w4 ⟨rfl, hb4⟩
    go_wp2
    go_ret
    exact ⟨rfl, HB3.out.trans (hb4.mono HB3.out.size)⟩
  · rw [decide_eq_false hxy] at hless
    have hd : decide ((x : Int) < (y : Int)) = false := by simp; omega
    go_wp2_with fail
    refine (back_long w3 (x : Int) (by omega) (by omega) _ _ _ bs HO3.out (by omega)).mono ?_
    rintro e w' ⟨rfl, rfl⟩
    go_wp2_with fail
    refine (known_any w3).mono ?_
    rintro e w4 ⟨rfl, hb4⟩
    go_wp2
    go_ret
    exact ⟨rfl, HB3.out.trans (hb4.mono HB3.out.size)⟩
end Go.Proofs.Ytnahagcjieckeaa
