/- The walk of 'CrcTells'. Condition: the row takes no more than a row that is read may. -/
import Derived.Test.YtepbmipddblkmaaSame
import Derived.Test.YtepbmipddblkmaaArgs
namespace Go.Proofs.Ytepbmipddblkmaa
open Go.RowKit Go.CrcMath
set_option linter.unusedVariables false

/-- 'Within' from 0 on gives a place up to the last one. -/
theorem within_in (n hi : Int) (w : World) (h0 : 0 ≤ n) (h1 : n ≤ hi) : Calls Try.prog 10 #[.int .i64 n, .int .i64 0, .int .i64 hi] w fun e w' => e = .returned (.int .i64 n) ∧ w = w' := by
  go_enter Try.func10, Try.ntmps10
  go_wp2
  go_ret
  exact ⟨rfl, rfl⟩
theorem as_nat {X hi : Int} {w : World} (h0 : 0 ≤ X) (h1 : X ≤ hi) : ∃ k : Nat, Ending.returned (.int .i64 X) = .returned (.int .i64 k) ∧ (k : Int) ≤ hi ∧ w = w :=
  ⟨X.toNat, by rw [Int.toNat_of_nonneg h0], by omega, rfl⟩
theorem within_any (n hi : Int) (w : World) (hn : -9223372036854775808 ≤ n ∧ n ≤ 9223372036854775807) (hh : 0 ≤ hi ∧ hi ≤ 281474976710656) :
    Calls Try.prog 10 #[.int .i64 n, .int .i64 0, .int .i64 hi] w fun e w' => ∃ k : Nat, e = .returned (.int .i64 k) ∧ (k : Int) ≤ hi ∧ w = w' := by
  by_cases h : 0 ≤ n ∧ n ≤ hi
  · refine (within_in n hi w h.1 h.2).mono ?_
    rintro e w' ⟨rfl, rfl⟩
    exact ⟨n.toNat, by rw [Int.toNat_of_nonneg h.1], by omega, rfl⟩
  · have hg : (decide (0 ≤ n) && decide (n ≤ hi)) = false := by
      simp only [Bool.and_eq_false_iff, decide_eq_false_iff_not]; omega
    have m1 : n.tmod (hi + 1) < hi + 1 := Int.tmod_lt_of_pos _ (by omega)
    have m2 : -(hi + 1) < n.tmod (hi + 1) := by
      have := Int.tmod_lt_of_pos (-n) (b := hi + 1) (by omega)
      rw [Int.neg_tmod] at this
      omega
    have m3 : n % (hi + 1) < hi + 1 := Int.emod_lt_of_pos _ (by omega)
    have m4 : 0 ≤ n % (hi + 1) := Int.emod_nonneg _ (by omega)
    go_enter Try.func10, Try.ntmps10
    go_wp2
    all_goals
      go_ret
      exact as_nat (by omega) (by omega)

theorem and255 (c : Nat) (h : c < 4294967296) : bits .and .u32 (c : Int) 255 = ((c % 256 : Nat) : Int) := by
  have := u32_and_nat c 255 h (by omega)
  rw [nat_mask8] at this
  exact this
set_option maxHeartbeats 1000000 in
theorem tells_any (w : World) (ad : Option Addr) (len cap : Nat) (bs : List Nat) (c x : Nat) (at' : Int) (turn : Nat) (h : Byt w ad len cap bs) (hn : ad = none → cap = 0) (hL : len ≤ 140737488351232) (hc : c < 4294967296) (hx : x < 256)
    (ha : -9223372036854775808 ≤ at' ∧ at' ≤ 9223372036854775807) (ht : turn < 256) :
    Calls Try.prog 4 #[.slice ad len cap, .int .u32 c, .int .u8 x, .int .i64 at', .int .u8 turn] w fun e w' => e = .returned (.bool true) ∧ Below w.heap.size w w' := by
  have HB := Lib.hid h
  have HN := Lib.hid hn
  clear h hn
  go_enter Try.func4, Try.ntmps4
  go_wp2_with fail
  refine (sealed_any w ad len cap bs HB.out HN.out (by omega)).mono ?_
  rintro e w1 ⟨v, rfl, g, cp, rfl, hcp, hg, hpr, hb1⟩
  have hl : (sealB bs).length = len + 4 := by rw [length_sealB, HB.out.length]
  rw [hl] at hcp ⊢
  have HP := Lib.hid hpr
  have HB1 := Lib.hid hb1
  have HL := Lib.hid hl
  clear hpr hb1 hl
  go_wp2_with fail
  refine (within_any at' ((len : Int) + 4 - 1) w1 ha (by omega)).mono ?_
  rintro e w' ⟨k, rfl, hk, rfl⟩
  have hk' : k < len + 4 := by omega
  have hcell := HP.out.cell k (by rw [HL.out]; exact hk')
  have hfree := HP.out.free k
  obtain ⟨y, hy⟩ : ∃ y, y = (sealB bs).getD k 0 := ⟨_, rfl⟩
  rw [← hy] at hcell
  have hy8 : y < 256 := by rw [hy]; exact getD_all (sealB_all HB.out.all) k
  have hxor := u8_xor_nat y turn hy8 ht
  have hpr2 := HP.out.set k (y ^^^ turn)
  have hal : AllB ((sealB bs).set k (y ^^^ turn)) := by
    intro z hz
    rcases List.mem_or_eq_of_mem_set hz with h1 | h1
    · exact sealB_all HB.out.all z h1
    · rw [h1]; exact Nat.xor_lt_two_pow (n := 8) hy8 ht
  obtain ⟨S, hS⟩ : ∃ S, S = (sealB bs).set k (y ^^^ turn) := ⟨_, rfl⟩
  have hSl : S.length = len + 4 := by rw [hS, List.length_set, HL.out]
  rw [← hS] at hpr2 hal
  have HY2 : Hid (Byt (w1.setCell ⟨g, k, none⟩ (.int .u8 (y ^^^ turn : Nat))) (some ⟨g, 0, none⟩) (len + 4) cp S) := by
    have := hpr2.byt hal cp (by rw [hSl]; exact hcp)
    rw [hSl] at this
    exact this
  have HB2 : Hid (Below w.heap.size w (w1.setCell ⟨g, k, none⟩ (.int .u8 (y ^^^ turn : Nat)))) := HB1.out.setCell (p := ⟨g, k, none⟩) hg _
  have h255 := and255 c hc
  clear hy hS hpr2 hal hSl
  go_wp2_with fail
  obtain ⟨w2, hw2⟩ : ∃ w2, w2 = w1.setCell ⟨g, k, none⟩ (.int .u8 (y ^^^ turn : Nat)) := ⟨_, rfl⟩
  rw [← hw2] at HY2 HB2 ⊢
  clear hw2 hcell hfree hxor
  refine (same_any w2 ad len cap bs c x (HB.out.keep HB2.out (Nat.le_refl _)) HN.out (by omega) hc hx).mono ?_
  rintro e w3 ⟨rfl, hb3⟩
  have HB3 : Hid (Below w.heap.size w w3) := HB2.out.trans (hb3.mono HB2.out.size)
  have HY3 := Lib.hid (HY2.out.keep hb3 (Nat.le_refl _))
  clear hb3
  go_wp2_with fail
  refine (same_any w3 _ _ _ S (c % 256) x HY3.out (fun h => by cases h) (by omega) (by omega) hx).mono ?_
  rintro e w4 ⟨rfl, hb4⟩
  have HB4 : Hid (Below w.heap.size w w4) := HB3.out.trans (hb4.mono HB3.out.size)
  clear hb4
  go_wp2_with fail
  refine (sealed_any w4 ad len cap bs (HB.out.keep HB4.out (Nat.le_refl _)) HN.out (by omega)).mono ?_
  rintro e w5 ⟨v, rfl, g5, cp5, rfl, hcp5, hg5, hpr5, hb5⟩
  have HB5 : Hid (Below w.heap.size w w5) := HB4.out.trans (hb5.mono HB4.out.size)
  have HY5 := Lib.hid (hpr5.byt (sealB_all HB.out.all) cp5 hcp5)
  rw [HL.out] at HY5 ⊢
  clear hpr5 hb5 hcp5 hg5
  go_wp2_with fail
  refine (same_any w5 _ _ _ (sealB bs) c x HY5.out (fun h => by cases h) (by omega) hc hx).mono ?_
  rintro e w6 ⟨rfl, hb6⟩
  have HB6 : Hid (Below w.heap.size w w6) := HB5.out.trans (hb6.mono HB5.out.size)
  clear hb6
  go_wp2_with fail
  refine (known_any w6).mono ?_
  rintro e w7 ⟨rfl, hb7⟩
  go_wp2
  go_ret
  exact ⟨rfl, HB6.out.trans (hb7.mono HB6.out.size)⟩
end Go.Proofs.Ytepbmipddblkmaa
