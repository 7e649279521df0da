/- The code's own batch, chapter 6: offset, unowned, owned, rightMarker, rightData: which errors a batch has. -/
import Derived.Test.YtlpmfhccfihnfaaBatPlain2
import Derived.Test.YtlpmfhccfihnfaaSeqRight
namespace Go.Proofs.Ytlpmfhccfihnfaa
open Go.RowKit
open Go.SeqMath
open Go.BatMath
set_option linter.unusedVariables false

theorem batOffset_any (n : Int) (w : World) (r : Bool) (hr : (decide (0 ≤ n) && decide (n ≤ 1099511627776)) = r) :
    Calls Try.prog 38 #[.int .i64 n] w fun e w' => e = .returned (.bool r) ∧ w = w' := by
  by_cases h0 : 0 ≤ n
  · by_cases h1 : n ≤ 1099511627776
    · obtain rfl : r = true := by rw [← hr]; simp [h0, h1]
      clear hr
      go_enter Try.func38, Try.ntmps38
      go_wp2
      go_ret
      exact ⟨rfl, rfl⟩
    · obtain rfl : r = false := by rw [← hr]; simp [h1]
      have h1' : 1099511627776 < n := by omega
      clear hr
      go_enter Try.func38, Try.ntmps38
      go_wp2
      go_ret
      exact ⟨rfl, rfl⟩
  · obtain rfl : r = false := by rw [← hr]; simp [h0]
    have h0' : n < 0 := by omega
    clear hr
    go_enter Try.func38, Try.ntmps38
    go_wp2
    go_ret
    exact ⟨rfl, rfl⟩
theorem batOwned_any (w : World) (b0 b1 b2 b3 : Int) (b4 : Bool) (b5 : Int) (v : Value) (r : Bool) (hr : (decide (0 ≤ b1) && (decide (0 ≤ b2) && decide (b2 ≤ 32767))) = r) :
    Calls Try.prog 66 #[.agg #[.int .i64 b0, .int .i64 b1, .int .i64 b2, .int .i64 b3, .bool b4, .int .i64 b5, v]] w fun e w' => e = .returned (.bool r) ∧ Below w.heap.size w w' := by
  by_cases h0 : 0 ≤ b1
  · by_cases h1 : 0 ≤ b2
    · by_cases h2 : b2 ≤ 32767
      · obtain rfl : r = true := by rw [← hr]; simp [h0, h1, h2]
        clear hr
        go_enter Try.func66, Try.ntmps66
        go_wp2
        go_ret
        exact ⟨rfl, (Below.refl _ _).alloc (Nat.le_refl _) _⟩
      · obtain rfl : r = false := by rw [← hr]; simp [h2]
        have h2' : 32767 < b2 := by omega
        clear hr
        go_enter Try.func66, Try.ntmps66
        go_wp2
        go_ret
        exact ⟨rfl, (Below.refl _ _).alloc (Nat.le_refl _) _⟩
    · obtain rfl : r = false := by rw [← hr]; simp [h1]
      have h1' : b2 < 0 := by omega
      clear hr
      go_enter Try.func66, Try.ntmps66
      go_wp2
      go_ret
      exact ⟨rfl, (Below.refl _ _).alloc (Nat.le_refl _) _⟩
  · obtain rfl : r = false := by rw [← hr]; simp [h0]
    have h0' : b1 < 0 := by omega
    clear hr
    go_enter Try.func66, Try.ntmps66
    go_wp2
    go_ret
    exact ⟨rfl, (Below.refl _ _).alloc (Nat.le_refl _) _⟩
theorem batUnowned_any (w : World) (b0 b1 b2 b3 : Int) (b4 : Bool) (b5 : Int) (v : Value) (r : Bool) (hr : (decide (b1 = -1) && (decide (b2 = -1) && (decide (b3 = -1) && !b4))) = r) :
    Calls Try.prog 65 #[.agg #[.int .i64 b0, .int .i64 b1, .int .i64 b2, .int .i64 b3, .bool b4, .int .i64 b5, v]] w fun e w' => e = .returned (.bool r) ∧ Below w.heap.size w w' := by
  cases h1 : (b1 == -1)
  · obtain rfl : r = false := by rw [← hr]; have : ¬ b1 = -1 := by simpa using h1
                                 simp [this]
    clear hr
    go_enter Try.func65, Try.ntmps65
    go_wp2
    go_ret
    exact ⟨rfl, (Below.refl _ _).alloc (Nat.le_refl _) _⟩
  · cases h2 : (b2 == -1)
    · obtain rfl : r = false := by rw [← hr]; have : ¬ b2 = -1 := by simpa using h2
                                   simp [this]
      clear hr
      go_enter Try.func65, Try.ntmps65
      go_wp2
      go_ret
      exact ⟨rfl, (Below.refl _ _).alloc (Nat.le_refl _) _⟩
    · cases h3 : (b3 == -1)
      · obtain rfl : r = false := by rw [← hr]; have : ¬ b3 = -1 := by simpa using h3
                                     simp [this]
        clear hr
        go_enter Try.func65, Try.ntmps65
        go_wp2
        go_ret
        exact ⟨rfl, (Below.refl _ _).alloc (Nat.le_refl _) _⟩
      · have q1 : b1 = -1 := by simpa using h1
        have q2 : b2 = -1 := by simpa using h2
        have q3 : b3 = -1 := by simpa using h3
        cases b4
        · obtain rfl : r = true := by rw [← hr]; simp [q1, q2, q3]
          clear hr q1 q2 q3
          go_enter Try.func65, Try.ntmps65
          go_wp2
          go_ret
          exact ⟨rfl, (Below.refl _ _).alloc (Nat.le_refl _) _⟩
        · obtain rfl : r = false := by rw [← hr]; simp
          clear hr q1 q2 q3
          go_enter Try.func65, Try.ntmps65
          go_wp2
          go_ret
          exact ⟨rfl, (Below.refl _ _).alloc (Nat.le_refl _) _⟩
def rmE (b : Bat) : Int := if (b.marker = 1 ∨ b.marker = 2) ∧ headB b = true ∧ b.seq = -1 ∧ b.txn = true ∧ b.recs = [] then 0 else 12
theorem rm_no {b : Bat} (h : ¬ ((b.marker = 1 ∨ b.marker = 2) ∧ headB b = true ∧ b.seq = -1 ∧ b.txn = true ∧ b.recs = [])) : rmE b = 12 := by unfold rmE; rw [if_neg h]
theorem rm_yes {b : Bat} (h : (b.marker = 1 ∨ b.marker = 2) ∧ headB b = true ∧ b.seq = -1 ∧ b.txn = true ∧ b.recs = []) : rmE b = 0 := by unfold rmE; rw [if_pos h]
set_option maxRecDepth 100000 in
theorem rightMarker_any (w : World) (b : Bat) (ad : Option Addr) (len cap : Nat) (hl : b.recs.length = len) :
    Calls Try.prog 47 #[.agg #[.int .i64 b.base, .int .i64 b.prod, .int .i64 b.epoch, .int .i64 b.seq, .bool b.txn, .int .i64 b.marker, .slice ad len cap]] w (Says (rmE b) w) := by
  have hne : (b.recs = []) = (len = 0) := by rw [← hl]; exact propext List.length_eq_zero_iff.symm
  have e12 := @rm_no b
  have e0 := @rm_yes b
  rw [hne] at e12 e0
  have hh : (decide (0 ≤ b.prod) && (decide (0 ≤ b.epoch) && decide (b.epoch ≤ 32767))) = headB b := rfl
  obtain ⟨hd, hdd⟩ : ∃ hd, hd = headB b := ⟨_, rfl⟩
  obtain ⟨ev, hev⟩ : ∃ ev, ev = rmE b := ⟨_, rfl⟩
  rw [← hev] at e12 e0 ⊢
  rw [← hdd] at e12 e0 hh
  clear hev hdd hne hl
  obtain ⟨base, prod, epoch, seq, txn, marker, recs⟩ := b
  simp only at e12 e0 hh ⊢
  have HH := Lib.hid hh
  have E12 := Lib.hid e12
  have E0 := Lib.hid e0
  clear hh e12 e0
  by_cases hm : marker = 1 ∨ marker = 2
  · cases hd
    · rcases hm with rfl | rfl
      all_goals
        go_enter Try.func47, Try.ntmps47
        go_wp2_with (go_at_call 66; refine (batOwned_any _ _ _ _ _ _ _ _ false HH.out).mono ?_; rintro e w1 ⟨rfl, hb⟩; obtain ⟨hc, hf⟩ := bcell hb; have HB := Lib.hid hb; clear hb)
        go_ret
        exact says_mk (E12.out (by rintro ⟨_, h, _⟩; cases h)).symm (((Below.refl _ _).alloc (Nat.le_refl _) _).trans (HB.out.mono (by simp)))
    · cases h3 : (seq == -1)
      · have h3' : ¬ seq = -1 := by simpa using h3
        have h3n : (seq != -1) = true := by simpa using h3
        have H3 := Lib.hid h3'
        clear h3'
        rcases hm with rfl | rfl
        all_goals
          go_enter Try.func47, Try.ntmps47
          go_wp2_with (go_at_call 66; refine (batOwned_any _ _ _ _ _ _ _ _ true HH.out).mono ?_; rintro e w1 ⟨rfl, hb⟩; obtain ⟨hc, hf⟩ := bcell hb; have HB := Lib.hid hb; clear hb)
          go_ret
          exact says_mk (E12.out (by rintro ⟨_, _, h, _⟩; exact H3.out h)).symm (((Below.refl _ _).alloc (Nat.le_refl _) _).trans (HB.out.mono (by simp)))
      · have h3' : seq = -1 := by simpa using h3
        have h3n : (seq != -1) = false := by simpa using h3
        have H3 := Lib.hid h3'
        clear h3'
        cases txn
        · rcases hm with rfl | rfl
          all_goals
            go_enter Try.func47, Try.ntmps47
            go_wp2_with (go_at_call 66; refine (batOwned_any _ _ _ _ _ _ _ _ true HH.out).mono ?_; rintro e w1 ⟨rfl, hb⟩; obtain ⟨hc, hf⟩ := bcell hb; have HB := Lib.hid hb; clear hb)
            go_ret
            exact says_mk (E12.out (by rintro ⟨_, _, _, h, _⟩; cases h)).symm (((Below.refl _ _).alloc (Nat.le_refl _) _).trans (HB.out.mono (by simp)))
        · by_cases hl : 0 < len
          · rcases hm with rfl | rfl
            all_goals
              go_enter Try.func47, Try.ntmps47
              go_wp2_with (go_at_call 66; refine (batOwned_any _ _ _ _ _ _ _ _ true HH.out).mono ?_; rintro e w1 ⟨rfl, hb⟩; obtain ⟨hc, hf⟩ := bcell hb; have HB := Lib.hid hb; clear hb)
              go_ret
              exact says_mk (E12.out (by rintro ⟨_, _, _, _, h⟩; omega)).symm (((Below.refl _ _).alloc (Nat.le_refl _) _).trans (HB.out.mono (by simp)))
          · obtain rfl : len = 0 := by omega
            clear hl
            rcases hm with rfl | rfl
            all_goals
              go_enter Try.func47, Try.ntmps47
              go_wp2_with (go_at_call 66; refine (batOwned_any _ _ _ _ _ _ _ _ true HH.out).mono ?_; rintro e w1 ⟨rfl, hb⟩; obtain ⟨hc, hf⟩ := bcell hb; have HB := Lib.hid hb; clear hb)
              go_ret
              exact says_mk (E0.out ⟨by decide, trivial, H3.out, trivial, trivial⟩).symm (((Below.refl _ _).alloc (Nat.le_refl _) _).trans (HB.out.mono (by simp)))
  · have hm1 : (marker != 1) = true := by simp; omega
    have hm2 : (marker != 2) = true := by simp; omega
    have HM := Lib.hid hm
    clear hm
    go_enter Try.func47, Try.ntmps47
    go_wp2
    go_ret
    exact says_mk (E12.out (by rintro ⟨h, _⟩; exact HM.out h)).symm ((Below.refl _ _).alloc (Nat.le_refl _) _)
end Go.Proofs.Ytlpmfhccfihnfaa
