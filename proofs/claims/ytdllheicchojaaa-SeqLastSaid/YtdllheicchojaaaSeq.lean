/- The contracts of chapter 5's functions: Right, Add, Last, Follows, Gap, and the code's own 'wrap'. No condition but that an int is one. -/
import Derived.Test.YtdllheicchojaaaRows
import Derived.Test.YtdllheicchojaaaSeqMath
import Derived.WalkKit
import Derived.IntWalk
import Derived.Lib.Hide
import Derived.Outline
namespace Go.Proofs.Ytdllheicchojaaa
open Go.RowKit
open Go.SeqMath
set_option linter.unusedVariables false

theorem ret_i64 {a b : Int} (h : a = b) : Ending.returned (.int .i64 a) = .returned (.int .i64 b) := by rw [h]
theorem seq_right (n : Int) (w : World) (r : Bool) (hr : rightB n = r) :
    Calls Try.prog 6 #[.int .i64 n] w fun e w' => e = .returned (.bool r) ∧ w = w' := by
  subst hr
  by_cases h0 : 0 ≤ n
  · by_cases h1 : n ≤ 2147483647
    · rw [right_yes h0 h1]
      go_enter Try.func6, Try.ntmps6
      go_wp2
      go_ret
      exact ⟨rfl, rfl⟩
    · have h1' : 2147483647 < n := by omega
      rw [right_no (.inr h1')]
      go_enter Try.func6, Try.ntmps6
      go_wp2
      go_ret
      exact ⟨rfl, rfl⟩
  · have h0' : n < 0 := by omega
    rw [right_no (.inl h0')]
    go_enter Try.func6, Try.ntmps6
    go_wp2
    go_ret
    exact ⟨rfl, rfl⟩
theorem seq_wrap (n : Int) (w : World) (v : Int) (h0 : -2147483648 ≤ n) (h1 : n ≤ 4294967295) (hv : n % 2147483648 = v) :
    Calls Try.prog 11 #[.int .i64 n] w fun e w' => e = .returned (.int .i64 v) ∧ w = w' := by
  have HV := Lib.hid hv
  clear hv
  go_enter Try.func11, Try.ntmps11
  go_wp2
  go_ret
  exact ⟨ret_i64 (by have := HV.out; omega), rfl⟩
set_option maxHeartbeats 400000 in
theorem seq_add (n k : Int) (w : World) (v : Int) (k0 : -9223372036854775808 ≤ k) (k1 : k ≤ 9223372036854775807) (hv : addI n k = v) :
    Calls Try.prog 5 #[.int .i64 n, .int .i64 k] w fun e w' => e = .returned (.int .i64 v) ∧ w = w' := by
  rcases hr : rightB n with _ | _
  · have HV : Hid (v = -1) := by show _ = _; rw [← hv, add_no hr]
    have HR := Lib.hid hr
    clear hv hr
    go_enter Try.func5, Try.ntmps5
    go_wp2_with (go_at_call 6; refine (seq_right n _ false HR.out).mono ?_; rintro e w' ⟨rfl, rfl⟩)
    go_ret
    exact ⟨ret_i64 HV.out.symm, rfl⟩
  · obtain ⟨n0, n1⟩ := of_right hr
    have HV : Hid ((n + k) % 2147483648 = v) := by show _ = _; rw [← hv, add_yes n0 n1]
    have HR := Lib.hid hr
    clear hv hr
    by_cases hk : 0 ≤ k
    · go_enter Try.func5, Try.ntmps5
      go_wp2_with (first | (go_at_call 6; refine (seq_right n _ true HR.out).mono ?_; rintro e w' ⟨rfl, rfl⟩) | (go_at_call 11; refine (seq_wrap _ _ v (by omega) (by omega) (by have := HV.out; omega)).mono ?_; rintro e w' ⟨rfl, rfl⟩))
      go_ret
      exact ⟨rfl, rfl⟩
    · have hk' : k < 0 := by omega
      obtain ⟨t, ht⟩ : ∃ t, t = k.tmod 2147483648 := ⟨_, rfl⟩
      have ht2 : t = -((-k) % 2147483648) := by
        rw [ht, ← Int.tmod_eq_emod_of_nonneg (by omega : 0 ≤ -k), Int.neg_tmod, Int.neg_neg]
      have HT : Hid (k.tmod 2147483648 = t) := ht.symm
      have HT2 := Lib.hid ht2
      have t0 : -2147483648 < t := by omega
      have t1 : t ≤ 0 := by omega
      have htt := HT.out
      clear ht ht2
      go_enter Try.func5, Try.ntmps5
      go_wp2_with (first | (go_at_call 6; refine (seq_right n _ true HR.out).mono ?_; rintro e w' ⟨rfl, rfl⟩) | (go_at_call 11; refine (seq_wrap _ _ v (by omega) (by omega) (by have := HV.out; have := HT2.out; omega)).mono ?_; rintro e w' ⟨rfl, rfl⟩))
      go_ret
      exact ⟨rfl, rfl⟩
theorem seq_last (n c : Int) (w : World) (v : Int) (c0 : -9223372036854775808 ≤ c) (c1 : c ≤ 9223372036854775807) (hv : lastI n c = v) :
    Calls Try.prog 10 #[.int .i64 n, .int .i64 c] w fun e w' => e = .returned (.int .i64 v) ∧ w = w' := by
  by_cases h0 : c < 1
  · have HV : Hid (v = -1) := by show _ = _; rw [← hv, last_no (.inl h0)]
    clear hv
    go_enter Try.func10, Try.ntmps10
    go_wp2
    go_ret
    exact ⟨ret_i64 HV.out.symm, rfl⟩
  · have h0' : 1 ≤ c := by omega
    by_cases h1 : 16 < c
    · have HV : Hid (v = -1) := by show _ = _; rw [← hv, last_no (.inr h1)]
      clear hv
      go_enter Try.func10, Try.ntmps10
      go_wp2
      go_ret
      exact ⟨ret_i64 HV.out.symm, rfl⟩
    · have h1' : c ≤ 16 := by omega
      have HV : Hid (addI n (c - 1) = v) := by show _ = _; rw [← hv, last_yes h0' h1']
      clear hv
      go_enter Try.func10, Try.ntmps10
      go_wp2_with (go_at_call 5; refine (seq_add n _ _ v (by omega) (by omega) HV.out).mono ?_; rintro e w' ⟨rfl, rfl⟩)
      go_ret
      exact ⟨rfl, rfl⟩
set_option maxHeartbeats 400000 in
theorem seq_follows (l f : Int) (w : World) (r : Bool) (hr : followsB l f = r) :
    Calls Try.prog 8 #[.int .i64 l, .int .i64 f] w fun e w' => e = .returned (.bool r) ∧ w = w' := by
  by_cases hl : l = -1
  · subst hl
    rw [follows_none] at hr
    by_cases hf : f = 0
    · subst hf
      obtain rfl : r = true := by rw [← hr]; rfl
      clear hr
      go_enter Try.func8, Try.ntmps8
      go_wp2
      go_ret
      exact ⟨rfl, rfl⟩
    · obtain rfl : r = false := by rw [← hr]; exact decide_eq_false hf
      have hf1 : (f == 0) = false := by simpa using hf
      clear hr
      go_enter Try.func8, Try.ntmps8
      go_wp2
      go_ret
      exact ⟨rfl, rfl⟩
  · have hl1 : (l == -1) = false := by simpa using hl
    rcases hq : rightB l with _ | _
    · obtain rfl : r = false := by rw [← hr, follows_no hl hq]
      have HQ := Lib.hid hq
      clear hr hq
      go_enter Try.func8, Try.ntmps8
      go_wp2_with (go_at_call 6; refine (seq_right l _ false HQ.out).mono ?_; rintro e w' ⟨rfl, rfl⟩)
      go_ret
      exact ⟨rfl, rfl⟩
    · obtain ⟨l0, l1⟩ := of_right hq
      rw [follows_yes l0 l1] at hr
      obtain ⟨v, hv⟩ : ∃ v, addI l 1 = v := ⟨_, rfl⟩
      rw [hv] at hr
      have HV := Lib.hid hv
      have HQ := Lib.hid hq
      by_cases hf : f = v
      · subst hf
        obtain rfl : r = true := by rw [← hr]; exact decide_eq_true rfl
        clear hr hv hq
        go_enter Try.func8, Try.ntmps8
        go_wp2_with (first | (go_at_call 6; refine (seq_right l _ true HQ.out).mono ?_; rintro e w' ⟨rfl, rfl⟩) | (go_at_call 5; refine (seq_add l _ _ f (by omega) (by omega) HV.out).mono ?_; rintro e w' ⟨rfl, rfl⟩))
        go_ret
        exact ⟨rfl, rfl⟩
      · obtain rfl : r = false := by rw [← hr]; exact decide_eq_false hf
        have hf1 : (f == v) = false := by simpa using hf
        clear hr hv hq
        go_enter Try.func8, Try.ntmps8
        go_wp2_with (first | (go_at_call 6; refine (seq_right l _ true HQ.out).mono ?_; rintro e w' ⟨rfl, rfl⟩) | (go_at_call 5; refine (seq_add l _ _ v (by omega) (by omega) HV.out).mono ?_; rintro e w' ⟨rfl, rfl⟩))
        go_ret
        exact ⟨rfl, rfl⟩
set_option maxHeartbeats 400000 in
theorem seq_gap (a b : Int) (w : World) (v : Int) (hv : gapI a b = v) :
    Calls Try.prog 7 #[.int .i64 a, .int .i64 b] w fun e w' => e = .returned (.int .i64 v) ∧ w = w' := by
  rcases ha : rightB a with _ | _
  · have HV : Hid (v = -1) := by show _ = _; rw [← hv, gap_no (.inl ha)]
    have HA := Lib.hid ha
    clear hv ha
    go_enter Try.func7, Try.ntmps7
    go_wp2_with (go_at_call 6; refine (seq_right a _ false HA.out).mono ?_; rintro e w' ⟨rfl, rfl⟩)
    go_ret
    exact ⟨ret_i64 HV.out.symm, rfl⟩
  · rcases hb : rightB b with _ | _
    · have HV : Hid (v = -1) := by show _ = _; rw [← hv, gap_no (.inr hb)]
      have HA := Lib.hid ha
      have HB := Lib.hid hb
      clear hv ha hb
      go_enter Try.func7, Try.ntmps7
      go_wp2_with fail
      refine (seq_right a _ true HA.out).mono ?_
      rintro e w' ⟨rfl, rfl⟩
      go_wp2_with fail
      refine (seq_right b _ false HB.out).mono ?_
      rintro e w' ⟨rfl, rfl⟩
      go_wp2
      go_ret
      exact ⟨ret_i64 HV.out.symm, rfl⟩
    · obtain ⟨a0, a1⟩ := of_right ha
      obtain ⟨b0, b1⟩ := of_right hb
      have HV : Hid ((b - a) % 2147483648 = v) := by show _ = _; rw [← hv, gap_yes a0 a1 b0 b1]
      have HA := Lib.hid ha
      have HB := Lib.hid hb
      clear hv ha hb
      go_enter Try.func7, Try.ntmps7
      go_wp2_with fail
      refine (seq_right a _ true HA.out).mono ?_
      rintro e w' ⟨rfl, rfl⟩
      go_wp2_with fail
      refine (seq_right b _ true HB.out).mono ?_
      rintro e w' ⟨rfl, rfl⟩
      go_wp2_with fail
      refine (seq_wrap _ _ v (by omega) (by omega) HV.out).mono ?_
      rintro e w' ⟨rfl, rfl⟩
      go_wp2
      go_ret
      exact ⟨rfl, rfl⟩
end Go.Proofs.Ytdllheicchojaaa
