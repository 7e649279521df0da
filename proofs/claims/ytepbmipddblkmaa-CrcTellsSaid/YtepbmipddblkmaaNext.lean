/- The contracts of a byte's step in the code and in the document's own answer: both give 'nxt'. -/
import Derived.Test.YtepbmipddblkmaaRows
import Derived.Test.YtepbmipddblkmaaMath
import Derived.WalkKit
import Derived.IntWalk
import Derived.Outline
import Derived.Lib.Hide
import Derived.Laws.BitsAllLaws
namespace Go.Proofs.Ytepbmipddblkmaa
open Go.RowKit Go.CrcMath
set_option linter.unusedVariables false

theorem xorc (c b : Nat) (hc : c < 4294967296) (hb : b < 256) : bits .xor .u32 (c : Int) (b : Int) = ((c ^^^ b : Nat) : Int) := u32_xor_nat c b hc (by omega)
theorem and1 (d : Nat) (h : d < 4294967296) : bits .and .u32 (d : Int) 1 = ((d % 2 : Nat) : Int) := by
  have := u32_and_nat d 1 h (by omega)
  rw [nat_mask1] at this
  exact this
theorem xorp (d : Nat) (h : d < 4294967296) : bits .xor .u32 ((d : Int) / 2) 2197175160 = ((d / 2 ^^^ poly : Nat) : Int) := by
  have := u32_xor_nat (d / 2) 2197175160 (by omega) (by omega)
  exact this
theorem bstep_odd (d : Nat) (h : d % 2 = 1) : bstep d = d / 2 ^^^ poly := if_pos h
theorem bstep_even (d : Nat) (h : ¬ d % 2 = 1) : bstep d = d / 2 := if_neg h
theorem u32_eq {a b : Int} (h : a = b) : Value.int .u32 a = Value.int .u32 b := by rw [h]
theorem ret_u32 {a b : Int} (h : a = b) : Ending.returned (.int .u32 a) = .returned (.int .u32 b) := by rw [h]

set_option maxHeartbeats 400000 in
theorem next_any (c b : Nat) (w : World) (hc : c < 4294967296) (hb : b < 256) :
    Calls Try.prog 14 #[.int .u32 c, .int .u8 b] w fun e w' => e = .returned (.int .u32 (nxt c b : Nat)) ∧ w = w' := by
  have hx := xorc c b hc hb
  obtain ⟨x, hxe⟩ : ∃ x, x = c ^^^ b := ⟨_, rfl⟩
  have hxl : x < 4294967296 := by rw [hxe]; exact xor_lt hc (by omega)
  rw [← hxe] at hx
  have HX : Hid (x = c ^^^ b) := hxe
  clear hxe
  go_enter Try.func14, Try.ntmps14
  go_wp2
  go_loop [0, 10] (fun s i => ∃ k : Nat, k ≤ 8 ∧ i = .int .i64 k ∧ s = .int .u32 (bsteps k x : Nat)) (fun _ i => (8 - intOf i).toNat)
  case atStart => exact ⟨0, by omega, rfl, rfl⟩
  case round =>
    obtain ⟨k, hk, rfl, rfl⟩ := hrel
    have hl := bsteps_lt hxl k
    obtain ⟨d, hd⟩ : ∃ d, d = bsteps k x := ⟨_, rfl⟩
    rw [← hd] at hl ⊢
    have HD : Hid (d = bsteps k x) := hd
    clear hd hx
    have h1 := and1 d hl
    have h2 := xorp d hl
    by_cases hlt : k < 8
    · by_cases ho : d % 2 = 1
      · have hb1 : (((d % 2 : Nat) : Int) == 1) = true := by simp; omega
        have S : Hid (bsteps (k + 1) x = d / 2 ^^^ poly) := by show bstep (bsteps k x) = _; rw [← HD.out]; exact bstep_odd d ho
        clear ho
        go_wp2
        go_round
        case rel => exact ⟨k + 1, by omega, by go_num, by rw [S.out]⟩
        case measure => simp [intOf]; omega
      · have hb1 : (((d % 2 : Nat) : Int) == 1) = false := by simp; omega
        have S : Hid (bsteps (k + 1) x = d / 2) := by show bstep (bsteps k x) = _; rw [← HD.out]; exact bstep_even d ho
        clear ho
        go_wp2
        go_round
        case rel => exact ⟨k + 1, by omega, by go_num, by rw [S.out]; exact u32_eq (by omega)⟩
        case measure => simp [intOf]; omega
    · have E : Hid (d = nxt c b) := by
        have : k = 8 := by omega
        subst this
        show d = bsteps 8 (c ^^^ b)
        rw [HD.out, HX.out]
      go_wp2
      go_ret
      exact ⟨ret_u32 (by rw [E.out]), rfl⟩
set_option maxHeartbeats 400000 in
theorem refNext_any (c b : Nat) (w : World) (hc : c < 4294967296) (hb : b < 256) :
    Calls Try.prog 17 #[.int .u32 c, .int .u8 b] w fun e w' => e = .returned (.int .u32 (nxt c b : Nat)) ∧ w = w' := by
  have hx := xorc c b hc hb
  obtain ⟨x, hxe⟩ : ∃ x, x = c ^^^ b := ⟨_, rfl⟩
  have hxl : x < 4294967296 := by rw [hxe]; exact xor_lt hc (by omega)
  rw [← hxe] at hx
  have HX : Hid (x = c ^^^ b) := hxe
  clear hxe
  go_enter Try.func17, Try.ntmps17
  go_wp2
  go_loop [0, 5] (fun s i => ∃ k : Nat, k ≤ 8 ∧ i = .int .i64 k ∧ s = .int .u32 (bsteps k x : Nat)) (fun _ i => (8 - intOf i).toNat)
  case atStart => exact ⟨0, by omega, rfl, rfl⟩
  case round =>
    obtain ⟨k, hk, rfl, rfl⟩ := hrel
    have hl := bsteps_lt hxl k
    obtain ⟨d, hd⟩ : ∃ d, d = bsteps k x := ⟨_, rfl⟩
    rw [← hd] at hl ⊢
    have HD : Hid (d = bsteps k x) := hd
    clear hd hx
    have h1 := and1 d hl
    have h2 := xorp d hl
    by_cases hlt : k < 8
    · by_cases ho : d % 2 = 1
      · have hb1 : (((d % 2 : Nat) : Int) == 1) = true := by simp; omega
        have S : Hid (bsteps (k + 1) x = d / 2 ^^^ poly) := by show bstep (bsteps k x) = _; rw [← HD.out]; exact bstep_odd d ho
        clear ho
        go_wp2
        go_round
        case rel => exact ⟨k + 1, by omega, by go_num, by rw [S.out]⟩
        case measure => simp [intOf]; omega
      · have hb1 : (((d % 2 : Nat) : Int) == 1) = false := by simp; omega
        have S : Hid (bsteps (k + 1) x = d / 2) := by show bstep (bsteps k x) = _; rw [← HD.out]; exact bstep_even d ho
        clear ho
        go_wp2
        go_round
        case rel => exact ⟨k + 1, by omega, by go_num, by rw [S.out]; exact u32_eq (by omega)⟩
        case measure => simp [intOf]; omega
    · have E : Hid (d = nxt c b) := by
        have : k = 8 := by omega
        subst this
        show d = bsteps 8 (c ^^^ b)
        rw [HD.out, HX.out]
      go_wp2
      go_ret
      exact ⟨ret_u32 (by rw [E.out]), rfl⟩
end Go.Proofs.Ytepbmipddblkmaa
