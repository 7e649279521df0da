/- The contracts of the document's own Next and Crc. -/
import Derived.Test.YtlpmfhccfihnfaaBytes
import Derived.Test.YtlpmfhccfihnfaaCrcMath
import Derived.Test.YtlpmfhccfihnfaaCrcCommon
import Derived.Outline
namespace Go.Proofs.Ytlpmfhccfihnfaa
open Go.RowKit
open Go.CrcMath hiding AllB
set_option linter.unusedVariables false
set_option maxHeartbeats 400000 in
theorem refNext_any (c b : Nat) (w : World) (hc : c < 4294967296) (hb : b < 256) :
    Calls Try.prog 81 #[.int .u32 c, .int .u8 b] w fun e w' => e = .returned (.int .u32 (nxt c b : Nat)) ∧ w = w' := by
  have hx := xorc c b hc hb
  obtain ⟨x, hxe⟩ : ∃ x, x = c ^^^ b := ⟨_, rfl⟩
  have hxl : x < 4294967296 := by rw [hxe]; exact xor_lt hc (by omega)
  rw [← hxe] at hx
  have HX : Hid (x = c ^^^ b) := hxe
  clear hxe
  go_enter Try.func81, Try.ntmps81
  go_wp2
  go_loop [0, 5] (fun s i => ∃ k : Nat, k ≤ 8 ∧ i = .int .i64 k ∧ s = .int .u32 (bsteps k x : Nat)) (fun _ i => (8 - intOf i).toNat)
  case atStart => exact ⟨0, by omega, rfl, rfl⟩
  case round =>
    obtain ⟨k, hk, rfl, rfl⟩ := hrel
    have hl := bsteps_lt hxl k
    obtain ⟨d, hd⟩ : ∃ d, d = bsteps k x := ⟨_, rfl⟩
    rw [← hd] at hl ⊢
    have HD : Hid (d = bsteps k x) := hd
    clear hd hx
    have h1 := and1 d hl
    have h2 := xorp d hl
    by_cases hlt : k < 8
    · by_cases ho : d % 2 = 1
      · have hb1 : (((d % 2 : Nat) : Int) == 1) = true := by simp; omega
        have S : Hid (bsteps (k + 1) x = d / 2 ^^^ poly) := by show bstep (bsteps k x) = _; rw [← HD.out]; exact bstep_odd d ho
        clear ho
        go_wp2
        go_round
        case rel => exact ⟨k + 1, by omega, by go_num, by rw [S.out]⟩
        case measure => simp [intOf]; omega
      · have hb1 : (((d % 2 : Nat) : Int) == 1) = false := by simp; omega
        have S : Hid (bsteps (k + 1) x = d / 2) := by show bstep (bsteps k x) = _; rw [← HD.out]; exact bstep_even d ho
        clear ho
        go_wp2
        go_round
        case rel => exact ⟨k + 1, by omega, by go_num, by rw [S.out]; exact u32_eq (by omega)⟩
        case measure => simp [intOf]; omega
    · have E : Hid (d = nxt c b) := by
        have : k = 8 := by omega
        subst this
        show d = bsteps 8 (c ^^^ b)
        rw [HD.out, HX.out]
      go_wp2
      go_ret
      exact ⟨ret_u32 (by rw [E.out]), rfl⟩
set_option maxHeartbeats 400000 in
theorem refCrc_any (w : World) (ad : Option Addr) (len cap : Nat) (bs : List Nat) (h : Byt w ad len cap bs) (hL : len ≤ 140737488355328) :
    Calls Try.prog 71 #[.slice ad len cap] w fun e w' => e = .returned (.int .u32 (ofB bs : Nat)) ∧ w = w' := by
  obtain ⟨hlen, hfit, hall, hcs⟩ := h
  rcases hcs with h0 | ⟨b, off, rfl, hcell⟩
  · subst h0
    obtain rfl : bs = [] := by simpa using hlen
    have E : Hid (ofB [] = 0) := by show _ = _; decide
    clear hlen hfit hall
    have hcp := xor00
    have hsg := usig
    go_enter Try.func71, Try.ntmps71
    go_wp2
    refine wp_loop_rounds 1 ?_
    rw [rounds_succ]
    go_wp2
    go_ret
    exact ⟨ret_u32 (by rw [E.out]; rfl), rfl⟩
  · have hmx : ∀ k, run full (bs.take k) < 4294967296 := fun k => run_lt _ _ full_lt (take_all hall k)
    have HM := Lib.hid hmx
    have HC := Lib.hid hcell
    have HA := Lib.hid hall
    have HL := Lib.hid hlen
    clear hmx hcell hall hlen
    go_enter Try.func71, Try.ntmps71
    go_wp2
    go_loop [3, 4] (fun s i => ∃ k : Nat, k ≤ len ∧ i = .int .i64 k ∧ s = .int .u32 (run full (bs.take k) : Nat)) (fun _ i => len - (intOf i).toNat)
    case atStart => exact ⟨0, by omega, rfl, rfl⟩
    case round =>
      obtain ⟨k, hk, rfl, rfl⟩ := hrel
      have hl := HM.out k
      obtain ⟨d, hd⟩ : ∃ d, d = run full (bs.take k) := ⟨_, rfl⟩
      rw [← hd] at hl ⊢
      have HD : Hid (d = run full (bs.take k)) := hd
      clear hd
      by_cases hlt : k < len
      · have hc := HC.out k hlt
        have hx8 := getD_all HA.out k
        obtain ⟨x, hx⟩ : ∃ x, x = bs.getD k 0 := ⟨_, rfl⟩
        rw [← hx] at hc hx8
        have S : Hid (run full (bs.take (k + 1)) = nxt d x) := by
          show _ = _
          rw [run_next _ _ _ (by rw [HL.out]; exact hlt), ← HD.out, ← hx]
        clear hx
        go_wp2_with (go_at_call 81; refine (refNext_any _ _ _ hl hx8).mono ?_; rintro e w' ⟨rfl, rfl⟩)
        go_round
        case rel => exact ⟨k + 1, by omega, by go_num, by rw [S.out]⟩
        case measure => simp [intOf]; omega
      · have hcp := cplc d hl
        have hsg := usig
        have E : Hid (cpl d = ofB bs) := by
          show _ = _
          rw [HD.out, List.take_of_length_le (by rw [HL.out]; omega)]; rfl
        go_wp2
        go_ret
        exact ⟨ret_u32 (by rw [E.out]), rfl⟩
end Go.Proofs.Ytlpmfhccfihnfaa
