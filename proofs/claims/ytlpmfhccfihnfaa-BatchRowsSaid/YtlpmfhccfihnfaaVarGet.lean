/- The contract of the code's Get. -/
import Derived.Test.YtlpmfhccfihnfaaVarScan
namespace Go.Proofs.Ytlpmfhccfihnfaa
open Go.RowKit
open Go.VarMath hiding AllB
set_option linter.unusedVariables false

theorem shl_step9 (y : Nat) : IntKind.u64.wrap ((y : Int) * 9223372036854775808) = ((y * 128 ^ 9 % 18446744073709551616 : Nat) : Int) := by
  rw [wrap_u64', pow9]; omega
set_option maxHeartbeats 1000000 in
theorem get_any (w : World) (ad : Option Addr) (len cap : Nat) (bs : List Nat) (h : Byt w ad len cap bs) (hL : len ≤ 140737488355328) :
    Calls Try.prog 84 #[.slice ad len cap] w (GivesGet bs w) := by
  obtain ⟨hlen, hfit, hall, hcs⟩ := h
  rcases hcs with h0 | ⟨b, off, rfl, hcell⟩
  · subst h0
    obtain rfl : bs = [] := by simpa using hlen
    clear hlen hfit hall
    go_enter Try.func84, Try.ntmps84
    go_wp2
    refine wp_loop_rounds 1 ?_
    rw [rounds_succ]
    go_wp2
    go_ret2
    exact gives_get_no getB_nil
  · have HC := Lib.hid hcell
    have HA := Lib.hid hall
    have HL := Lib.hid hlen
    clear hlen hcell hall
    go_enter Try.func84, Try.ntmps84
    go_wp2
    go_loop [4, 9] (fun v4 v9 => ∃ k : Nat, k ≤ len ∧ k ≤ 9 ∧ AllHi (bs.take k) ∧ v9 = .int .i64 k ∧ v4 = .int .u64 (val (bs.take k) % two64 : Nat)) (fun _ i => len - (intOf i).toNat)
    case atStart => exact ⟨0, by omega, by omega, AllHi.nil, rfl, rfl⟩
    case round =>
      obtain ⟨k, hk, hk9, hhi, rfl, rfl⟩ := hrel
      have HH := Lib.hid hhi
      clear hhi
      by_cases hlt : k < len
      · have hltb : k < bs.length := by rw [HL.out]; exact hlt
        have hc := HC.out k hlt
        have hx8 := getD_all HA.out k
        have hm := val_take_mod (bs := bs) (k := k) (by omega) hk9
        have hu := val_take_lt (bs := bs) (k := k) (by omega)
        have hv := val_take hltb
        obtain ⟨x, hxe⟩ : ∃ x, x = bs.getD k 0 := ⟨_, rfl⟩
        rw [← hxe] at hc hx8 hv
        obtain ⟨u, hue⟩ : ∃ u, u = val (bs.take k) := ⟨_, rfl⟩
        rw [hm, ← hue]
        rw [← hue] at hu hv
        have hand := and127 x hx8
        obtain ⟨y, hye⟩ : ∃ y, y = x % 128 := ⟨_, rfl⟩
        rw [← hye] at hand hv
        have hy8 : y < 128 := by omega
        have hsh := shl_step y k
        have hsh9 := shl_step9 y
        have hor := or_step u y k hk9 hu hy8
        rw [← hv] at hor
        obtain ⟨z, hze⟩ : ∃ z, z = y * 128 ^ k % 18446744073709551616 := ⟨_, rfl⟩
        rw [← hze] at hsh hor
        have HS9 : Hid (k = 9 → IntKind.u64.wrap ((y : Int) * 9223372036854775808) = (z : Int)) := by
          intro e
          rw [hsh9, hze, e]
        clear hsh9
        have HX := Lib.hid hxe
        clear hm hv hye hue hze hxe
        obtain ⟨v, hve⟩ : ∃ v, v = val (bs.take (k + 1)) % 18446744073709551616 := ⟨_, rfl⟩
        have hv6 : v < 18446744073709551616 := by rw [hve]; exact Nat.mod_lt _ (by decide)
        rw [← hve] at hor
        have HV : Hid (v = val (bs.take (k + 1)) % two64) := hve
        clear hve
        by_cases h9 : k = 9 ∧ 1 < x
        · obtain ⟨rfl, h1x⟩ := h9
          go_wp2
          go_ret2
          exact gives_get_no (hi_tenth HA.out HH.out hltb (by rw [← HX.out]; exact h1x))
        · have hno : k = 9 → bs.getD k 0 ≤ 1 := fun e => by rw [← HX.out]; omega
          have HNO := Lib.hid hno
          clear hno
          by_cases hx : x < 128
          · have h128 := and128_lo x hx
            have hb0 : ((0 : Int) != 0) = false := by decide
            have hxb : bs.getD k 0 < 128 := by rw [← HX.out]; exact hx
            have HXB := Lib.hid hxb
            clear hxb
            by_cases hz : x = 0 ∧ 0 < k
            · have HG : Hid (getB bs = (0, 0)) := hi_no HH.out hltb hk9 HXB.out (fun h => by have h1 := h.1 (by rw [← HX.out]; omega); omega)
              obtain ⟨rfl, hk0⟩ := hz
              go_wp2
              all_goals first
                | (exfalso; omega)
                | (go_ret2; exact gives_get_no HG.out)
            · have HG : Hid (getB bs = (zag v, k + 1)) := by
                show _ = _
                rw [HV.out]
                exact hi_yes HH.out hltb hk9 HXB.out (fun h => by rw [← HX.out] at h; omega) HNO.out
              by_cases h9k : k = 9
              · have hs9 := HS9.out h9k
                have hx1 : x ≤ 1 := by
                  by_cases h : 1 < x
                  · exact absurd ⟨h9k, h⟩ h9
                  · omega
                have hx0b : ((x : Int) == 0) = false := by simp; omega
                have hx1b : decide ((1 : Int) < (x : Int)) = false := by simp; omega
                clear hsh
                subst h9k
                go_wp2_with (go_at_call 89; refine (signed_any v _ hv6).mono ?_; rintro e w' ⟨rfl, rfl⟩)
                go_ret2
                exact gives_get HG.out rfl rfl
              · have hk9b : ((k : Int) == 9) = false := by simp; omega
                by_cases hx0 : x = 0
                · have hk0 : k = 0 := by omega
                  have hx0t : ((x : Int) == 0) = true := by simp; omega
                  have hk1 : decide ((0 : Int) < (k : Int)) = false := by simp; omega
                  have hk2 : decide (0 < k) = false := by simp; omega
                  clear hx0 hk0
                  go_wp2_with fail
                  refine (signed_any v _ hv6).mono ?_
                  rintro e w' ⟨rfl, rfl⟩
                  go_wp2
                  go_ret2
                  exact gives_get HG.out rfl rfl
                · have hx0b : ((x : Int) == 0) = false := by simp; omega
                  go_wp2_with fail
                  refine (signed_any v _ hv6).mono ?_
                  rintro e w' ⟨rfl, rfl⟩
                  go_wp2
                  go_ret2
                  exact gives_get HG.out rfl rfl
          · have h128 := and128_hi x hx8 (by omega)
            have HS : Hid (AllHi (bs.take (k + 1))) := hi_step HA.out HH.out hltb (by rw [← HX.out]; exact hx)
            have hk8 : k < 9 := by
              by_cases h : k = 9
              · exact absurd ⟨h, by omega⟩ h9
              · omega
            have hk9b : ((k : Int) == 9) = false := by simp; omega
            go_wp2
            all_goals first
              | (exfalso; omega)
              | (go_round
                 case rel => exact ⟨k + 1, by omega, by omega, HS.out, by go_num, by rw [HV.out]⟩
                 case measure => simp [intOf]; omega)
      · go_wp2
        go_ret2
        exact gives_get_no (hi_end HH.out (by rw [HL.out]; omega) (by rw [HL.out]; omega))
end Go.Proofs.Ytlpmfhccfihnfaa
