/- The contract of the document's own Get. -/
import Derived.Test.YtlpmfhccfihnfaaVarGet
import Derived.Test.YtlpmfhccfihnfaaVarRefPut
import Derived.Test.YtlpmfhccfihnfaaVarBack
import Derived.Deep.RegionWith
namespace Go.Proofs.Ytlpmfhccfihnfaa
open Go.RowKit
open Go.VarMath hiding AllB
set_option linter.unusedVariables false

def GivesGetB (bs : List Nat) (w : World) (e : Ending) (w' : World) : Prop := e = .returned (.tuple #[.int .i64 (getB bs).1, .int .i64 ((getB bs).2 : Nat)]) ∧ Below w.heap.size w w'
set_option maxHeartbeats 1000000 in
set_option maxRecDepth 100000 in
theorem refGet_any (w : World) (ad : Option Addr) (len cap : Nat) (bs : List Nat) (h : Byt w ad len cap bs) (hL : len ≤ 140737488355328) :
    Calls Try.prog 82 #[.slice ad len cap] w (GivesGetB bs w) := by
  obtain ⟨hlen, hfit, hall, hcs⟩ := h
  rcases hcs with h0 | ⟨b, off, rfl, hcell⟩
  · subst h0
    obtain rfl : bs = [] := by simpa using hlen
    clear hlen hfit hall
    go_enter Try.func82, Try.ntmps82
    go_wp2
    refine wp_loop_rounds 1 ?_
    rw [rounds_succ]
    go_wp2
    go_ret2
    exact ⟨by rw [getB_nil]; rfl, Below.refl _ _⟩
  · have HC := Lib.hid hcell
    have HA := Lib.hid hall
    have HL := Lib.hid hlen
    clear hlen hcell hall
    go_enter Try.func82, Try.ntmps82
    go_wp2
    go_loop [4, 5] (fun v4 v5 => ∃ k : Nat, k ≤ len ∧ k ≤ 10 ∧ AllHi (bs.take k) ∧ v5 = .int .i64 k ∧ v4 = .int .u64 (val (bs.take k) % two64 : Nat)) (fun _ i => len - (intOf i).toNat)
    case atStart => exact ⟨0, by omega, by omega, AllHi.nil, rfl, rfl⟩
    case round =>
      obtain ⟨k, hk, hk9, hhi, rfl, rfl⟩ := hrel
      have HH := Lib.hid hhi
      clear hhi
      by_cases hlt : k < len ∧ k < 10
      · obtain ⟨hlt, hk10⟩ := hlt
        have hltb : k < bs.length := by rw [HL.out]; exact hlt
        have hc := HC.out k hlt
        have hx8 := getD_all HA.out k
        have hm := val_take_mod (bs := bs) (k := k) (by omega) (by omega)
        have hu := val_take_lt (bs := bs) (k := k) (by omega)
        have hv := val_take hltb
        obtain ⟨x, hxe⟩ : ∃ x, x = bs.getD k 0 := ⟨_, rfl⟩
        rw [← hxe] at hc hx8 hv
        obtain ⟨u, hue⟩ : ∃ u, u = val (bs.take k) := ⟨_, rfl⟩
        rw [hm, ← hue]
        rw [← hue] at hu hv
        have hand := and127 x hx8
        obtain ⟨y, hye⟩ : ∃ y, y = x % 128 := ⟨_, rfl⟩
        rw [← hye] at hand hv
        have hy8 : y < 128 := by omega
        have hsh := shl_step y k
        have hor := or_step u y k (by omega) hu hy8
        rw [← hv] at hor
        obtain ⟨z, hze⟩ : ∃ z, z = y * 128 ^ k % 18446744073709551616 := ⟨_, rfl⟩
        rw [← hze] at hsh hor
        have HX := Lib.hid hxe
        clear hm hv hye hue hze hxe
        obtain ⟨v, hve⟩ : ∃ v, v = val (bs.take (k + 1)) % 18446744073709551616 := ⟨_, rfl⟩
        have hv6 : v < 18446744073709551616 := by rw [hve]; exact Nat.mod_lt _ (by decide)
        rw [← hve] at hor
        have HV : Hid (v = val (bs.take (k + 1)) % two64) := hve
        clear hve
        by_cases hx : x < 128
        · have hzag := zag_bits v hv6 _ (zag_arg v hv6)
          have hin := zag_in hv6
          have HG := hi_get HH.out hltb (by omega) (by rw [← HX.out]; exact hx)
          rw [← HV.out] at HG
          obtain ⟨q, hq⟩ : ∃ q, q = zag v := ⟨_, rfl⟩
          rw [← hq] at hzag hin HG
          have HG := Lib.hid HG
          have HQ := Lib.hid hq
          clear hq
          have hrow : Row w (some ⟨b, off, none⟩) (k + 1) cap (bs.take (k + 1)) := cut_row (len := len) ⟨⟨HL.out, hfit, HA.out, .inr ⟨b, off, rfl, HC.out⟩⟩, fun h => by cases h⟩ (k + 1) (by omega)
          have HR := Lib.hid hrow
          clear hrow
          have hsl := run_upto (some ⟨b, off, none⟩) len cap (k + 1) (by omega)
          rw [show ((k + 1 : Nat) : Int) = (k : Int) + 1 by omega] at hsl
          obtain ⟨s1, hs1⟩ : ∃ s1, s1 = str (encU v) := ⟨_, rfl⟩
          obtain ⟨s2, hs2⟩ : ∃ s2, s2 = str (bs.take (k + 1)) := ⟨_, rfl⟩
          obtain ⟨n1, hn1⟩ : ∃ n1, n1 = (encU v).length := ⟨_, rfl⟩
          have K8 : ∀ W, Below w.heap.size w W → Calls Try.prog 70 #[.slice none 0 0, .int .i64 q] W fun e w' => ∃ g cp, e = .returned (.slice (some ⟨g, 0, none⟩) n1 cp) ∧ Hid (Below w.heap.size w w') ∧
              (convert 34 9 (.slice (some ⟨g, 0, none⟩) n1 cp)).run Try.prog w' = .ok (.string s1) w' ∧ (convert 34 9 (.slice (some ⟨b, off, none⟩) (k + 1) cap)).run Try.prog w' = .ok (.string s2) w' := by
            intro W hW
            refine (refPut_any W none 0 0 [] q ⟨Byt.nil W, fun _ => rfl⟩ (by omega) hin.1 hin.2).mono ?_
            rintro e w' ⟨g, cp, rfl, ho, hb⟩
            have he : [] ++ encN q = encU v := by rw [List.nil_append]; unfold encN; rw [HQ.out, zig_zag]
            rw [he] at ho ⊢
            rw [← hn1] at ho ⊢
            have hb2 : Below w.heap.size w w' := hW.trans (hb.mono hW.size)
            exact ⟨g, cp, rfl, hb2, run_str_at (owns_row ho (enc_all hv6)).1 hs1, run_str_at (HR.out.keep hb2 (Nat.le_refl _)).1 hs2⟩
          have HK := Lib.hid K8
          have hcv0 : (convert 34 9 (.slice (some ⟨b, off, none⟩) (k + 1) cap)).run Try.prog w = .ok (.string s2) w := run_str_at HR.out.1 hs2
          have hcv1 : (convert 34 9 (.slice (some ⟨b, off, none⟩) (k + 1) cap)).run Try.prog w.drew = .ok (.string s2) w.drew := run_str_at (HR.out.keep ((Below.refl _ _).drew) (Nat.le_refl _)).1 hs2
          have H1 := Lib.hid hs1
          have H2 := Lib.hid hs2
          clear K8 hs1 hs2 hn1
          have hwk : IntKind.i64.wrap ((k : Int) + 1) = (k : Int) + 1 := IntWalk.i64_in _ (by omega)
          by_cases heq : encU v = bs.take (k + 1)
          · have hse : (s1.toList == s2.toList) = true := by rw [H1.out, H2.out, heq, str_same]
            have HE : Hid (getB bs = (q, k + 1)) := by show _ = _; rw [HG.out, if_pos heq]
            clear heq
            go_wp2_with fail
            go_region_with (go_at_call 70; refine (HK.out _ ?_).mono ?_; exact (Below.refl _ _).drew; rintro e w1 ⟨g, cp, rfl, hb1, hca, hcb⟩)
            all_goals
              go_wp2
              go_ret2
              exact ⟨by rw [HE.out]; rfl, hb1.out⟩
          · have hse : (s1.toList == s2.toList) = false := by
              have := str_differ (enc_all hv6) HR.out.1.all heq
              rw [← H1.out, ← H2.out] at this
              exact this
            have HE : Hid (getB bs = (0, 0)) := by show _ = _; rw [HG.out, if_neg heq]
            clear heq
            go_wp2_with fail
            go_region_with (go_at_call 70; refine (HK.out _ ?_).mono ?_; exact (Below.refl _ _).drew; rintro e w1 ⟨g, cp, rfl, hb1, hca, hcb⟩)
            all_goals
              go_wp2
              go_ret2
              exact ⟨by rw [HE.out]; rfl, hb1.out⟩
        · have HS : Hid (AllHi (bs.take (k + 1))) := hi_step HA.out HH.out hltb (by rw [← HX.out]; exact hx)
          go_wp2
          go_round
          case rel => exact ⟨k + 1, by omega, by omega, HS.out, by go_num, by rw [HV.out]⟩
          case measure => simp [intOf]; omega
      · have HN : Hid (getB bs = (0, 0)) := by
          by_cases h10 : k < 10
          · exact hi_end HH.out (by rw [HL.out]; omega) (by rw [HL.out]; omega)
          · obtain rfl : k = 10 := by omega
            exact hi_full HH.out (by rw [HL.out]; omega)
        go_wp2
        all_goals first
          | (exfalso; omega)
          | (go_ret2; exact ⟨by rw [HN.out]; rfl, Below.refl _ _⟩)
end Go.Proofs.Ytlpmfhccfihnfaa
