/- Chapter 9's law SegmentNumbers. -/
import Derived.Test.YtlcnpeodhfdhlaaSegTells
import Derived.Lib.SlBytesConst
namespace Go.Proofs.Ytlcnpeodhfdhlaa
open Go.RowKit
open Go.ProdMath
open Go.SegMath
open Go.IxMath
open Go.BatMath hiding AllB getD_lt take_all
set_option linter.unusedVariables false

set_option maxRecDepth 100000 in
set_option maxHeartbeats 32000000 in
theorem segNumbers_any (W : World) : Calls Try.prog 3 #[] W fun e w' => e = .returned (.bool true) ∧ Below W.heap.size W w' := by
  go_enter Try.func3, Try.ntmps3
  go_wp2_with fail
  go_loopw [1] (fun v1 wr => ∃ k : Nat, v1 = .int .i64 (k : Int) ∧ k ≤ 30 ∧ Hid (Below W.heap.size W wr)) (fun v1 _ => 30 - (intOf v1).toNat)
  case atStart => exact ⟨0, rfl, by omega, Below.refl _ W⟩
  case round =>
    obtain ⟨k, rfl, hk30, HBK⟩ := hrel
    obtain ⟨wk, hwk⟩ : ∃ wo : World, wo = wr := ⟨_, rfl⟩
    subst hwk
    by_cases hkl : k < 30
    · have hdk : decide (k < 30) = true := decide_eq_true hkl
      obtain ⟨r, hr⟩ : ∃ r, r = k % 9 := ⟨_, rfl⟩
      have m9 : (k : Int) % 9 = (r : Int) := by omega
      have hr9 : r < 9 := by omega
      obtain ⟨most, hmost⟩ : ∃ m, m = 1 + r := ⟨_, rfl⟩
      have hm1 : 1 + (r : Int) = (most : Int) := by omega
      have hm9 : most ≤ 9 := by omega
      clear hr hmost
      go_wp2_with fail
      refine (segTape_any wk k (by omega)).mono ?_
      rintro e w1 ⟨tad, tcap, zs, rfl, HNU, _, HB1⟩
      go_wp2_with fail
      refine (book_any w1 tad 400 tcap zs HNU.out (by decide) (k : Int) (by omega) (by omega) most (by omega)).mono ?_
      rintro e w2 ⟨ad, n, cap, ms, rfl, hnk, HB2, HC2⟩
      obtain ⟨N, CB⟩ := HC2.out
      clear HC2 HNU
      go_wp2_with fail
      refine CB.mono ?_
      rintro e w3 ⟨pad, pcap, rfl, H3⟩
      clear CB HB2
      have HBW3 : Hid (Below W.heap.size W w3) := HBK.out.trans ((HB1.out.trans (H3.out.below.mono HB1.out.size)).mono HBK.out.size)
      have hsz := H3.out.size
      have hN : N ≤ 30000 := by omega
      obtain ⟨E, hE⟩ : ∃ E, E = endD (k : Int) (bats ms) := ⟨_, rfl⟩
      have hE0 : (k : Int) ≤ E ∧ E ≤ 1099511627776 := by
        rw [hE]
        exact ⟨end_ge _ _ H3.out.seq H3.out.ok, (rowD_end H3.out.rowd (by omega) (by omega)).2⟩
      have HE := Lib.hid hE
      clear hE HB1
      go_wp2_with fail
      refine (refEnd_any w3 (k : Int) ad n cap ms H3.out.bats_ (by omega) H3.out.ok E HE.out.symm).mono ?_
      rintro e w4 ⟨rfl, hb4⟩
      have H4 := Lib.hid (H3.out.on hb4)
      have HBW4 : Hid (Below W.heap.size W w4) := HBW3.out.trans (hb4.mono HBW3.out.size)
      obtain ⟨p, hp⟩ : ∃ p, p = flat (bats ms) := ⟨_, rfl⟩
      have HP4 : Hid (Row w4 pad N pcap p) := by show Row _ _ _ _ _; rw [hp]; exact H4.out.row
      have HPL : Hid (p.length = N) := HP4.out.len
      have HPA : Hid (AllB p) := HP4.out.all
      have HBS4 : Hid (Below w4.heap.size w4 w4) := Below.refl _ w4
      clear hb4 H3 H4 HBW3 HBK hp HE
      go_wp2_with fail
      go_loopw [5] (fun v5 wr => ∃ o : Int, v5 = .int .i64 o ∧ (k : Int) - 2 ≤ o ∧ o ≤ E + 3 ∧ Hid (Below w4.heap.size w4 wr)) (fun v5 _ => (E + 3 - intOf v5).toNat)
      case atStart => exact ⟨(k : Int) - 2, rfl, by omega, by omega, HBS4.out⟩
      case round =>
        obtain ⟨o, rfl, ho1, ho2, HBO⟩ := hrel
        obtain ⟨wo, hwo⟩ : ∃ wo : World, wo = wr := ⟨_, rfl⟩
        subst hwo
        clear HBS4
        by_cases hol : o < E + 3
        · have hdo : decide (o < E + 3) = true := decide_eq_true hol
          go_wp2_with fail
          refine (lawSame_any wo pad N pcap p (HP4.out.keep HBO.out (Nat.le_refl _)) (by omega) (k : Int) (1 + (k : Int) * 20) o ⟨by omega, by omega⟩ ⟨by omega, by omega⟩ ⟨by omega, by omega⟩).mono ?_
          rintro e w5 ⟨rfl, hb5⟩
          have HB5 : Hid (Below w4.heap.size w4 w5) := HBO.out.trans (hb5.mono HBO.out.size)
          clear hb5
          go_wp2_with fail
          go_roundw
          case rel => exact ⟨o + 1, by go_num, by omega, by omega, HB5.out⟩
          case measure => simp [intOf]; omega
        · have hdo : decide (o < E + 3) = false := decide_eq_false hol
          have HBO2 : Hid (Below wo.heap.size wo wo) := Below.refl _ wo
          have HPO := Lib.hid (HP4.out.keep HBO.out (Nat.le_refl _))
          have HBWO : Hid (Below W.heap.size W wo) := HBW4.out.trans (HBO.out.mono HBW4.out.size)
          clear hol HP4 HBW4 HBO
          go_wp2_with fail
          go_loopw [6] (fun v6 wr => ∃ i : Nat, v6 = .int .i64 (i : Int) ∧ i ≤ N + 4 ∧ Hid (Below wo.heap.size wo wr)) (fun v6 _ => N + 5 - (intOf v6).toNat)
          case atStart => exact ⟨0, rfl, by omega, HBO2.out⟩
          case round =>
            obtain ⟨i, rfl, hi4, HBI⟩ := hrel
            obtain ⟨wi, hwi⟩ : ∃ wi : World, wi = wr := ⟨_, rfl⟩
            subst hwi
            clear HBO2
            have HPI := Lib.hid (HPO.out.keep HBI.out (Nat.le_refl _))
            by_cases hiN : i < N
            · have hdi : decide (i < N) = true := decide_eq_true hiN
              have hij : (i : Int) < (N : Int) := by omega
              have hN0 : 0 < N := by omega
              obtain ⟨w5, hw5⟩ : ∃ z, z = wi.alloc (.cells #[] 5) := ⟨_, rfl⟩
              have HB5 : Hid (Below wi.heap.size wi w5) := by show Below _ _ _; rw [hw5]; exact (Below.refl _ _).alloc (Nat.le_refl _) _
              have HO5 : Hid (OwnRow byteK w5 wi.heap.size (.slice (some ⟨wi.heap.size, 0, none⟩) 0 0) []) := by show OwnRow _ _ _ _ _; rw [hw5]; exact ownRow_lit byteK_ok wi _ [] (Nat.le_refl _) (by simp) _ rfl 0 rfl
              obtain ⟨g5, hg5⟩ : ∃ z, z = wi.heap.size := ⟨_, rfl⟩
              rw [← hg5] at HO5
              have HG5 := Lib.hid hg5
              have HW5 := Lib.hid hw5
              clear hw5 hg5
              go_upto_region 15 with fail
              go_wp2_with (at_builtin; rw [← HW5.out]; try rw [← HG5.out]; refine list_row (by rfl) byteK_ok (.tmp 46) (.tmp 47) rfl g5 [] p (.slice (some ⟨g5, 0, none⟩) 0 0) rfl HO5.out (by rw [HG5.out]; exact HB5.out.size) pad N pcap rfl (row_bytes (HPI.out.keep HB5.out (Nat.le_refl _))) (by rw [List.length_nil]; omega) ?_)
              intro v6 w6 hap
              have HO6 : Hid (OwnRow byteK w6 g5 v6 p) := hap.1
              have HB6 : Hid (Below wi.heap.size wi w6) := HB5.out.grown hap.2.1 HB5.out.size fun q hq => by have := (HO5.out.lt q hq).1; have := HG5.out; omega
              have HP6 := Lib.hid (HPI.out.keep HB6.out (Nat.le_refl _))
              have HPB : Hid (∀ q, pad = some q → 0 < N → q.block < wi.heap.size) := fun q hq h0 => by
                rcases (row_bytes HPI.out).cells with h1 | ⟨b', o', e', hlt, _⟩
                · omega
                · rw [hq] at e'; cases e'; exact hlt
              have HG6 : Hid (g5 = wi.heap.size) := HG5.out
              clear hap HO5 HW5 HB5 HG5 HPI
              obtain ⟨g7, cap7, cur7, hv7, hg7, hh7⟩ := own_heap HO6.out HPL.out hN0
              subst hv7
              have HH7 := Lib.hid hh7
              clear hh7
              obtain ⟨ad8, cap8, hv8, hr8⟩ := own_byt HO6.out HPA.out (n := N) HPL.out
              have e8 : ad8 = some ⟨g7, 0, none⟩ := by injection hv8 with e1 _ _; exact e1.symm
              obtain ⟨bk, ok, z, e9, _, hz, hcz⟩ := byte_get (row_bytes hr8) hiN
              rw [e8] at e9
              have e10 : bk = g7 ∧ ok = 0 := by injection e9 with e9; injection e9 with e9a e9b _; exact ⟨e9a.symm, e9b.symm⟩
              obtain ⟨e11, e12⟩ := e10
              subst e11 e12
              rw [Nat.zero_add] at hcz
              have hzlt : z < 256 := HPA.out z (List.mem_of_getElem? hz)
              obtain ⟨y, hy, hxor⟩ := xor_some (z : Int) 4
              have hf7 : w6.frozen? ⟨bk, i, none⟩ = false := frozen_of_row w6 bk i _ _ HH7.out
              have HOX := Lib.hid (own_xor (i := i) (y := y) HO6.out HPL.out hy)
              have HBX : Hid (Below wi.heap.size wi (w6.setCell ⟨bk, i, none⟩ (.int .u8 (y : Int)))) := HB6.out.setCell (by show wi.heap.size ≤ bk; have := HG6.out; omega) _
              clear hv8 hr8 e8 e9 hz HH7
              go_upto_region 17 with fail
              obtain ⟨w7, hw7⟩ : ∃ z, z = w6.setCell ⟨bk, i, none⟩ (.int .u8 (y : Int)) := ⟨_, rfl⟩
              rw [← hw7] at HOX HBX
              rw [← hw7]
              clear hw7 hcz hf7 hxor
              have hpx : (p.set i y).length = N := by rw [List.length_set]; exact HPL.out
              obtain ⟨ad9, cap9, hv9, hr9⟩ := own_byt HOX.out (all_set HPA.out i y hy) (n := N) hpx
              cases hv9
              have HX7 : Hid (Row w7 (some ⟨bk, 0, none⟩) N cap7 (p.set i y)) := hr9
              have HP7 : Hid (Row w7 pad N pcap p) := Row.kept8 HP6.out HB6.out HBX.out (fun q hq h0 => HPB.out q hq h0)
              have HBI7 : Hid (Below wo.heap.size wo w7) := HBI.out.trans (HBX.out.mono HBI.out.size)
              clear hr9 hpx HOX HO6 HP6 HB6 HBX HPB
              have hup : ∀ V, (Instr.slice 26 (.slice pad N pcap) none (some (.int .i64 (i : Int))) none).run Try.prog V = .ok (.slice pad i pcap) V := row_upto byteK_ok pad N pcap i (by have := HP7.out.1.fits; omega)
              go_wp2_with fail
              refine (lawSame_any w7 pad i pcap _ (row_first HP7.out i (by omega)) (by omega) (k : Int) 7 ((k : Int) + 1) ⟨by omega, by omega⟩ ⟨by omega, by omega⟩ ⟨by omega, by omega⟩).mono ?_
              rintro e w8 ⟨rfl, hb8⟩
              have HX8 := Lib.hid (HX7.out.keep hb8 (Nat.le_refl _))
              have HBI8 : Hid (Below wo.heap.size wo w8) := HBI7.out.trans (hb8.mono HBI7.out.size)
              clear hb8 HX7 HBI7 HP7 hup
              go_wp2_with fail
              refine (lawSame_any w8 (some ⟨bk, 0, none⟩) N cap7 _ HX8.out (by omega) (k : Int) 60 ((k : Int) + 2) ⟨by omega, by omega⟩ ⟨by omega, by omega⟩ ⟨by omega, by omega⟩).mono ?_
              rintro e w9 ⟨rfl, hb9⟩
              have HBI9 : Hid (Below wo.heap.size wo w9) := HBI8.out.trans (hb9.mono HBI8.out.size)
              clear hb9 HX8 HBI8
              go_wp2_with fail
              go_roundw
              case rel => exact ⟨i + 5, by go_num, by omega, HBI9.out⟩
              case measure => simp [intOf]; omega
            · have hdi : decide (i < N) = false := decide_eq_false hiN
              have HBKN : Hid (Below W.heap.size W wi) := HBWO.out.trans (HBI.out.mono HBWO.out.size)
              clear HPI HPO HBWO HBI
              go_wp2_with fail
              go_roundw
              case rel => exact ⟨k + 1, by go_num, by omega, HBKN.out⟩
              case measure => simp [intOf]; omega
    · have hdk : decide (k < 30) = false := decide_eq_false hkl
      go_wp2_with fail
      refine (lawSame_any wk none 0 0 [] ⟨Byt.nil wk, fun _ => rfl⟩ (by omega) (-1) 1 0 ⟨by decide, by decide⟩ ⟨by decide, by decide⟩ ⟨by decide, by decide⟩).mono ?_
      rintro e w1 ⟨rfl, hb1⟩
      have HB1 : Hid (Below W.heap.size W w1) := HBK.out.trans (hb1.mono HBK.out.size)
      clear hb1 HBK
      have hconv : (convert 26 26 (.slice (some ⟨w1.heap.size, 0, none⟩) 10 10)).run Try.prog (w1.alloc (.cells #[.int .u8 110, .int .u8 111, .int .u8 32, .int .u8 98, .int .u8 97, .int .u8 116, .int .u8 99, .int .u8 104, .int .u8 101, .int .u8 115] 5)) = .ok (.slice (some ⟨w1.heap.size, 0, none⟩) 10 10) (w1.alloc (.cells #[.int .u8 110, .int .u8 111, .int .u8 32, .int .u8 98, .int .u8 97, .int .u8 116, .int .u8 99, .int .u8 104, .int .u8 101, .int .u8 115] 5 (10, 11))) := Lib.run_convert_bytes_const (P := Try.prog) w1 26 5 #[.int .u8 110, .int .u8 111, .int .u8 32, .int .u8 98, .int .u8 97, .int .u8 116, .int .u8 99, .int .u8 104, .int .u8 101, .int .u8 115] 10 10 Try.underlying26 Try.underlying5
      have HLIT : Hid (Row (w1.alloc (.cells #[.int .u8 110, .int .u8 111, .int .u8 32, .int .u8 98, .int .u8 97, .int .u8 116, .int .u8 99, .int .u8 104, .int .u8 101, .int .u8 115] 5 (10, 11))) (some ⟨w1.heap.size, 0, none⟩) 10 10 [110, 111, 32, 98, 97, 116, 99, 104, 101, 115]) := ⟨byt_marked w1 [110, 111, 32, 98, 97, 116, 99, 104, 101, 115] (10, 11) (all_small (by rfl)), fun h => by cases h⟩
      have HB2 : Hid (Below W.heap.size W (w1.alloc (.cells #[.int .u8 110, .int .u8 111, .int .u8 32, .int .u8 98, .int .u8 97, .int .u8 116, .int .u8 99, .int .u8 104, .int .u8 101, .int .u8 115] 5 (10, 11)))) := HB1.out.alloc HB1.out.size _
      go_wp2_with fail
      refine (lawSame_any _ (some ⟨w1.heap.size, 0, none⟩) 10 10 _ HLIT.out (by omega) 0 1 0 ⟨by decide, by decide⟩ ⟨by decide, by decide⟩ ⟨by decide, by decide⟩).mono ?_
      rintro e w2 ⟨rfl, hb2⟩
      have HB3 : Hid (Below W.heap.size W w2) := HB2.out.trans (hb2.mono HB2.out.size)
      clear hb2 HB2 HB1 HLIT
      go_wp2_with fail
      refine (segKnown_any w2).mono ?_
      rintro e w3 ⟨rfl, hb3⟩
      have HB4 : Hid (Below W.heap.size W w3) := HB3.out.trans (hb3.mono HB3.out.size)
      clear hb3 HB3
      go_wp2_with fail
      go_ret
      exact ⟨rfl, HB4.out⟩
end Go.Proofs.Ytlcnpeodhfdhlaa
