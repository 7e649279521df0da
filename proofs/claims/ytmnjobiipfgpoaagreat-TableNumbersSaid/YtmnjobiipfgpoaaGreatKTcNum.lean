/- Chapter 11's law: a closed sentence: the chapter's runs, rows of forty tapes, batches of any order. -/
import Derived.Test.YtmnjobiipfgpoaaGreatK14
namespace Go.Proofs.YtmnjobiipfgpoaaGreat
open Go.RowKit
open Go.SeqMath
open Go.ProdMath
open Go.BatMath hiding AllB getD_lt take_all
set_option linter.unusedVariables false

def oddM : List BM := [⟨⟨0, 0, 0, 0, false, 0, []⟩, none, 0⟩, ⟨⟨0, 5, 0, 0, false, 0, []⟩, none, 0⟩, ⟨⟨0, 0, 0, 0, false, 9, []⟩, none, 0⟩]
theorem odd_bats (w : World) : BatsAt (w.alloc (.cells #[.int .i64 0, .int .i64 0, .int .i64 0, .int .i64 0, .bool false, .int .i64 0, .slice none 0 0, .int .i64 0, .int .i64 5, .int .i64 0, .int .i64 0, .bool false, .int .i64 0, .slice none 0 0, .int .i64 0, .int .i64 0, .int .i64 0, .int .i64 0, .bool false, .int .i64 9, .slice none 0 0] 30)) (some ⟨w.heap.size, 0, none⟩) 3 3 oddM := by
  refine ⟨rowAt_lit batK_ok w oddM (by decide) _ rfl 3 rfl, fun m hm => ?_⟩
  unfold oddM at hm
  simp only [List.mem_cons, List.not_mem_nil, or_false] at hm
  rcases hm with rfl | rfl | rfl <;> exact recsAt_row.2 (rowAt_nil _)
theorem odd_ok : BatsOk (bats oddM) ∧ ∀ b ∈ bats oddM, b.wf := by
  refine ⟨fun b hb => ?_, fun b hb => ?_⟩
  · unfold bats oddM at hb
    simp only [List.map_cons, List.map_nil, List.mem_cons, List.not_mem_nil, or_false] at hb
    rcases hb with rfl | rfl | rfl <;> exact ⟨(fun r hr => by cases hr), by decide, by decide⟩
  · unfold bats oddM at hb
    simp only [List.map_cons, List.map_nil, List.mem_cons, List.not_mem_nil, or_false] at hb
    rcases hb with rfl | rfl | rfl <;> exact ⟨by decide, by decide, by decide, by decide, by decide⟩
set_option maxRecDepth 100000 in
set_option maxHeartbeats 8000000 in
theorem tableNumbers_any (w : World) : Calls Tryz.prog 3 #[] w (GivesBool w true) := by
  go_enter Tryz.func3, Tryz.ntmps3
  go_wp2
  go_loopw [1] (fun v1 wr => ∃ k : Nat, v1 = .int .i64 (k : Int) ∧ k ≤ 40 ∧ Hid (Below w.heap.size w wr)) (fun v1 _ => 40 - (intOf v1).toNat)
  case atStart => exact ⟨0, rfl, by omega, Below.refl _ _⟩
  case round =>
    obtain ⟨k, rfl, hk, HB⟩ := hrel
    obtain ⟨wo, hwo⟩ : ∃ wo : World, wo = wr := ⟨_, rfl⟩
    subst hwo
    by_cases hlt : k < 40
    · have hd1 : decide ((k : Int) < 40) = true := decide_eq_true (by omega)
      have hd1n : decide (k < 40) = true := decide_eq_true hlt
      go_wp2_with fail
      refine (tcTape_any wo k (by omega)).mono ?_
      rintro e w1 ⟨tad, tcap, zs, rfl, hnum, hb1⟩
      go_wp2_with fail
      refine (row_any w1 tad 400 tcap zs hnum.out (by omega) 0 (by decide) (by decide) 30 (by decide)).mono ?_
      rintro e w2 ⟨ad, len, cap, ms, rfl, HBA, HRD, hlen, hb2⟩
      have HROK := Lib.hid (rowD_ok HRD.out)
      go_wp2_with fail
      refine (play_any w2 ad len cap ms HBA.out (by omega) (batsOk_of HROK.out) (fun b hb => (HROK.out b hb).2)).mono ?_
      rintro e w3 ⟨rfl, hb3⟩
      have h12 := hb1.out.trans (hb2.out.mono hb1.out.size)
      have HB3 := Lib.hid (HB.out.trans ((h12.trans (hb3.mono h12.size)).mono HB.out.size))
      clear hnum hb1 HBA HRD hlen hb2 HROK hb3 h12 HB
      go_wp2_with fail
      refine (tcTape_any w3 k (by omega)).mono ?_
      rintro e w4 ⟨tad2, tcap2, zs2, rfl, hnum, hb1⟩
      go_wp2_with fail
      refine (tcAny1_any w4 tad2 400 tcap2 zs2 hnum.out (by omega) 40 (by decide)).mono ?_
      rintro e w5 ⟨ad2, len2, cap2, ms2, rfl, HBA, HROK, hlen, hb2⟩
      go_wp2_with fail
      refine (play_any w5 ad2 len2 cap2 ms2 HBA.out (by omega) (batsOk_of HROK.out) (fun b hb => (HROK.out b hb).2)).mono ?_
      rintro e w6 ⟨rfl, hb3⟩
      have h12 := hb1.out.trans (hb2.out.mono hb1.out.size)
      have HB6 := Lib.hid (HB3.out.trans ((h12.trans (hb3.mono h12.size)).mono HB3.out.size))
      clear hnum hb1 HBA HROK hlen hb2 hb3 h12 HB3
      go_wp2
      go_roundw
      case rel => exact ⟨k + 1, by go_num, by omega, HB6.out⟩
      case measure => simp [intOf]; omega
    · have hd1 : decide ((k : Int) < 40) = false := decide_eq_false (by omega)
      have hd1n : decide (k < 40) = false := decide_eq_false hlt
      obtain ⟨W1, hW1⟩ : ∃ z, z = wo.alloc (.cells #[.int .i64 0, .int .i64 0, .int .i64 0, .int .i64 0, .bool false, .int .i64 0, .slice none 0 0, .int .i64 0, .int .i64 5, .int .i64 0, .int .i64 0, .bool false, .int .i64 0, .slice none 0 0, .int .i64 0, .int .i64 0, .int .i64 0, .int .i64 0, .bool false, .int .i64 9, .slice none 0 0] 30) := ⟨_, rfl⟩
      have HBA : Hid (BatsAt W1 (some ⟨wo.heap.size, 0, none⟩) 3 3 oddM) := by show BatsAt _ _ _ _ _; rw [hW1]; exact odd_bats wo
      have HB1 : Hid (Below w.heap.size w W1) := by show Below _ _ _; rw [hW1]; exact HB.out.alloc HB.out.size _
      have HW1 := Lib.hid hW1
      clear hW1 HB
      go_wp2_with fail
      rw [← HW1.out]
      refine (play_any W1 _ 3 3 oddM HBA.out (by omega) odd_ok.1 odd_ok.2).mono ?_
      rintro e w3 ⟨rfl, hb3⟩
      have HB3 := Lib.hid (HB1.out.trans (hb3.mono HB1.out.size))
      clear hb3 HB1 HBA HW1
      go_wp2_with fail
      refine (known11_any w3).mono ?_
      rintro e w4 ⟨rfl, hb4⟩
      have HB4 := Lib.hid (HB3.out.trans (hb4.mono HB3.out.size))
      clear hb4 HB3
      go_wp2
      go_ret
      exact ⟨rfl, HB4.out⟩
end Go.Proofs.YtmnjobiipfgpoaaGreat
