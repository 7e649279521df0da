/- IndexOrder: entries rise, no nearer than every bytes; a greater offset is found no earlier. -/
import Derived.Test.YtelbignfecjjhaaIxRow
namespace Go.Proofs.Ytelbignfecjjhaa
open Go.RowKit
open Go.IxMath
open Go.VarMath hiding AllB
set_option linter.unusedVariables false

set_option maxRecDepth 100000 in
set_option maxHeartbeats 16000000 in
theorem ixOrder_any (W : World) (nad : Option Addr) (len cap : Nat) (zs : List Int) (hz : IsRow .i64 W nad len cap zs) (every a b : Int) (hev : I64 every) :
    Calls Try.prog 7 #[.slice nad len cap, .int .i64 every, .int .i64 a, .int .i64 b] W fun e w' => e = .returned (.bool true) ∧ Below W.heap.size W w' := by
  have HZ := Lib.hid hz
  clear hz
  go_enter Try.func7, Try.ntmps7
  go_wp2_with fail
  refine (within_any every 90 W hev (by omega)).mono ?_
  rintro e w1 ⟨k0, rfl, hk0, rfl⟩
  have hk91 : (1 : Int) + (k0 : Int) ≤ 91 := by omega
  obtain ⟨kk, hkk⟩ : ∃ z : Int, z = 1 + (k0 : Int) := ⟨_, rfl⟩
  have HKK : Hid (1 ≤ kk ∧ kk ≤ 91) := by show _ ∧ _; omega
  go_upto_region 2 with fail
  rw [← hkk]
  clear hkk hk0 hk91
  go_wp2_with fail
  refine (ix_new W W (Below.refl _ W) 0 kk ⟨by decide, by decide⟩ ⟨by have := HKK.out; omega, by have := HKK.out; omega⟩ (decide_eq_false (by have := HKK.out; omega))).mono ?_
  rintro e w2 ⟨kx, rfl, H2⟩
  have HST : Hid (RowI [] 0 1 0 0) := rowI_nil (by decide)
  go_wp2_with fail
  go_loopw [11, 12] (fun v11 v12 wr => ∃ (i : Nat) (p : Int) (bs : List Ba), v12 = .int .i64 (i : Int) ∧ i ≤ 40 ∧ i ≤ len ∧ v11 = .int .i64 p ∧ Hid (Own8 W wr kx 0 kk bs) ∧ Hid (RowI bs 0 1 i p)) (fun _ v12 _ => 40 - (intOf v12).toNat)
  case atStart => exact ⟨0, 0, [], rfl, by omega, by omega, rfl, H2.out, HST.out⟩
  case round =>
    obtain ⟨i, p, bs, rfl, hi40, hil, rfl, HO, HR⟩ := hrel
    obtain ⟨wo, hwo⟩ : ∃ wo : World, wo = wr := ⟨_, rfl⟩
    subst hwo
    clear HST H2
    by_cases hlt : i < len ∧ i < 40
    · obtain ⟨hlt1, hlt2⟩ := hlt
      have hd1 : decide (i < len) = true := decide_eq_true hlt1
      have hd2 : decide (i < 40) = true := decide_eq_true hlt2
      have hij : (i : Int) < (len : Int) := by omega
      obtain ⟨bz, oz, z, el, hbz, hc, hzi⟩ := int_get HZ.out hlt1
      have c0 : wo.cell? ⟨bz, oz + i, none⟩ = some (.int .i64 z) := (HO.out.below.cell (p := ⟨bz, oz + i, none⟩) hbz).trans hc
      subst el
      clear hc
      go_wp2_with fail
      refine (within_any z 50 wo hzi (by omega)).mono ?_
      rintro e w3 ⟨n0, rfl, hn0, rfl⟩
      clear c0 hzi hbz
      obtain ⟨nn, hnn⟩ : ∃ z : Int, z = 1 + (n0 : Int) := ⟨_, rfl⟩
      have HNN : Hid (1 ≤ nn ∧ nn ≤ 61) := by show _ ∧ _; omega
      have hpb := HR.out.pos
      go_upto_region 10 with fail
      rw [← hnn]
      clear hnn hn0
      have HG := Lib.hid (HR.out.good (base := 0) (n := nn) (by omega) HNN.out.1)
      have HN := Lib.hid (HR.out.next (n := nn) (by decide) (by decide) (by omega) HNN.out)
      have e1 : (0 : Int) + 1 * (i : Int) = (i : Int) := by omega
      rw [e1] at HG HN
      go_wp2_with fail
      refine (ix_add HO.out HR.out.small (i : Int) p nn ⟨by omega, by omega⟩ ⟨by omega, by omega⟩ ⟨by have := HNN.out; omega, by have := HNN.out; omega⟩).mono ?_
      rintro e w4 ⟨rfl, HO4⟩
      rw [HG.out.2] at HO4
      have hsum : -9223372036854775808 ≤ p + nn ∧ p + nn ≤ 9223372036854775807 := by have := HNN.out; omega
      clear HO HR HG
      go_wp2_with fail
      go_roundw
      case rel => exact ⟨i + 1, p + nn, _, by go_num, by omega, by omega, rfl, HO4.out, HN.out⟩
      case measure => simp [intOf]; omega
    · have HNL : Hid (¬ (i < len ∧ i < 40)) := hlt
      obtain ⟨l, hl⟩ : ∃ l, l = ents kk bs := ⟨_, rfl⟩
      obtain ⟨m, hm⟩ : ∃ m, (ents kk bs).length = m := ⟨_, rfl⟩
      have HM := ix_made HO.out
      have HRISE : Hid (Rise kk l) := by show Rise _ _; rw [hl]; exact rise_ents HM.1
      have HMONO : Hid (∀ p q : Int, p ≤ q → findE l p ≤ findE l q) := fun p q h => by rw [hl]; exact find_mono HM.2.2 HM.1 h
      have HIFF : Hid (len = 0 ↔ m = 0) := by
        show _ ↔ _
        have h1 := ents_nil (every := kk) HM.1
        have h2 := HR.out.len
        have h3 := HNL.out
        constructor
        · intro h
          have : bs = [] := List.eq_nil_of_length_eq_zero (by omega)
          rw [← hm, h1.2 this]
          rfl
        · intro h
          have := h1.1 (List.eq_nil_of_length_eq_zero (by omega))
          rw [this] at h2
          simp at h2
          omega
      have hm1 : m ≤ 1000 := by have h1 := ents_len kk bs; have h2 := HR.out.small.1; omega
      have HSM := Lib.hid HR.out.small
      have HML := Lib.hid hm
      have HL := Lib.hid hl
      clear HM hl hm HR
      by_cases hle : i < len
      · have e1 : decide (i < len) = true := decide_eq_true hle
        have e2 : decide (i < 40) = false := decide_eq_false (by have := HNL.out; omega)
        clear HNL
        go_wp2_with fail
        refine (ix_entries HO.out HSM.out m HML.out).mono ?_
        rintro e w5 ⟨ad5, cap5, rfl, HR5, HB5⟩
        rw [← HL.out] at HR5
        have HO5 := Lib.hid (HO.out.on HB5.out)
        clear HO HB5 e1
        try clear e2
        go_wp2_with fail
        have HW5 : Hid (Below w5.heap.size w5 w5) := Below.refl _ w5
        go_loopw [53] (fun v53 wr => ∃ j : Nat, v53 = .int .i64 (j : Int) ∧ j ≤ m ∧ Hid (Below w5.heap.size w5 wr)) (fun v53 _ => m - (intOf v53).toNat)
        case atStart => exact ⟨0, rfl, by omega, HW5.out⟩
        case round =>
          obtain ⟨j, rfl, hjm, HBJ⟩ := hrel
          obtain ⟨wj, hwj⟩ : ∃ wj : World, wj = wr := ⟨_, rfl⟩
          subst hwj
          clear HW5
          by_cases hlj : j < m
          · have hd : decide (j < m) = true := decide_eq_true hlj
            rcases Nat.eq_zero_or_pos j with hj0 | hj0
            · have hg : decide ((0 : Int) < (j : Int)) = false := decide_eq_false (by omega)
              go_upto_region 16 with fail
              go_quiet (fail)
              go_wp2_with fail
              go_roundw
              case rel => exact ⟨j + 1, by go_num, by omega, HBJ.out.trans ((below_drewN _ _).mono HBJ.out.size)⟩
              case measure => simp [intOf]; omega
            · have hg : decide ((0 : Int) < (j : Int)) = true := decide_eq_true (by omega)
              obtain ⟨b1, o1, x1, el1, hb1, hx1, c10, c11⟩ := en_get HR5.out hlj
              obtain ⟨b2, o2, x2, el2, hb2, hx2, c20, c21⟩ := en_get HR5.out (show j - 1 < m by omega)
              subst el1
              cases el2
              have hr := HRISE.out (j - 1) x2 x1 hx2 (by rw [show j - 1 + 1 = j by omega]; exact hx1)
              have c10 := (HBJ.out.cell (p := ⟨b1, _, none⟩) hb1).trans c10
              have c11 := (HBJ.out.cell (p := ⟨b1, _, none⟩) hb1).trans c11
              have c20 := (HBJ.out.cell (p := ⟨b1, _, none⟩) hb1).trans c20
              have c21 := (HBJ.out.cell (p := ⟨b1, _, none⟩) hb1).trans c21
              obtain ⟨xo1, h1⟩ : ∃ z, z = x1.off := ⟨_, rfl⟩
              obtain ⟨xp1, h2⟩ : ∃ z, z = x1.pos := ⟨_, rfl⟩
              obtain ⟨xo2, h3⟩ : ∃ z, z = x2.off := ⟨_, rfl⟩
              obtain ⟨xp2, h4⟩ : ∃ z, z = x2.pos := ⟨_, rfl⟩
              have hq : (0 ≤ x1.pos ∧ x1.pos ≤ 4611686018427387904) ∧ (0 ≤ x2.pos ∧ x2.pos ≤ 4611686018427387904) := by
                have key : ∀ e ∈ l, 0 ≤ e.pos ∧ e.pos ≤ 4611686018427387904 := fun e he => by
                  rw [HL.out] at he
                  obtain ⟨bb, hbb, rfl⟩ := ents_mem (ix_made HO5.out).1 e he
                  have g1 := made_all (ix_made HO5.out).1 bb hbb
                  have g2 := HSM.out.2 bb hbb
                  exact ⟨by show 0 ≤ bb.pos; omega, by show bb.pos ≤ _; omega⟩
                exact ⟨key x1 (List.mem_of_getElem? hx1), key x2 (List.mem_of_getElem? hx2)⟩
              rw [← h1] at c10 hr
              rw [← h2] at c11 hr hq
              rw [← h3] at c20 hr
              rw [← h4] at c21 hr hq
              clear h1 h2 h3 h4 hx1 hx2 hb1 hb2
              have hw1 : IntKind.i64.wrap ((j : Int) - 1) = (j : Int) - 1 := by rw [IntKind.wrap_i64]; omega
              have hw2 : ((j : Int) - 1).toNat = j - 1 := by omega
              have hw3 : (1 : Int) ≤ (j : Int) := by omega
              have hw4 : (j : Int) - 1 < (m : Int) := by omega
              have hw5 : (j : Int) < (m : Int) := by omega
              have hw6 : IntKind.i64.wrap (xp1 - xp2) = xp1 - xp2 := by rw [IntKind.wrap_i64]; omega
              have hd1 : decide (xo1 ≤ xo2) = false := decide_eq_false (by omega)
              have hd2 : decide (xp1 - xp2 < kk) = false := decide_eq_false (by omega)
              clear hr hq
              go_upto_region 16 with fail
              go_quiet (fail)
              clear c10 c11 c20 c21 hw1 hw2 hw3 hw4 hw5 hw6 hd1 hd2
              go_wp2_with fail
              go_roundw
              case rel => exact ⟨j + 1, by go_num, by omega, HBJ.out.trans ((below_drewN _ _).mono HBJ.out.size)⟩
              case measure => simp [intOf]; omega
          · have hd : decide (j < m) = false := decide_eq_false hlj
            have HOJ := Lib.hid (HO5.out.on HBJ.out)
            clear HO5 HBJ HR5
            obtain ⟨pp, hpp⟩ : ∃ z : Int, z = bits BinOp.and IntKind.i64 a 63 := ⟨_, rfl⟩
            obtain ⟨qq, hqq⟩ : ∃ z : Int, z = bits BinOp.and IntKind.i64 b 63 := ⟨_, rfl⟩
            have HPI : Hid (I64 pp) := by show I64 _; rw [hpp]; exact bits_range a 63
            have HQI : Hid (I64 qq) := by show I64 _; rw [hqq]; exact bits_range b 63
            have hz1 : ((len : Int) == 0) = ((m : Int) == 0) := by
              have h := HIFF.out
              rcases Nat.eq_zero_or_pos len with h1 | h1
              · rw [h1, h.1 h1]
              · have h2 : m ≠ 0 := fun e => by have := h.2 e; omega
                have e1 : ((len : Int) == 0) = false := by simp; omega
                have e2 : ((m : Int) == 0) = false := by simp; omega
                rw [e1, e2]
            go_upto_region 20 with fail
            rw [← hpp, ← hqq]
            clear hpp hqq hd
            by_cases hpq : qq < pp
            · have hd : decide (qq < pp) = true := decide_eq_true hpq
              cases hm0 : ((m : Int) == 0)
              · rw [hm0] at hz1
                go_wp2_with fail
                refine (ixKnown_any _).mono ?_
                rintro e w9 ⟨rfl, hb9⟩
                have HB9 : Hid (Below W.heap.size W w9) := HOJ.out.below.trans (hb9.mono HOJ.out.below.size)
                clear hb9
                go_wp2
                go_ret
                exact ⟨rfl, HB9.out⟩
              · rw [hm0] at hz1
                go_wp2_with fail
                refine (ixKnown_any _).mono ?_
                rintro e w9 ⟨rfl, hb9⟩
                have HB9 : Hid (Below W.heap.size W w9) := HOJ.out.below.trans (hb9.mono HOJ.out.below.size)
                clear hb9
                go_wp2
                go_ret
                exact ⟨rfl, HB9.out⟩
            · have hd : decide (qq < pp) = false := decide_eq_false hpq
              go_wp2_with fail
              refine (ix_find HOJ.out HSM.out pp HPI.out).mono ?_
              rintro e w6 ⟨rfl, HB6⟩
              have HO6 := Lib.hid (HOJ.out.on HB6.out)
              rw [← HL.out]
              clear HOJ HB6
              obtain ⟨fp, hfp⟩ : ∃ z, z = findE l pp := ⟨_, rfl⟩
              rw [← hfp]
              have HFP := Lib.hid hfp
              clear hfp
              go_wp2_with fail
              refine (ix_find HO6.out HSM.out qq HQI.out).mono ?_
              rintro e w7 ⟨rfl, HB7⟩
              have HOJ := Lib.hid (HO6.out.on HB7.out)
              rw [← HL.out]
              clear HO6 HB7
              obtain ⟨fq, hfq⟩ : ∃ z, z = findE l qq := ⟨_, rfl⟩
              rw [← hfq]
              have hle2 : decide (fp ≤ fq) = true := decide_eq_true (by rw [HFP.out, hfq]; exact HMONO.out pp qq (by omega))
              clear hfq
              cases hm0 : ((m : Int) == 0)
              · rw [hm0] at hz1
                go_wp2_with fail
                refine (ixKnown_any _).mono ?_
                rintro e w9 ⟨rfl, hb9⟩
                have HB9 : Hid (Below W.heap.size W w9) := HOJ.out.below.trans (hb9.mono HOJ.out.below.size)
                clear hb9
                go_wp2
                go_ret
                exact ⟨rfl, HB9.out⟩
              · rw [hm0] at hz1
                go_wp2_with fail
                refine (ixKnown_any _).mono ?_
                rintro e w9 ⟨rfl, hb9⟩
                have HB9 : Hid (Below W.heap.size W w9) := HOJ.out.below.trans (hb9.mono HOJ.out.below.size)
                clear hb9
                go_wp2
                go_ret
                exact ⟨rfl, HB9.out⟩
      · have e1 : decide (i < len) = false := decide_eq_false hle
        clear HNL
        go_wp2_with fail
        refine (ix_entries HO.out HSM.out m HML.out).mono ?_
        rintro e w5 ⟨ad5, cap5, rfl, HR5, HB5⟩
        rw [← HL.out] at HR5
        have HO5 := Lib.hid (HO.out.on HB5.out)
        clear HO HB5 e1
        try clear e2
        go_wp2_with fail
        have HW5 : Hid (Below w5.heap.size w5 w5) := Below.refl _ w5
        go_loopw [53] (fun v53 wr => ∃ j : Nat, v53 = .int .i64 (j : Int) ∧ j ≤ m ∧ Hid (Below w5.heap.size w5 wr)) (fun v53 _ => m - (intOf v53).toNat)
        case atStart => exact ⟨0, rfl, by omega, HW5.out⟩
        case round =>
          obtain ⟨j, rfl, hjm, HBJ⟩ := hrel
          obtain ⟨wj, hwj⟩ : ∃ wj : World, wj = wr := ⟨_, rfl⟩
          subst hwj
          clear HW5
          by_cases hlj : j < m
          · have hd : decide (j < m) = true := decide_eq_true hlj
            rcases Nat.eq_zero_or_pos j with hj0 | hj0
            · have hg : decide ((0 : Int) < (j : Int)) = false := decide_eq_false (by omega)
              go_upto_region 16 with fail
              go_quiet (fail)
              go_wp2_with fail
              go_roundw
              case rel => exact ⟨j + 1, by go_num, by omega, HBJ.out.trans ((below_drewN _ _).mono HBJ.out.size)⟩
              case measure => simp [intOf]; omega
            · have hg : decide ((0 : Int) < (j : Int)) = true := decide_eq_true (by omega)
              obtain ⟨b1, o1, x1, el1, hb1, hx1, c10, c11⟩ := en_get HR5.out hlj
              obtain ⟨b2, o2, x2, el2, hb2, hx2, c20, c21⟩ := en_get HR5.out (show j - 1 < m by omega)
              subst el1
              cases el2
              have hr := HRISE.out (j - 1) x2 x1 hx2 (by rw [show j - 1 + 1 = j by omega]; exact hx1)
              have c10 := (HBJ.out.cell (p := ⟨b1, _, none⟩) hb1).trans c10
              have c11 := (HBJ.out.cell (p := ⟨b1, _, none⟩) hb1).trans c11
              have c20 := (HBJ.out.cell (p := ⟨b1, _, none⟩) hb1).trans c20
              have c21 := (HBJ.out.cell (p := ⟨b1, _, none⟩) hb1).trans c21
              obtain ⟨xo1, h1⟩ : ∃ z, z = x1.off := ⟨_, rfl⟩
              obtain ⟨xp1, h2⟩ : ∃ z, z = x1.pos := ⟨_, rfl⟩
              obtain ⟨xo2, h3⟩ : ∃ z, z = x2.off := ⟨_, rfl⟩
              obtain ⟨xp2, h4⟩ : ∃ z, z = x2.pos := ⟨_, rfl⟩
              have hq : (0 ≤ x1.pos ∧ x1.pos ≤ 4611686018427387904) ∧ (0 ≤ x2.pos ∧ x2.pos ≤ 4611686018427387904) := by
                have key : ∀ e ∈ l, 0 ≤ e.pos ∧ e.pos ≤ 4611686018427387904 := fun e he => by
                  rw [HL.out] at he
                  obtain ⟨bb, hbb, rfl⟩ := ents_mem (ix_made HO5.out).1 e he
                  have g1 := made_all (ix_made HO5.out).1 bb hbb
                  have g2 := HSM.out.2 bb hbb
                  exact ⟨by show 0 ≤ bb.pos; omega, by show bb.pos ≤ _; omega⟩
                exact ⟨key x1 (List.mem_of_getElem? hx1), key x2 (List.mem_of_getElem? hx2)⟩
              rw [← h1] at c10 hr
              rw [← h2] at c11 hr hq
              rw [← h3] at c20 hr
              rw [← h4] at c21 hr hq
              clear h1 h2 h3 h4 hx1 hx2 hb1 hb2
              have hw1 : IntKind.i64.wrap ((j : Int) - 1) = (j : Int) - 1 := by rw [IntKind.wrap_i64]; omega
              have hw2 : ((j : Int) - 1).toNat = j - 1 := by omega
              have hw3 : (1 : Int) ≤ (j : Int) := by omega
              have hw4 : (j : Int) - 1 < (m : Int) := by omega
              have hw5 : (j : Int) < (m : Int) := by omega
              have hw6 : IntKind.i64.wrap (xp1 - xp2) = xp1 - xp2 := by rw [IntKind.wrap_i64]; omega
              have hd1 : decide (xo1 ≤ xo2) = false := decide_eq_false (by omega)
              have hd2 : decide (xp1 - xp2 < kk) = false := decide_eq_false (by omega)
              clear hr hq
              go_upto_region 16 with fail
              go_quiet (fail)
              clear c10 c11 c20 c21 hw1 hw2 hw3 hw4 hw5 hw6 hd1 hd2
              go_wp2_with fail
              go_roundw
              case rel => exact ⟨j + 1, by go_num, by omega, HBJ.out.trans ((below_drewN _ _).mono HBJ.out.size)⟩
              case measure => simp [intOf]; omega
          · have hd : decide (j < m) = false := decide_eq_false hlj
            have HOJ := Lib.hid (HO5.out.on HBJ.out)
            clear HO5 HBJ HR5
            obtain ⟨pp, hpp⟩ : ∃ z : Int, z = bits BinOp.and IntKind.i64 a 63 := ⟨_, rfl⟩
            obtain ⟨qq, hqq⟩ : ∃ z : Int, z = bits BinOp.and IntKind.i64 b 63 := ⟨_, rfl⟩
            have HPI : Hid (I64 pp) := by show I64 _; rw [hpp]; exact bits_range a 63
            have HQI : Hid (I64 qq) := by show I64 _; rw [hqq]; exact bits_range b 63
            have hz1 : ((len : Int) == 0) = ((m : Int) == 0) := by
              have h := HIFF.out
              rcases Nat.eq_zero_or_pos len with h1 | h1
              · rw [h1, h.1 h1]
              · have h2 : m ≠ 0 := fun e => by have := h.2 e; omega
                have e1 : ((len : Int) == 0) = false := by simp; omega
                have e2 : ((m : Int) == 0) = false := by simp; omega
                rw [e1, e2]
            go_upto_region 20 with fail
            rw [← hpp, ← hqq]
            clear hpp hqq hd
            by_cases hpq : qq < pp
            · have hd : decide (qq < pp) = true := decide_eq_true hpq
              cases hm0 : ((m : Int) == 0)
              · rw [hm0] at hz1
                go_wp2_with fail
                refine (ixKnown_any _).mono ?_
                rintro e w9 ⟨rfl, hb9⟩
                have HB9 : Hid (Below W.heap.size W w9) := HOJ.out.below.trans (hb9.mono HOJ.out.below.size)
                clear hb9
                go_wp2
                go_ret
                exact ⟨rfl, HB9.out⟩
              · rw [hm0] at hz1
                go_wp2_with fail
                refine (ixKnown_any _).mono ?_
                rintro e w9 ⟨rfl, hb9⟩
                have HB9 : Hid (Below W.heap.size W w9) := HOJ.out.below.trans (hb9.mono HOJ.out.below.size)
                clear hb9
                go_wp2
                go_ret
                exact ⟨rfl, HB9.out⟩
            · have hd : decide (qq < pp) = false := decide_eq_false hpq
              go_wp2_with fail
              refine (ix_find HOJ.out HSM.out pp HPI.out).mono ?_
              rintro e w6 ⟨rfl, HB6⟩
              have HO6 := Lib.hid (HOJ.out.on HB6.out)
              rw [← HL.out]
              clear HOJ HB6
              obtain ⟨fp, hfp⟩ : ∃ z, z = findE l pp := ⟨_, rfl⟩
              rw [← hfp]
              have HFP := Lib.hid hfp
              clear hfp
              go_wp2_with fail
              refine (ix_find HO6.out HSM.out qq HQI.out).mono ?_
              rintro e w7 ⟨rfl, HB7⟩
              have HOJ := Lib.hid (HO6.out.on HB7.out)
              rw [← HL.out]
              clear HO6 HB7
              obtain ⟨fq, hfq⟩ : ∃ z, z = findE l qq := ⟨_, rfl⟩
              rw [← hfq]
              have hle2 : decide (fp ≤ fq) = true := decide_eq_true (by rw [HFP.out, hfq]; exact HMONO.out pp qq (by omega))
              clear hfq
              cases hm0 : ((m : Int) == 0)
              · rw [hm0] at hz1
                go_wp2_with fail
                refine (ixKnown_any _).mono ?_
                rintro e w9 ⟨rfl, hb9⟩
                have HB9 : Hid (Below W.heap.size W w9) := HOJ.out.below.trans (hb9.mono HOJ.out.below.size)
                clear hb9
                go_wp2
                go_ret
                exact ⟨rfl, HB9.out⟩
              · rw [hm0] at hz1
                go_wp2_with fail
                refine (ixKnown_any _).mono ?_
                rintro e w9 ⟨rfl, hb9⟩
                have HB9 : Hid (Below W.heap.size W w9) := HOJ.out.below.trans (hb9.mono HOJ.out.below.size)
                clear hb9
                go_wp2
                go_ret
                exact ⟨rfl, HB9.out⟩
end Go.Proofs.Ytelbignfecjjhaa
