/- IndexAgain: an index that is written and read again finds the same. -/
import Derived.Test.YtelbignfecjjhaaIxRow
namespace Go.Proofs.Ytelbignfecjjhaa
open Go.RowKit
open Go.IxMath
open Go.VarMath hiding AllB
set_option linter.unusedVariables false

set_option maxRecDepth 100000 in
set_option maxHeartbeats 16000000 in
theorem ixAgain_any (W : World) (nad : Option Addr) (len cap : Nat) (zs : List Int) (hz : IsRow .i64 W nad len cap zs) (every : Int) (hev : I64 every) (oad : Option Addr) (olen ocap : Nat) (os : List Int) (ho : IsRow .i64 W oad olen ocap os) :
    Calls Try.prog 6 #[.slice nad len cap, .int .i64 every, .slice oad olen ocap] W fun e w' => e = .returned (.bool true) ∧ Below W.heap.size W w' := by
  have HZ := Lib.hid hz
  have HOS := Lib.hid ho
  clear hz ho
  go_enter Try.func6, Try.ntmps6
  go_wp2_with fail
  refine (within_any every 90 W hev (by omega)).mono ?_
  rintro e w1 ⟨k0, rfl, hk0, rfl⟩
  have hk91 : (1 : Int) + (k0 : Int) ≤ 91 := by omega
  obtain ⟨kk, hkk⟩ : ∃ z : Int, z = 1 + (k0 : Int) := ⟨_, rfl⟩
  have HKK : Hid (1 ≤ kk ∧ kk ≤ 91) := by show _ ∧ _; omega
  go_upto_region 2 with fail
  rw [← hkk]
  clear hkk hk0 hk91
  go_wp2_with fail
  refine (ix_new W W (Below.refl _ W) 3 kk ⟨by decide, by decide⟩ ⟨by have := HKK.out; omega, by have := HKK.out; omega⟩ (decide_eq_false (by have := HKK.out; omega))).mono ?_
  rintro e w2 ⟨kx, rfl, H2⟩
  have HST : Hid (RowI [] 3 2 0 0) := rowI_nil (by decide)
  go_wp2_with fail
  go_loopw [9, 10] (fun v9 v10 wr => ∃ (i : Nat) (p : Int) (bs : List Ba), v10 = .int .i64 (i : Int) ∧ i ≤ 40 ∧ i ≤ len ∧ v9 = .int .i64 p ∧ Hid (Own8 W wr kx 3 kk bs) ∧ Hid (RowI bs 3 2 i p)) (fun _ v10 _ => 40 - (intOf v10).toNat)
  case atStart => exact ⟨0, 0, [], rfl, by omega, by omega, rfl, H2.out, HST.out⟩
  case round =>
    obtain ⟨i, p, bs, rfl, hi40, hil, rfl, HO, HR⟩ := hrel
    obtain ⟨wo, hwo⟩ : ∃ wo : World, wo = wr := ⟨_, rfl⟩
    subst hwo
    clear HST H2
    by_cases hlt : i < len ∧ i < 40
    · obtain ⟨hlt1, hlt2⟩ := hlt
      have hd1 : decide (i < len) = true := decide_eq_true hlt1
      have hd2 : decide (i < 40) = true := decide_eq_true hlt2
      have hij : (i : Int) < (len : Int) := by omega
      obtain ⟨bz, oz, z, el, hbz, hc, hzi⟩ := int_get HZ.out hlt1
      have c0 : wo.cell? ⟨bz, oz + i, none⟩ = some (.int .i64 z) := (HO.out.below.cell (p := ⟨bz, oz + i, none⟩) hbz).trans hc
      subst el
      clear hc
      go_wp2_with fail
      refine (within_any z 50 wo hzi (by omega)).mono ?_
      rintro e w3 ⟨n0, rfl, hn0, rfl⟩
      clear c0 hzi hbz
      obtain ⟨nn, hnn⟩ : ∃ z : Int, z = 1 + (n0 : Int) := ⟨_, rfl⟩
      have HNN : Hid (1 ≤ nn ∧ nn ≤ 61) := by show _ ∧ _; omega
      have hpb := HR.out.pos
      go_upto_region 10 with fail
      rw [← hnn]
      clear hnn hn0
      have HG := Lib.hid (HR.out.good (base := 3) (n := nn) (by omega) HNN.out.1)
      have HN := Lib.hid (HR.out.next (n := nn) (by decide) (by decide) (by omega) HNN.out)
      have HBA := Lib.hid (RowI.bad (bs := bs) (o0 := 3) (st := 2) (p := p) (i := i) 3 (p + nn) (p + nn))
      obtain ⟨oo, hoo⟩ : ∃ z : Int, z = 3 + 2 * (i : Int) := ⟨_, rfl⟩
      have HOO : Hid (0 ≤ oo ∧ oo ≤ 100) := by show _ ∧ _; omega
      have HOE := Lib.hid hoo
      rw [← hoo] at HG HN HBA
      clear hoo
      have hsum : -9223372036854775808 ≤ p + nn ∧ p + nn ≤ 9223372036854775807 := by have := HNN.out; omega
      go_wp2_with fail
      rw [← HOE.out]
      refine (ix_add HO.out HR.out.small oo p nn ⟨by have := HOO.out; omega, by have := HOO.out; omega⟩ ⟨by omega, by omega⟩ ⟨by have := HNN.out; omega, by have := HNN.out; omega⟩).mono ?_
      rintro e w4 ⟨rfl, HO4⟩
      rw [HG.out.2] at HO4
      rw [HG.out.1]
      clear HO HR HG
      go_wp2_with fail
      try rw [← HOE.out]
      refine (ix_add HO4.out HN.out.small oo (p + nn) 1 ⟨by have := HOO.out; omega, by have := HOO.out; omega⟩ ⟨by omega, by have := HNN.out; omega⟩ ⟨by omega, by omega⟩).mono ?_
      rintro e w5 ⟨rfl, HO5⟩
      rw [HBA.out.2] at HO5
      rw [HBA.out.1]
      clear HO4 HBA
      go_wp2_with fail
      go_roundw
      case rel => exact ⟨i + 1, p + nn, _, by go_num, by omega, by omega, rfl, HO5.out, HN.out⟩
      case measure => simp [intOf]; omega
    · have HNL : Hid (¬ (i < len ∧ i < 40)) := hlt
      have HSM := Lib.hid HR.out.small
      have hm : 16 * (ents kk bs).length ≤ 16000 := by have h1 := ents_len kk bs; have h2 := HR.out.small.1; omega
      obtain ⟨m, hme⟩ : ∃ m, 16 * (ents kk bs).length = m := ⟨_, rfl⟩
      have HML := Lib.hid hme
      have HM6 : Hid (m ≤ 16000) := by show m ≤ _; omega
      clear hm hme HR
      by_cases hle : i < len
      · have e1 : decide (i < len) = true := decide_eq_true hle
        have e2 : decide (i < 40) = false := decide_eq_false (by have := HNL.out; omega)
        clear HNL
        go_wp2_with fail
        refine (ix_bytes HO.out HSM.out m HML.out).mono ?_
        rintro e w8 ⟨ad8, cap8, rfl, HR8, HB8⟩
        have HO8 := Lib.hid (HO.out.on HB8.out)
        clear HO HB8 e1
        try clear e2
        go_wp2_with fail
        refine (ix_read W w8 HO8.out.below 3 kk ⟨by decide, by decide⟩ ⟨by have := HKK.out; omega, by have := HKK.out; omega⟩ (decide_eq_false (by have := HKK.out; omega)) ad8 m cap8 bs (ix_made HO8.out).1 (by decide) HSM.out HR8.out HM6.out).mono ?_
        rintro e w9 ⟨ky, bs2, rfl, HB9, HY9, HSY, HEY⟩
        have HO9 := Lib.hid (HO8.out.on HB9.out)
        clear HO8 HB9 HR8
        go_wp2_with fail
        have HW9 : Hid (Below w9.heap.size w9 w9) := Below.refl _ w9
        go_loopw [14] (fun v14 wr => ∃ j : Nat, v14 = .int .i64 (j : Int) ∧ j ≤ 30 ∧ j ≤ olen ∧ Hid (Below w9.heap.size w9 wr)) (fun v14 _ => 30 - (intOf v14).toNat)
        case atStart => exact ⟨0, rfl, by omega, by omega, HW9.out⟩
        case round =>
          obtain ⟨j, rfl, hj30, hjo, HBJ⟩ := hrel
          obtain ⟨wj, hwj⟩ : ∃ wj : World, wj = wr := ⟨_, rfl⟩
          subst hwj
          clear HW9
          have HOJ := Lib.hid (HO9.out.on HBJ.out)
          have HYJ := Lib.hid (HY9.out.on HBJ.out)
          by_cases hlj : j < olen ∧ j < 30
          · obtain ⟨hlj1, hlj2⟩ := hlj
            have hd1 : decide (j < olen) = true := decide_eq_true hlj1
            have hd2 : decide (j < 30) = true := decide_eq_true hlj2
            have hij : (j : Int) < (olen : Int) := by omega
            obtain ⟨bo, of, y, el, hbo, hc, hyi⟩ := int_get HOS.out hlj1
            have c0 : wj.cell? ⟨bo, of + j, none⟩ = some (.int .i64 y) := (HOJ.out.below.cell (p := ⟨bo, of + j, none⟩) hbo).trans hc
            have hbj : bo < wj.heap.size := Nat.lt_of_lt_of_le hbo HOJ.out.below.size
            subst el
            have HY := Lib.hid hyi
            have HQ0 : Hid (Below wj.heap.size wj wj.drew) := (Below.refl _ wj).drew
            have KS : Hid (∀ V, Below wj.heap.size wj V → (fun (V : World) => V.cell? ⟨bo, of + j, none⟩ = some (.int .i64 y)) V) := fun V hV => (hV.cell (p := ⟨bo, of + j, none⟩) hbj).trans c0
            clear hc hyi c0 hbo hbj
            go_upto_region 19 with fail
            refine wp_region_noPanic ?_
            refine wp_region_z [] (fun (V : World) => V.cell? ⟨bo, of + j, none⟩ = some (.int .i64 y)) (by kernel_rfl) ?_
            have hHeld : (fun (V : World) => V.cell? ⟨bo, of + j, none⟩ = some (.int .i64 y)) _ := KS.out _ HQ0.out
            obtain ⟨u0, hu0⟩ : ∃ u, u = wj.drew := ⟨_, rfl⟩
            rw [← hu0] at hHeld HQ0
            rw [← hu0]
            clear hu0
            refine wpAnyZ_take (i := 0) (oi := ⟨_, _, _, _, _, _⟩) (v := ?_) rfl (by kernel_rfl) (by kernel_rfl) (by kernel_rfl) (by kernel_rfl) (by kernel_rfl) (fun _ _ _ h => h) (Or.inl ⟨by rfl, ?_⟩) (by assumption) ?_
            rotate_left
            · intro W hSw
              (try dsimp only at hSw)
              go_simp
              (try with_reducible rfl)
            (try simp only [Act.put, List.setIfInBounds_toArray, List.set_cons_zero, List.set_cons_succ])
            refine wpAnyZ_take (i := 1) (oi := ⟨_, _, _, _, _, _⟩) (v := ?_) rfl (by kernel_rfl) (by kernel_rfl) (by kernel_rfl) (by kernel_rfl) (by kernel_rfl) (fun _ _ _ h => h) (Or.inl ⟨by rfl, ?_⟩) (by assumption) ?_
            rotate_left
            · intro W hSw
              (try dsimp only at hSw)
              go_simp
              (try with_reducible rfl)
            (try simp only [Act.put, List.setIfInBounds_toArray, List.set_cons_zero, List.set_cons_succ])
            refine wpAnyZ_take (i := 2) (oi := ⟨_, _, _, _, _, _⟩) (v := ?_) rfl (by kernel_rfl) (by kernel_rfl) (by kernel_rfl) (by kernel_rfl) (by kernel_rfl) (fun _ _ _ h => h) (Or.inl ⟨by rfl, ?_⟩) (by assumption) ?_
            rotate_left
            · intro W hSw
              (try dsimp only at hSw)
              go_simp
              (try with_reducible rfl)
            (try simp only [Act.put, List.setIfInBounds_toArray, List.set_cons_zero, List.set_cons_succ])
            refine wpAnyZ_take (i := 3) (oi := ⟨_, _, _, _, _, _⟩) (v := ?_) rfl (by kernel_rfl) (by kernel_rfl) (by kernel_rfl) (by kernel_rfl) (by kernel_rfl) (fun _ _ _ h => h) (Or.inl ⟨by rfl, ?_⟩) (by assumption) ?_
            rotate_left
            · intro W hSw
              (try dsimp only at hSw)
              go_simp
              (try with_reducible rfl)
            (try simp only [Act.put, List.setIfInBounds_toArray, List.set_cons_zero, List.set_cons_succ])
            refine wpAnyZ_take (i := 4) (oi := ⟨_, _, _, _, _, _⟩) (v := ?_) rfl (by kernel_rfl) (by kernel_rfl) (by kernel_rfl) (by kernel_rfl) (by kernel_rfl) (fun _ _ _ h => h) (Or.inl ⟨by rfl, ?_⟩) (by assumption) ?_
            rotate_left
            · intro W hSw
              (try dsimp only at hSw)
              go_simp
              (try with_reducible rfl)
            (try simp only [Act.put, List.setIfInBounds_toArray, List.set_cons_zero, List.set_cons_succ])
            refine wpAnyZ_take (i := 6) (oi := ⟨_, _, _, _, _, _⟩) (v := ?_) rfl (by kernel_rfl) (by kernel_rfl) (by kernel_rfl) (by kernel_rfl) (by kernel_rfl) (fun _ _ _ h => h) (Or.inl ⟨by rfl, ?_⟩) (by assumption) ?_
            rotate_left
            · intro W hSw
              (try dsimp only at hSw)
              go_simp
              (try with_reducible rfl)
            (try simp only [Act.put, List.setIfInBounds_toArray, List.set_cons_zero, List.set_cons_succ])
            refine wpAnyZ_take (i := 7) (oi := ⟨_, _, _, _, _, _⟩) (v := ?_) rfl (by kernel_rfl) (by kernel_rfl) (by kernel_rfl) (by kernel_rfl) (by kernel_rfl) (fun _ _ _ h => h) (Or.inl ⟨by rfl, ?_⟩) (by assumption) ?_
            rotate_left
            · intro W hSw
              (try dsimp only at hSw)
              go_simp
              (try with_reducible rfl)
            (try simp only [Act.put, List.setIfInBounds_toArray, List.set_cons_zero, List.set_cons_succ])
            refine wpAnyZ_take (i := 8) (oi := ⟨_, _, _, _, _, _⟩) (v := ?_) rfl (by kernel_rfl) (by kernel_rfl) (by kernel_rfl) (by kernel_rfl) (by kernel_rfl) (fun _ _ _ h => h) (Or.inl ⟨by rfl, ?_⟩) (by assumption) ?_
            rotate_left
            · intro W hSw
              (try dsimp only at hSw)
              go_simp
              (try with_reducible rfl)
            (try simp only [Act.put, List.setIfInBounds_toArray, List.set_cons_zero, List.set_cons_succ])
            refine wpAnyZ_take (i := 9) (oi := ⟨_, _, _, _, _, _⟩) (v := ?_) rfl (by kernel_rfl) (by kernel_rfl) (by kernel_rfl) (by kernel_rfl) (by kernel_rfl) (fun _ _ _ h => h) (Or.inl ⟨by rfl, ?_⟩) (by assumption) ?_
            rotate_left
            · intro W hSw
              (try dsimp only at hSw)
              go_simp
              (try with_reducible rfl)
            (try simp only [Act.put, List.setIfInBounds_toArray, List.set_cons_zero, List.set_cons_succ])
            refine wpAnyZ_take (i := 10) (oi := ⟨_, _, _, _, _, _⟩) (v := ?_) rfl (by kernel_rfl) (by kernel_rfl) (by kernel_rfl) (by kernel_rfl) (by kernel_rfl) (fun _ _ _ h => h) (Or.inl ⟨by rfl, ?_⟩) (by assumption) ?_
            rotate_left
            · intro W hSw
              (try dsimp only at hSw)
              go_simp
              (try with_reducible rfl)
            (try simp only [Act.put, List.setIfInBounds_toArray, List.set_cons_zero, List.set_cons_succ])
            refine wpAnyZ_ready (rs := [5]) (by kernel_rfl) (by simp) ?_
            refine AllReadyZ.cons (o := ⟨_, _, _, _, _, _⟩) rfl (fun C hC => ?_) AllReadyZ.nil
            go_simp
            refine (ix_find (HOJ.out.on (HQ0.out)) HSM.out y HY.out).mono ?_
            rintro e u1 ⟨rfl, HB1⟩
            have HQ1 : Hid (Below wj.heap.size wj u1) := HQ0.out.trans (HB1.out.mono HQ0.out.size)
            obtain ⟨f1, hf1⟩ : ∃ z, z = findE (ents kk bs) y := ⟨_, rfl⟩
            have HF1 := Lib.hid hf1
            rw [← hf1]
            clear hf1
            clear HB1
            have hHeld : (fun (V : World) => V.cell? ⟨bo, of + j, none⟩ = some (.int .i64 y)) u1 := KS.out _ HQ1.out
            refine hC.out _ _ (fun _ => hHeld) (fun _ => ?_)
            clear hC C
            (try simp only [Act.put, List.setIfInBounds_toArray, List.set_cons_zero, List.set_cons_succ])
            refine wpAnyZ_ready (rs := [11]) (by kernel_rfl) (by simp) ?_
            refine AllReadyZ.cons (o := ⟨_, _, _, _, _, _⟩) rfl (fun C hC => ?_) AllReadyZ.nil
            go_simp
            refine (ix_find (HYJ.out.on (HQ1.out)) HSY.out y HY.out).mono ?_
            rintro e u2 ⟨rfl, HB2⟩
            have HQ2 : Hid (Below wj.heap.size wj u2) := HQ1.out.trans (HB2.out.mono HQ1.out.size)
            rw [HEY.out, ← HF1.out]
            clear HB2
            have hHeld : (fun (V : World) => V.cell? ⟨bo, of + j, none⟩ = some (.int .i64 y)) u2 := KS.out _ HQ2.out
            refine hC.out _ _ (fun _ => hHeld) (fun _ => ?_)
            clear hC C
            (try simp only [Act.put, List.setIfInBounds_toArray, List.set_cons_zero, List.set_cons_succ])
            refine wpAnyZ_take (i := 12) (oi := ⟨_, _, _, _, _, _⟩) (v := ?_) rfl (by kernel_rfl) (by kernel_rfl) (by kernel_rfl) (by kernel_rfl) (by kernel_rfl) (fun _ _ _ h => h) (Or.inl ⟨by rfl, ?_⟩) (by assumption) ?_
            rotate_left
            · intro W hSw
              (try dsimp only at hSw)
              go_simp
              (try with_reducible rfl)
            (try simp only [Act.put, List.setIfInBounds_toArray, List.set_cons_zero, List.set_cons_succ])
            refine wpAnyZ_take (i := 13) (oi := ⟨_, _, _, _, _, _⟩) (v := ?_) rfl (by kernel_rfl) (by kernel_rfl) (by kernel_rfl) (by kernel_rfl) (by kernel_rfl) (fun _ _ _ h => h) (Or.inl ⟨by rfl, ?_⟩) (by assumption) ?_
            rotate_left
            · intro W hSw
              (try dsimp only at hSw)
              go_simp
              (try with_reducible rfl)
            (try simp only [Act.put, List.setIfInBounds_toArray, List.set_cons_zero, List.set_cons_succ])
            refine wpAnyZ_take (i := 14) (oi := ⟨_, _, _, _, _, _⟩) (v := ?_) rfl (by kernel_rfl) (by kernel_rfl) (by kernel_rfl) (by kernel_rfl) (by kernel_rfl) (fun _ _ _ h => h) (Or.inl ⟨by rfl, ?_⟩) (by assumption) ?_
            rotate_left
            · intro W hSw
              (try dsimp only at hSw)
              go_simp
              (try with_reducible rfl)
            (try simp only [Act.put, List.setIfInBounds_toArray, List.set_cons_zero, List.set_cons_succ])
            refine wpAnyZ_take (i := 15) (oi := ⟨_, _, _, _, _, _⟩) (v := ?_) rfl (by kernel_rfl) (by kernel_rfl) (by kernel_rfl) (by kernel_rfl) (by kernel_rfl) (fun _ _ _ h => h) (Or.inl ⟨by rfl, ?_⟩) (by assumption) ?_
            rotate_left
            · intro W hSw
              (try dsimp only at hSw)
              go_simp
              (try with_reducible rfl)
            (try simp only [Act.put, List.setIfInBounds_toArray, List.set_cons_zero, List.set_cons_succ])
            refine wpAnyZ_take (i := 16) (oi := ⟨_, _, _, _, _, _⟩) (v := ?_) rfl (by kernel_rfl) (by kernel_rfl) (by kernel_rfl) (by kernel_rfl) (by kernel_rfl) (fun _ _ _ h => h) (Or.inl ⟨by rfl, ?_⟩) (by assumption) ?_
            rotate_left
            · intro W hSw
              (try dsimp only at hSw)
              go_simp
              (try with_reducible rfl)
            (try simp only [Act.put, List.setIfInBounds_toArray, List.set_cons_zero, List.set_cons_succ])
            refine wpAnyZ_take (i := 17) (oi := ⟨_, _, _, _, _, _⟩) (v := ?_) rfl (by kernel_rfl) (by kernel_rfl) (by kernel_rfl) (by kernel_rfl) (by kernel_rfl) (fun _ _ _ h => h) (Or.inl ⟨by rfl, ?_⟩) (by assumption) ?_
            rotate_left
            · intro W hSw
              (try dsimp only at hSw)
              go_simp
              (try with_reducible rfl)
            (try simp only [Act.put, List.setIfInBounds_toArray, List.set_cons_zero, List.set_cons_succ])
            refine wpAnyZ_take (i := 18) (oi := ⟨_, _, _, _, _, _⟩) (v := ?_) rfl (by kernel_rfl) (by kernel_rfl) (by kernel_rfl) (by kernel_rfl) (by kernel_rfl) (fun _ _ _ h => h) (Or.inl ⟨by rfl, ?_⟩) (by assumption) ?_
            rotate_left
            · intro W hSw
              (try dsimp only at hSw)
              go_simp
              (try with_reducible rfl)
            (try simp only [Act.put, List.setIfInBounds_toArray, List.set_cons_zero, List.set_cons_succ])
            refine wpAnyZ_take (i := 19) (oi := ⟨_, _, _, _, _, _⟩) (v := ?_) rfl (by kernel_rfl) (by kernel_rfl) (by kernel_rfl) (by kernel_rfl) (by kernel_rfl) (fun _ _ _ h => h) (Or.inl ⟨by rfl, ?_⟩) (by assumption) ?_
            rotate_left
            · intro W hSw
              (try dsimp only at hSw)
              go_simp
              (try with_reducible rfl)
            (try simp only [Act.put, List.setIfInBounds_toArray, List.set_cons_zero, List.set_cons_succ])
            refine wpAnyZ_take (i := 21) (oi := ⟨_, _, _, _, _, _⟩) (v := ?_) rfl (by kernel_rfl) (by kernel_rfl) (by kernel_rfl) (by kernel_rfl) (by kernel_rfl) (fun _ _ _ h => h) (Or.inl ⟨by rfl, ?_⟩) (by assumption) ?_
            rotate_left
            · intro W hSw
              (try dsimp only at hSw)
              go_simp
              (try with_reducible rfl)
            (try simp only [Act.put, List.setIfInBounds_toArray, List.set_cons_zero, List.set_cons_succ])
            refine wpAnyZ_take (i := 22) (oi := ⟨_, _, _, _, _, _⟩) (v := ?_) rfl (by kernel_rfl) (by kernel_rfl) (by kernel_rfl) (by kernel_rfl) (by kernel_rfl) (fun _ _ _ h => h) (Or.inl ⟨by rfl, ?_⟩) (by assumption) ?_
            rotate_left
            · intro W hSw
              (try dsimp only at hSw)
              go_simp
              (try with_reducible rfl)
            (try simp only [Act.put, List.setIfInBounds_toArray, List.set_cons_zero, List.set_cons_succ])
            refine wpAnyZ_take (i := 23) (oi := ⟨_, _, _, _, _, _⟩) (v := ?_) rfl (by kernel_rfl) (by kernel_rfl) (by kernel_rfl) (by kernel_rfl) (by kernel_rfl) (fun _ _ _ h => h) (Or.inl ⟨by rfl, ?_⟩) (by assumption) ?_
            rotate_left
            · intro W hSw
              (try dsimp only at hSw)
              go_simp
              (try with_reducible rfl)
            (try simp only [Act.put, List.setIfInBounds_toArray, List.set_cons_zero, List.set_cons_succ])
            refine wpAnyZ_take (i := 24) (oi := ⟨_, _, _, _, _, _⟩) (v := ?_) rfl (by kernel_rfl) (by kernel_rfl) (by kernel_rfl) (by kernel_rfl) (by kernel_rfl) (fun _ _ _ h => h) (Or.inl ⟨by rfl, ?_⟩) (by assumption) ?_
            rotate_left
            · intro W hSw
              (try dsimp only at hSw)
              go_simp
              (try with_reducible rfl)
            (try simp only [Act.put, List.setIfInBounds_toArray, List.set_cons_zero, List.set_cons_succ])
            refine wpAnyZ_take (i := 25) (oi := ⟨_, _, _, _, _, _⟩) (v := ?_) rfl (by kernel_rfl) (by kernel_rfl) (by kernel_rfl) (by kernel_rfl) (by kernel_rfl) (fun _ _ _ h => h) (Or.inl ⟨by rfl, ?_⟩) (by assumption) ?_
            rotate_left
            · intro W hSw
              (try dsimp only at hSw)
              go_simp
              (try with_reducible rfl)
            (try simp only [Act.put, List.setIfInBounds_toArray, List.set_cons_zero, List.set_cons_succ])
            refine wpAnyZ_take (i := 26) (oi := ⟨_, _, _, _, _, _⟩) (v := ?_) rfl (by kernel_rfl) (by kernel_rfl) (by kernel_rfl) (by kernel_rfl) (by kernel_rfl) (fun _ _ _ h => h) (Or.inl ⟨by rfl, ?_⟩) (by assumption) ?_
            rotate_left
            · intro W hSw
              (try dsimp only at hSw)
              go_simp
              (try with_reducible rfl)
            (try simp only [Act.put, List.setIfInBounds_toArray, List.set_cons_zero, List.set_cons_succ])
            refine wpAnyZ_ready (rs := [20]) (by kernel_rfl) (by simp) ?_
            refine AllReadyZ.cons (o := ⟨_, _, _, _, _, _⟩) rfl (fun C hC => ?_) AllReadyZ.nil
            go_simp
            refine (ix_find (HOJ.out.on (HQ2.out)) HSM.out _ (bits_range y 127)).mono ?_
            rintro e u3 ⟨rfl, HB3⟩
            have HQ3 : Hid (Below wj.heap.size wj u3) := HQ2.out.trans (HB3.out.mono HQ2.out.size)
            obtain ⟨f2, hf2⟩ : ∃ z, z = findE (ents kk bs) (bits BinOp.and IntKind.i64 y 127) := ⟨_, rfl⟩
            have HF2 := Lib.hid hf2
            rw [← hf2]
            clear hf2
            clear HB3
            have hHeld : (fun (V : World) => V.cell? ⟨bo, of + j, none⟩ = some (.int .i64 y)) u3 := KS.out _ HQ3.out
            refine hC.out _ _ (fun _ => hHeld) (fun _ => ?_)
            clear hC C
            (try simp only [Act.put, List.setIfInBounds_toArray, List.set_cons_zero, List.set_cons_succ])
            refine wpAnyZ_ready (rs := [27]) (by kernel_rfl) (by simp) ?_
            refine AllReadyZ.cons (o := ⟨_, _, _, _, _, _⟩) rfl (fun C hC => ?_) AllReadyZ.nil
            go_simp
            refine (ix_find (HYJ.out.on (HQ3.out)) HSY.out _ (bits_range y 127)).mono ?_
            rintro e u4 ⟨rfl, HB4⟩
            have HQ4 : Hid (Below wj.heap.size wj u4) := HQ3.out.trans (HB4.out.mono HQ3.out.size)
            rw [HEY.out, ← HF2.out]
            clear HB4
            have hHeld : (fun (V : World) => V.cell? ⟨bo, of + j, none⟩ = some (.int .i64 y)) u4 := KS.out _ HQ4.out
            refine hC.out _ _ (fun _ => hHeld) (fun _ => ?_)
            clear hC C
            (try simp only [Act.put, List.setIfInBounds_toArray, List.set_cons_zero, List.set_cons_succ])
            refine wpAnyZ_take (i := 28) (oi := ⟨_, _, _, _, _, _⟩) (v := ?_) rfl (by kernel_rfl) (by kernel_rfl) (by kernel_rfl) (by kernel_rfl) (by kernel_rfl) (fun _ _ _ h => h) (Or.inl ⟨by rfl, ?_⟩) (by assumption) ?_
            rotate_left
            · intro W hSw
              (try dsimp only at hSw)
              go_simp
              (try with_reducible rfl)
            (try simp only [Act.put, List.setIfInBounds_toArray, List.set_cons_zero, List.set_cons_succ])
            refine wpAnyZ_take (i := 29) (oi := ⟨_, _, _, _, _, _⟩) (v := ?_) rfl (by kernel_rfl) (by kernel_rfl) (by kernel_rfl) (by kernel_rfl) (by kernel_rfl) (fun _ _ _ h => h) (Or.inl ⟨by rfl, ?_⟩) (by assumption) ?_
            rotate_left
            · intro W hSw
              (try dsimp only at hSw)
              go_simp
              (try with_reducible rfl)
            (try simp only [Act.put, List.setIfInBounds_toArray, List.set_cons_zero, List.set_cons_succ])
            refine wpAnyZ_done (by kernel_rfl) ?_ _
            refine NoPanic.normal ?_
            clear hHeld KS
            go_wp2_with fail
            go_roundw
            case rel => exact ⟨j + 1, by go_num, by omega, by omega, HBJ.out.trans (HQ4.out.mono HBJ.out.size)⟩
            case measure => simp [intOf]; omega
          · have HNJ : Hid (¬ (j < olen ∧ j < 30)) := hlj
            have HLO : Hid (findE (ents kk bs) (-1) = 0) := find_low (ix_made HOJ.out).1 (by decide)
            by_cases hlo : j < olen
            · have e1 : decide (j < olen) = true := decide_eq_true hlo
              have e2 : decide (j < 30) = false := decide_eq_false (by have := HNJ.out; omega)
              go_wp2_with fail
              refine (ix_find HOJ.out HSM.out (-1) ⟨by decide, by decide⟩).mono ?_
              rintro e w10 ⟨rfl, HB10⟩
              have HO10 := Lib.hid (HOJ.out.on HB10.out)
              rw [HLO.out]
              clear HOJ HB10
              go_wp2_with fail
              refine (ixKnown_any _).mono ?_
              rintro e w11 ⟨rfl, hb11⟩
              have HB11 : Hid (Below W.heap.size W w11) := HO10.out.below.trans (hb11.mono HO10.out.below.size)
              clear hb11
              go_wp2
              go_ret
              exact ⟨rfl, HB11.out⟩
            · have e1 : decide (j < olen) = false := decide_eq_false hlo
              go_wp2_with fail
              refine (ix_find HOJ.out HSM.out (-1) ⟨by decide, by decide⟩).mono ?_
              rintro e w10 ⟨rfl, HB10⟩
              have HO10 := Lib.hid (HOJ.out.on HB10.out)
              rw [HLO.out]
              clear HOJ HB10
              go_wp2_with fail
              refine (ixKnown_any _).mono ?_
              rintro e w11 ⟨rfl, hb11⟩
              have HB11 : Hid (Below W.heap.size W w11) := HO10.out.below.trans (hb11.mono HO10.out.below.size)
              clear hb11
              go_wp2
              go_ret
              exact ⟨rfl, HB11.out⟩
      · have e1 : decide (i < len) = false := decide_eq_false hle
        clear HNL
        go_wp2_with fail
        refine (ix_bytes HO.out HSM.out m HML.out).mono ?_
        rintro e w8 ⟨ad8, cap8, rfl, HR8, HB8⟩
        have HO8 := Lib.hid (HO.out.on HB8.out)
        clear HO HB8 e1
        try clear e2
        go_wp2_with fail
        refine (ix_read W w8 HO8.out.below 3 kk ⟨by decide, by decide⟩ ⟨by have := HKK.out; omega, by have := HKK.out; omega⟩ (decide_eq_false (by have := HKK.out; omega)) ad8 m cap8 bs (ix_made HO8.out).1 (by decide) HSM.out HR8.out HM6.out).mono ?_
        rintro e w9 ⟨ky, bs2, rfl, HB9, HY9, HSY, HEY⟩
        have HO9 := Lib.hid (HO8.out.on HB9.out)
        clear HO8 HB9 HR8
        go_wp2_with fail
        have HW9 : Hid (Below w9.heap.size w9 w9) := Below.refl _ w9
        go_loopw [14] (fun v14 wr => ∃ j : Nat, v14 = .int .i64 (j : Int) ∧ j ≤ 30 ∧ j ≤ olen ∧ Hid (Below w9.heap.size w9 wr)) (fun v14 _ => 30 - (intOf v14).toNat)
        case atStart => exact ⟨0, rfl, by omega, by omega, HW9.out⟩
        case round =>
          obtain ⟨j, rfl, hj30, hjo, HBJ⟩ := hrel
          obtain ⟨wj, hwj⟩ : ∃ wj : World, wj = wr := ⟨_, rfl⟩
          subst hwj
          clear HW9
          have HOJ := Lib.hid (HO9.out.on HBJ.out)
          have HYJ := Lib.hid (HY9.out.on HBJ.out)
          by_cases hlj : j < olen ∧ j < 30
          · obtain ⟨hlj1, hlj2⟩ := hlj
            have hd1 : decide (j < olen) = true := decide_eq_true hlj1
            have hd2 : decide (j < 30) = true := decide_eq_true hlj2
            have hij : (j : Int) < (olen : Int) := by omega
            obtain ⟨bo, of, y, el, hbo, hc, hyi⟩ := int_get HOS.out hlj1
            have c0 : wj.cell? ⟨bo, of + j, none⟩ = some (.int .i64 y) := (HOJ.out.below.cell (p := ⟨bo, of + j, none⟩) hbo).trans hc
            have hbj : bo < wj.heap.size := Nat.lt_of_lt_of_le hbo HOJ.out.below.size
            subst el
            have HY := Lib.hid hyi
            have HQ0 : Hid (Below wj.heap.size wj wj.drew) := (Below.refl _ wj).drew
            have KS : Hid (∀ V, Below wj.heap.size wj V → (fun (V : World) => V.cell? ⟨bo, of + j, none⟩ = some (.int .i64 y)) V) := fun V hV => (hV.cell (p := ⟨bo, of + j, none⟩) hbj).trans c0
            clear hc hyi c0 hbo hbj
            go_upto_region 19 with fail
            refine wp_region_noPanic ?_
            refine wp_region_z [] (fun (V : World) => V.cell? ⟨bo, of + j, none⟩ = some (.int .i64 y)) (by kernel_rfl) ?_
            have hHeld : (fun (V : World) => V.cell? ⟨bo, of + j, none⟩ = some (.int .i64 y)) _ := KS.out _ HQ0.out
            obtain ⟨u0, hu0⟩ : ∃ u, u = wj.drew := ⟨_, rfl⟩
            rw [← hu0] at hHeld HQ0
            rw [← hu0]
            clear hu0
            refine wpAnyZ_take (i := 0) (oi := ⟨_, _, _, _, _, _⟩) (v := ?_) rfl (by kernel_rfl) (by kernel_rfl) (by kernel_rfl) (by kernel_rfl) (by kernel_rfl) (fun _ _ _ h => h) (Or.inl ⟨by rfl, ?_⟩) (by assumption) ?_
            rotate_left
            · intro W hSw
              (try dsimp only at hSw)
              go_simp
              (try with_reducible rfl)
            (try simp only [Act.put, List.setIfInBounds_toArray, List.set_cons_zero, List.set_cons_succ])
            refine wpAnyZ_take (i := 1) (oi := ⟨_, _, _, _, _, _⟩) (v := ?_) rfl (by kernel_rfl) (by kernel_rfl) (by kernel_rfl) (by kernel_rfl) (by kernel_rfl) (fun _ _ _ h => h) (Or.inl ⟨by rfl, ?_⟩) (by assumption) ?_
            rotate_left
            · intro W hSw
              (try dsimp only at hSw)
              go_simp
              (try with_reducible rfl)
            (try simp only [Act.put, List.setIfInBounds_toArray, List.set_cons_zero, List.set_cons_succ])
            refine wpAnyZ_take (i := 2) (oi := ⟨_, _, _, _, _, _⟩) (v := ?_) rfl (by kernel_rfl) (by kernel_rfl) (by kernel_rfl) (by kernel_rfl) (by kernel_rfl) (fun _ _ _ h => h) (Or.inl ⟨by rfl, ?_⟩) (by assumption) ?_
            rotate_left
            · intro W hSw
              (try dsimp only at hSw)
              go_simp
              (try with_reducible rfl)
            (try simp only [Act.put, List.setIfInBounds_toArray, List.set_cons_zero, List.set_cons_succ])
            refine wpAnyZ_take (i := 3) (oi := ⟨_, _, _, _, _, _⟩) (v := ?_) rfl (by kernel_rfl) (by kernel_rfl) (by kernel_rfl) (by kernel_rfl) (by kernel_rfl) (fun _ _ _ h => h) (Or.inl ⟨by rfl, ?_⟩) (by assumption) ?_
            rotate_left
            · intro W hSw
              (try dsimp only at hSw)
              go_simp
              (try with_reducible rfl)
            (try simp only [Act.put, List.setIfInBounds_toArray, List.set_cons_zero, List.set_cons_succ])
            refine wpAnyZ_take (i := 4) (oi := ⟨_, _, _, _, _, _⟩) (v := ?_) rfl (by kernel_rfl) (by kernel_rfl) (by kernel_rfl) (by kernel_rfl) (by kernel_rfl) (fun _ _ _ h => h) (Or.inl ⟨by rfl, ?_⟩) (by assumption) ?_
            rotate_left
            · intro W hSw
              (try dsimp only at hSw)
              go_simp
              (try with_reducible rfl)
            (try simp only [Act.put, List.setIfInBounds_toArray, List.set_cons_zero, List.set_cons_succ])
            refine wpAnyZ_take (i := 6) (oi := ⟨_, _, _, _, _, _⟩) (v := ?_) rfl (by kernel_rfl) (by kernel_rfl) (by kernel_rfl) (by kernel_rfl) (by kernel_rfl) (fun _ _ _ h => h) (Or.inl ⟨by rfl, ?_⟩) (by assumption) ?_
            rotate_left
            · intro W hSw
              (try dsimp only at hSw)
              go_simp
              (try with_reducible rfl)
            (try simp only [Act.put, List.setIfInBounds_toArray, List.set_cons_zero, List.set_cons_succ])
            refine wpAnyZ_take (i := 7) (oi := ⟨_, _, _, _, _, _⟩) (v := ?_) rfl (by kernel_rfl) (by kernel_rfl) (by kernel_rfl) (by kernel_rfl) (by kernel_rfl) (fun _ _ _ h => h) (Or.inl ⟨by rfl, ?_⟩) (by assumption) ?_
            rotate_left
            · intro W hSw
              (try dsimp only at hSw)
              go_simp
              (try with_reducible rfl)
            (try simp only [Act.put, List.setIfInBounds_toArray, List.set_cons_zero, List.set_cons_succ])
            refine wpAnyZ_take (i := 8) (oi := ⟨_, _, _, _, _, _⟩) (v := ?_) rfl (by kernel_rfl) (by kernel_rfl) (by kernel_rfl) (by kernel_rfl) (by kernel_rfl) (fun _ _ _ h => h) (Or.inl ⟨by rfl, ?_⟩) (by assumption) ?_
            rotate_left
            · intro W hSw
              (try dsimp only at hSw)
              go_simp
              (try with_reducible rfl)
            (try simp only [Act.put, List.setIfInBounds_toArray, List.set_cons_zero, List.set_cons_succ])
            refine wpAnyZ_take (i := 9) (oi := ⟨_, _, _, _, _, _⟩) (v := ?_) rfl (by kernel_rfl) (by kernel_rfl) (by kernel_rfl) (by kernel_rfl) (by kernel_rfl) (fun _ _ _ h => h) (Or.inl ⟨by rfl, ?_⟩) (by assumption) ?_
            rotate_left
            · intro W hSw
              (try dsimp only at hSw)
              go_simp
              (try with_reducible rfl)
            (try simp only [Act.put, List.setIfInBounds_toArray, List.set_cons_zero, List.set_cons_succ])
            refine wpAnyZ_take (i := 10) (oi := ⟨_, _, _, _, _, _⟩) (v := ?_) rfl (by kernel_rfl) (by kernel_rfl) (by kernel_rfl) (by kernel_rfl) (by kernel_rfl) (fun _ _ _ h => h) (Or.inl ⟨by rfl, ?_⟩) (by assumption) ?_
            rotate_left
            · intro W hSw
              (try dsimp only at hSw)
              go_simp
              (try with_reducible rfl)
            (try simp only [Act.put, List.setIfInBounds_toArray, List.set_cons_zero, List.set_cons_succ])
            refine wpAnyZ_ready (rs := [5]) (by kernel_rfl) (by simp) ?_
            refine AllReadyZ.cons (o := ⟨_, _, _, _, _, _⟩) rfl (fun C hC => ?_) AllReadyZ.nil
            go_simp
            refine (ix_find (HOJ.out.on (HQ0.out)) HSM.out y HY.out).mono ?_
            rintro e u1 ⟨rfl, HB1⟩
            have HQ1 : Hid (Below wj.heap.size wj u1) := HQ0.out.trans (HB1.out.mono HQ0.out.size)
            obtain ⟨f1, hf1⟩ : ∃ z, z = findE (ents kk bs) y := ⟨_, rfl⟩
            have HF1 := Lib.hid hf1
            rw [← hf1]
            clear hf1
            clear HB1
            have hHeld : (fun (V : World) => V.cell? ⟨bo, of + j, none⟩ = some (.int .i64 y)) u1 := KS.out _ HQ1.out
            refine hC.out _ _ (fun _ => hHeld) (fun _ => ?_)
            clear hC C
            (try simp only [Act.put, List.setIfInBounds_toArray, List.set_cons_zero, List.set_cons_succ])
            refine wpAnyZ_ready (rs := [11]) (by kernel_rfl) (by simp) ?_
            refine AllReadyZ.cons (o := ⟨_, _, _, _, _, _⟩) rfl (fun C hC => ?_) AllReadyZ.nil
            go_simp
            refine (ix_find (HYJ.out.on (HQ1.out)) HSY.out y HY.out).mono ?_
            rintro e u2 ⟨rfl, HB2⟩
            have HQ2 : Hid (Below wj.heap.size wj u2) := HQ1.out.trans (HB2.out.mono HQ1.out.size)
            rw [HEY.out, ← HF1.out]
            clear HB2
            have hHeld : (fun (V : World) => V.cell? ⟨bo, of + j, none⟩ = some (.int .i64 y)) u2 := KS.out _ HQ2.out
            refine hC.out _ _ (fun _ => hHeld) (fun _ => ?_)
            clear hC C
            (try simp only [Act.put, List.setIfInBounds_toArray, List.set_cons_zero, List.set_cons_succ])
            refine wpAnyZ_take (i := 12) (oi := ⟨_, _, _, _, _, _⟩) (v := ?_) rfl (by kernel_rfl) (by kernel_rfl) (by kernel_rfl) (by kernel_rfl) (by kernel_rfl) (fun _ _ _ h => h) (Or.inl ⟨by rfl, ?_⟩) (by assumption) ?_
            rotate_left
            · intro W hSw
              (try dsimp only at hSw)
              go_simp
              (try with_reducible rfl)
            (try simp only [Act.put, List.setIfInBounds_toArray, List.set_cons_zero, List.set_cons_succ])
            refine wpAnyZ_take (i := 13) (oi := ⟨_, _, _, _, _, _⟩) (v := ?_) rfl (by kernel_rfl) (by kernel_rfl) (by kernel_rfl) (by kernel_rfl) (by kernel_rfl) (fun _ _ _ h => h) (Or.inl ⟨by rfl, ?_⟩) (by assumption) ?_
            rotate_left
            · intro W hSw
              (try dsimp only at hSw)
              go_simp
              (try with_reducible rfl)
            (try simp only [Act.put, List.setIfInBounds_toArray, List.set_cons_zero, List.set_cons_succ])
            refine wpAnyZ_take (i := 14) (oi := ⟨_, _, _, _, _, _⟩) (v := ?_) rfl (by kernel_rfl) (by kernel_rfl) (by kernel_rfl) (by kernel_rfl) (by kernel_rfl) (fun _ _ _ h => h) (Or.inl ⟨by rfl, ?_⟩) (by assumption) ?_
            rotate_left
            · intro W hSw
              (try dsimp only at hSw)
              go_simp
              (try with_reducible rfl)
            (try simp only [Act.put, List.setIfInBounds_toArray, List.set_cons_zero, List.set_cons_succ])
            refine wpAnyZ_take (i := 15) (oi := ⟨_, _, _, _, _, _⟩) (v := ?_) rfl (by kernel_rfl) (by kernel_rfl) (by kernel_rfl) (by kernel_rfl) (by kernel_rfl) (fun _ _ _ h => h) (Or.inl ⟨by rfl, ?_⟩) (by assumption) ?_
            rotate_left
            · intro W hSw
              (try dsimp only at hSw)
              go_simp
              (try with_reducible rfl)
            (try simp only [Act.put, List.setIfInBounds_toArray, List.set_cons_zero, List.set_cons_succ])
            refine wpAnyZ_take (i := 16) (oi := ⟨_, _, _, _, _, _⟩) (v := ?_) rfl (by kernel_rfl) (by kernel_rfl) (by kernel_rfl) (by kernel_rfl) (by kernel_rfl) (fun _ _ _ h => h) (Or.inl ⟨by rfl, ?_⟩) (by assumption) ?_
            rotate_left
            · intro W hSw
              (try dsimp only at hSw)
              go_simp
              (try with_reducible rfl)
            (try simp only [Act.put, List.setIfInBounds_toArray, List.set_cons_zero, List.set_cons_succ])
            refine wpAnyZ_take (i := 17) (oi := ⟨_, _, _, _, _, _⟩) (v := ?_) rfl (by kernel_rfl) (by kernel_rfl) (by kernel_rfl) (by kernel_rfl) (by kernel_rfl) (fun _ _ _ h => h) (Or.inl ⟨by rfl, ?_⟩) (by assumption) ?_
            rotate_left
            · intro W hSw
              (try dsimp only at hSw)
              go_simp
              (try with_reducible rfl)
            (try simp only [Act.put, List.setIfInBounds_toArray, List.set_cons_zero, List.set_cons_succ])
            refine wpAnyZ_take (i := 18) (oi := ⟨_, _, _, _, _, _⟩) (v := ?_) rfl (by kernel_rfl) (by kernel_rfl) (by kernel_rfl) (by kernel_rfl) (by kernel_rfl) (fun _ _ _ h => h) (Or.inl ⟨by rfl, ?_⟩) (by assumption) ?_
            rotate_left
            · intro W hSw
              (try dsimp only at hSw)
              go_simp
              (try with_reducible rfl)
            (try simp only [Act.put, List.setIfInBounds_toArray, List.set_cons_zero, List.set_cons_succ])
            refine wpAnyZ_take (i := 19) (oi := ⟨_, _, _, _, _, _⟩) (v := ?_) rfl (by kernel_rfl) (by kernel_rfl) (by kernel_rfl) (by kernel_rfl) (by kernel_rfl) (fun _ _ _ h => h) (Or.inl ⟨by rfl, ?_⟩) (by assumption) ?_
            rotate_left
            · intro W hSw
              (try dsimp only at hSw)
              go_simp
              (try with_reducible rfl)
            (try simp only [Act.put, List.setIfInBounds_toArray, List.set_cons_zero, List.set_cons_succ])
            refine wpAnyZ_take (i := 21) (oi := ⟨_, _, _, _, _, _⟩) (v := ?_) rfl (by kernel_rfl) (by kernel_rfl) (by kernel_rfl) (by kernel_rfl) (by kernel_rfl) (fun _ _ _ h => h) (Or.inl ⟨by rfl, ?_⟩) (by assumption) ?_
            rotate_left
            · intro W hSw
              (try dsimp only at hSw)
              go_simp
              (try with_reducible rfl)
            (try simp only [Act.put, List.setIfInBounds_toArray, List.set_cons_zero, List.set_cons_succ])
            refine wpAnyZ_take (i := 22) (oi := ⟨_, _, _, _, _, _⟩) (v := ?_) rfl (by kernel_rfl) (by kernel_rfl) (by kernel_rfl) (by kernel_rfl) (by kernel_rfl) (fun _ _ _ h => h) (Or.inl ⟨by rfl, ?_⟩) (by assumption) ?_
            rotate_left
            · intro W hSw
              (try dsimp only at hSw)
              go_simp
              (try with_reducible rfl)
            (try simp only [Act.put, List.setIfInBounds_toArray, List.set_cons_zero, List.set_cons_succ])
            refine wpAnyZ_take (i := 23) (oi := ⟨_, _, _, _, _, _⟩) (v := ?_) rfl (by kernel_rfl) (by kernel_rfl) (by kernel_rfl) (by kernel_rfl) (by kernel_rfl) (fun _ _ _ h => h) (Or.inl ⟨by rfl, ?_⟩) (by assumption) ?_
            rotate_left
            · intro W hSw
              (try dsimp only at hSw)
              go_simp
              (try with_reducible rfl)
            (try simp only [Act.put, List.setIfInBounds_toArray, List.set_cons_zero, List.set_cons_succ])
            refine wpAnyZ_take (i := 24) (oi := ⟨_, _, _, _, _, _⟩) (v := ?_) rfl (by kernel_rfl) (by kernel_rfl) (by kernel_rfl) (by kernel_rfl) (by kernel_rfl) (fun _ _ _ h => h) (Or.inl ⟨by rfl, ?_⟩) (by assumption) ?_
            rotate_left
            · intro W hSw
              (try dsimp only at hSw)
              go_simp
              (try with_reducible rfl)
            (try simp only [Act.put, List.setIfInBounds_toArray, List.set_cons_zero, List.set_cons_succ])
            refine wpAnyZ_take (i := 25) (oi := ⟨_, _, _, _, _, _⟩) (v := ?_) rfl (by kernel_rfl) (by kernel_rfl) (by kernel_rfl) (by kernel_rfl) (by kernel_rfl) (fun _ _ _ h => h) (Or.inl ⟨by rfl, ?_⟩) (by assumption) ?_
            rotate_left
            · intro W hSw
              (try dsimp only at hSw)
              go_simp
              (try with_reducible rfl)
            (try simp only [Act.put, List.setIfInBounds_toArray, List.set_cons_zero, List.set_cons_succ])
            refine wpAnyZ_take (i := 26) (oi := ⟨_, _, _, _, _, _⟩) (v := ?_) rfl (by kernel_rfl) (by kernel_rfl) (by kernel_rfl) (by kernel_rfl) (by kernel_rfl) (fun _ _ _ h => h) (Or.inl ⟨by rfl, ?_⟩) (by assumption) ?_
            rotate_left
            · intro W hSw
              (try dsimp only at hSw)
              go_simp
              (try with_reducible rfl)
            (try simp only [Act.put, List.setIfInBounds_toArray, List.set_cons_zero, List.set_cons_succ])
            refine wpAnyZ_ready (rs := [20]) (by kernel_rfl) (by simp) ?_
            refine AllReadyZ.cons (o := ⟨_, _, _, _, _, _⟩) rfl (fun C hC => ?_) AllReadyZ.nil
            go_simp
            refine (ix_find (HOJ.out.on (HQ2.out)) HSM.out _ (bits_range y 127)).mono ?_
            rintro e u3 ⟨rfl, HB3⟩
            have HQ3 : Hid (Below wj.heap.size wj u3) := HQ2.out.trans (HB3.out.mono HQ2.out.size)
            obtain ⟨f2, hf2⟩ : ∃ z, z = findE (ents kk bs) (bits BinOp.and IntKind.i64 y 127) := ⟨_, rfl⟩
            have HF2 := Lib.hid hf2
            rw [← hf2]
            clear hf2
            clear HB3
            have hHeld : (fun (V : World) => V.cell? ⟨bo, of + j, none⟩ = some (.int .i64 y)) u3 := KS.out _ HQ3.out
            refine hC.out _ _ (fun _ => hHeld) (fun _ => ?_)
            clear hC C
            (try simp only [Act.put, List.setIfInBounds_toArray, List.set_cons_zero, List.set_cons_succ])
            refine wpAnyZ_ready (rs := [27]) (by kernel_rfl) (by simp) ?_
            refine AllReadyZ.cons (o := ⟨_, _, _, _, _, _⟩) rfl (fun C hC => ?_) AllReadyZ.nil
            go_simp
            refine (ix_find (HYJ.out.on (HQ3.out)) HSY.out _ (bits_range y 127)).mono ?_
            rintro e u4 ⟨rfl, HB4⟩
            have HQ4 : Hid (Below wj.heap.size wj u4) := HQ3.out.trans (HB4.out.mono HQ3.out.size)
            rw [HEY.out, ← HF2.out]
            clear HB4
            have hHeld : (fun (V : World) => V.cell? ⟨bo, of + j, none⟩ = some (.int .i64 y)) u4 := KS.out _ HQ4.out
            refine hC.out _ _ (fun _ => hHeld) (fun _ => ?_)
            clear hC C
            (try simp only [Act.put, List.setIfInBounds_toArray, List.set_cons_zero, List.set_cons_succ])
            refine wpAnyZ_take (i := 28) (oi := ⟨_, _, _, _, _, _⟩) (v := ?_) rfl (by kernel_rfl) (by kernel_rfl) (by kernel_rfl) (by kernel_rfl) (by kernel_rfl) (fun _ _ _ h => h) (Or.inl ⟨by rfl, ?_⟩) (by assumption) ?_
            rotate_left
            · intro W hSw
              (try dsimp only at hSw)
              go_simp
              (try with_reducible rfl)
            (try simp only [Act.put, List.setIfInBounds_toArray, List.set_cons_zero, List.set_cons_succ])
            refine wpAnyZ_take (i := 29) (oi := ⟨_, _, _, _, _, _⟩) (v := ?_) rfl (by kernel_rfl) (by kernel_rfl) (by kernel_rfl) (by kernel_rfl) (by kernel_rfl) (fun _ _ _ h => h) (Or.inl ⟨by rfl, ?_⟩) (by assumption) ?_
            rotate_left
            · intro W hSw
              (try dsimp only at hSw)
              go_simp
              (try with_reducible rfl)
            (try simp only [Act.put, List.setIfInBounds_toArray, List.set_cons_zero, List.set_cons_succ])
            refine wpAnyZ_done (by kernel_rfl) ?_ _
            refine NoPanic.normal ?_
            clear hHeld KS
            go_wp2_with fail
            go_roundw
            case rel => exact ⟨j + 1, by go_num, by omega, by omega, HBJ.out.trans (HQ4.out.mono HBJ.out.size)⟩
            case measure => simp [intOf]; omega
          · have HNJ : Hid (¬ (j < olen ∧ j < 30)) := hlj
            have HLO : Hid (findE (ents kk bs) (-1) = 0) := find_low (ix_made HOJ.out).1 (by decide)
            by_cases hlo : j < olen
            · have e1 : decide (j < olen) = true := decide_eq_true hlo
              have e2 : decide (j < 30) = false := decide_eq_false (by have := HNJ.out; omega)
              go_wp2_with fail
              refine (ix_find HOJ.out HSM.out (-1) ⟨by decide, by decide⟩).mono ?_
              rintro e w10 ⟨rfl, HB10⟩
              have HO10 := Lib.hid (HOJ.out.on HB10.out)
              rw [HLO.out]
              clear HOJ HB10
              go_wp2_with fail
              refine (ixKnown_any _).mono ?_
              rintro e w11 ⟨rfl, hb11⟩
              have HB11 : Hid (Below W.heap.size W w11) := HO10.out.below.trans (hb11.mono HO10.out.below.size)
              clear hb11
              go_wp2
              go_ret
              exact ⟨rfl, HB11.out⟩
            · have e1 : decide (j < olen) = false := decide_eq_false hlo
              go_wp2_with fail
              refine (ix_find HOJ.out HSM.out (-1) ⟨by decide, by decide⟩).mono ?_
              rintro e w10 ⟨rfl, HB10⟩
              have HO10 := Lib.hid (HOJ.out.on HB10.out)
              rw [HLO.out]
              clear HOJ HB10
              go_wp2_with fail
              refine (ixKnown_any _).mono ?_
              rintro e w11 ⟨rfl, hb11⟩
              have HB11 : Hid (Below W.heap.size W w11) := HO10.out.below.trans (hb11.mono HO10.out.below.size)
              clear hb11
              go_wp2
              go_ret
              exact ⟨rfl, HB11.out⟩
end Go.Proofs.Ytelbignfecjjhaa
