/- Parts of a proof, merged: SnTable, SnRead, PrSame, PrRefSame, TcRef, SnReads, SnapRow, SnSame, SnapTurn, SnBad. -/
import Derived.Deep.QuietTactic
import Derived.BigQuiet
import Derived.Test.YtgohekjkbgfeeaaGreatKg13
import Derived.Test.YtgohekjkbgfeeaaGreatKg14
import Derived.Test.YtgohekjkbgfeeaaGreatKg15
import Derived.Test.YtgohekjkbgfeeaaGreatKg10
import Derived.Test.YtgohekjkbgfeeaaGreatKg4
import Derived.Test.YtgohekjkbgfeeaaGreatKg3
import Derived.Test.YtgohekjkbgfeeaaGreatKg5
namespace Go.Proofs.YtgohekjkbgfeeaaGreat
open Go.RowKit
open Go.SnapMath
open Go.ProdMath
open Go.BatMath hiding AllB getD_lt take_all
set_option linter.unusedVariables false

/-- A table, or none. -/
def GivesSnTable (w0 w : World) (k : Nat) (bs : List Nat) (f : Bool) (e : Ending) (w' : World) : Prop :=
  w.grownBy w' (some k) ∧ ((∃ kt km ps r, e = .returned (.tuple #[.pointer (some ⟨kt, 0, none⟩), .bool true]) ∧ TcOk w' kt km ps ∧ w.heap.size ≤ kt ∧ w.heap.size ≤ km ∧ KrAt w0 w' k r false ∧ f = false ∧ TabS bs (pds ps) r) ∨
    (e = .returned (.tuple #[.pointer none, .bool false]) ∧ (f = true ∨ TabNo bs)))
set_option maxRecDepth 100000 in
set_option maxHeartbeats 8000000 in
theorem snTable_any (w1 wo : World) (k : Nat) (b : List Nat) (f : Bool) (h : KrAt w1 wo k b f) (hL : b.length ≤ 1048600) :
    Calls Tryz.prog 41 #[.pointer (some ⟨k, 0, none⟩)] wo (GivesSnTable w1 wo k b f) := by
  have HRD := Lib.hid h
  have HKW : Hid (k < wo.heap.size) := h.lt
  have HBL : Hid (b.length ≤ 1048600) := hL
  obtain ⟨⟨kk, b2, g⟩, e1⟩ : ∃ r, rdN b f = r := ⟨_, rfl⟩
  have l1 := (rdN_len b f).1
  have hik := rdN_in b f
  rw [e1] at l1 hik
  simp only at l1 hik
  have HL2 : Hid (b2.length ≤ 1048600) := Nat.le_trans l1 hL
  have HE1 := Lib.hid e1
  have HIK := Lib.hid hik
  clear h hL e1 l1 hik
  go_enter Tryz.func41, Tryz.ntmps41
  go_wp2_with fail
  refine (snNext_any w1 wo k _ _ HRD.out (Nat.le_trans HBL.out (by omega))).mono ?_
  rintro e wa ⟨rfl, hr, hg⟩
  rw [HE1.out] at hr ⊢
  have HRa := Lib.hid hr
  have HGa : Hid (wo.grownBy wa (some k)) := hg
  clear hr hg HRD
  have q1 := HRa.out.c1
  cases g with
  | true =>
    have HNO : Hid (f = true ∨ TabNo b) := by
      show _ ∨ _
      cases f with
      | true => exact .inl rfl
      | false => exact .inr (tab_fell HE1.out)
    go_wp2
    go_ret2
    exact ⟨HGa.out, .inr ⟨rfl, HNO.out⟩⟩
  | false =>
    have hf := rdN_false HE1.out rfl
    subst hf
    by_cases hk0 : kk < 0
    · have hd0 : decide (kk < 0) = true := decide_eq_true hk0
      have HNO : Hid (TabNo b) := tab_neg HE1.out hk0
      go_wp2
      go_ret2
      exact ⟨HGa.out, .inr ⟨rfl, .inr HNO.out⟩⟩
    · obtain ⟨kn, rfl⟩ : ∃ kn : Nat, kk = (kn : Int) := ⟨kk.toNat, by omega⟩
      have hkn : kn ≤ 9223372036854775807 := by have := HIK.out.2; omega
      have hd0 : decide ((kn : Int) < 0) = false := decide_eq_false (by omega)
      clear hk0
      go_wp2
      clear q1 hd0
      go_loopw [5, 6, 20] (fun v5 v6 v20 wr => ∃ (j : Nat) (c : List Nat) (u : Value) (ms : List PM) (z : Int), u = v5 ∧ v6 = .int .i64 z ∧ v20 = .int .i64 (j : Int) ∧ j ≤ kn ∧ Hid (z = lastW (pds ms)) ∧ Hid (AccAt wr wo.heap.size u ms) ∧ Hid (KrAt w1 wr k c false) ∧ Hid (AccOk (pds ms)) ∧ Hid (ms.length = j) ∧ Hid (b2 = pdsS (pds ms) ++ c) ∧ Hid (wo.grownBy wr (some k))) (fun _ _ v20 _ => kn - (intOf v20).toNat)
      case atStart => exact ⟨0, b2, _, [], -1, rfl, rfl, rfl, Nat.zero_le _, rfl, AccAt.nil _ _, HRa.out, AccOk.nil, rfl, rfl, HGa.out⟩
      case round =>
        obtain ⟨j, c, u, ms, z, rfl, rfl, rfl, hj, HZ, HA, HR, HAC, HML, HB2, HG⟩ := hrel
        clear HRa HGa
        obtain ⟨w4, hw4⟩ : ∃ w4 : World, w4 = wr := ⟨_, rfl⟩
        subst hw4
        have HBC : Hid (4 * ms.length + c.length ≤ 1048600) := by
          show _ ≤ _
          have h1 := HL2.out
          have h2 := pdsS_pos HAC.out.pdIn
          rw [HB2.out, List.length_append] at h1
          unfold pds at h2
          rw [List.length_map] at h2
          unfold pds at h1
          omega
        by_cases hlt : j < kn
        · have hd1 : decide (j < kn) = true := decide_eq_true hlt
          have hjl : (j : Int) < (kn : Int) := by omega
          go_wp2_with fail
          refine (snState_any w1 w4 k c HR.out (by have := HBC.out; omega)).mono ?_
          rintro e w5 ⟨hg, ⟨p, ad, cap, c2, rfl, hrow, hnew, hkr, hright, hi64, hbs⟩ | ⟨p0, p1, va, vn, vc, p3, rfl, hno⟩⟩
          · have HG5 : Hid (wo.grownBy w5 (some k)) := grow_trans HG.out hg
            have HA5 := Lib.hid (HA.out.grown hg HKW.out)
            have HR5 := Lib.hid hkr
            have HROW := Lib.hid hrow
            have HNEW : Hid (∀ a, ad = some a → w4.heap.size ≤ a.block ∧ a.block < w5.heap.size) := hnew
            have HOWN : Hid (∀ q, u.ownBlock = some q → q < w4.heap.size) := fun q hq => (HA.out.own.lt q hq).2
            have HW4 : Hid (wo.heap.size ≤ w4.heap.size) := HG.out.size
            have HS5 : Hid (w4.heap.size ≤ w5.heap.size) := hg.size
            have HRT := Lib.hid hright
            have HI := Lib.hid hi64
            have HBS := Lib.hid hbs
            clear hg hrow hnew hkr hright hi64 hbs HG HA HR
            obtain ⟨pid, pep, pl, po⟩ := p
            simp only at HROW HBS HI
            simp only
            obtain ⟨pn, hpn⟩ : ∃ n, n = pl.length := ⟨_, rfl⟩
            rw [← hpn] at HROW ⊢
            have HPN := Lib.hid hpn
            clear hpn
            go_upto_region 9 with fail
            obtain ⟨W6, hW6⟩ : ∃ y, y = w5.alloc (.cells #[.int .i64 pid, .int .i64 pep, .slice ad pn cap, .int .i64 po] 78) := ⟨_, rfl⟩
            obtain ⟨P, hP⟩ : ∃ y, y = w5.heap.size := ⟨_, rfl⟩
            have hb6 : Below w5.heap.size w5 W6 := by rw [hW6]; exact (Below.refl _ _).alloc (Nat.le_refl _) _
            have HP6 : Hid (PBox W6 P pid pep (.slice ad pn cap) po) := by show PBox _ _ _ _ _ _; rw [hW6, hP]; exact pbox_new w5 _ _ _ _
            have HG6 : Hid (wo.grownBy W6 (some k)) := grow_below HG5.out hb6
            have HA6 := Lib.hid (HA5.out.on hb6)
            have HR6 := Lib.hid (HR5.out.on hb6)
            have HROW6 := Lib.hid (HROW.out.keep hb6)
            have HNEW6 : Hid (∀ a, ad = some a → w4.heap.size ≤ a.block ∧ a.block < W6.heap.size) := fun a ha => ⟨(HNEW.out a ha).1, Nat.lt_of_lt_of_le (HNEW.out a ha).2 hb6.size⟩
            have HPP : Hid (w4.heap.size ≤ P) := by show _ ≤ _; rw [hP]; exact HS5.out
            rw [← hW6, ← hP]
            clear hW6 hP hb6 HG5 HA5 HR5 HROW HNEW
            have r0 := HP6.out.c0
            by_cases hz : pid ≤ z
            · have hdz : decide (pid ≤ z) = true := decide_eq_true hz
              have HNO : Hid (TabNo b) := tab_low HE1.out HAC.out HB2.out (by have := HML.out; unfold pds; rw [List.length_map]; omega) HRT.out HI.out HBS.out (by have := HZ.out; simp only; omega)
              go_wp2
              go_ret2
              exact ⟨HG6.out, .inr ⟨rfl, .inr HNO.out⟩⟩
            · have hdz : decide (pid ≤ z) = false := decide_eq_false hz
              have HAC2 : Hid (AccOk (pds ms ++ [⟨pid, pep, pl, po⟩])) := HAC.out.snoc HRT.out HI.out (lastW_yes (by have := HZ.out; simp only; omega))
              have HB3 : Hid (b2 = pdsS (pds ms ++ [⟨pid, pep, pl, po⟩]) ++ c2) := by show _ = _; rw [pdsS_snoc, ← HBS.out]; exact HB2.out
              have HMS : Hid (ms.length ≤ 1000000) := by show _ ≤ _; have := HBC.out; omega
              have KS : Hid (∀ V, Below W6.heap.size W6 V → (fun (V : World) => V.cell? ⟨P, 0, none⟩ = some (.int .i64 pid) ∧ V.cell? ⟨P, 1, none⟩ = some (.int .i64 pep) ∧ V.cell? ⟨P, 2, none⟩ = some (.slice ad pn cap) ∧ V.cell? ⟨P, 3, none⟩ = some (.int .i64 po)) V) := fun V hV => ⟨(HP6.out.on hV).c0, (HP6.out.on hV).c1, (HP6.out.on hV).c2, (HP6.out.on hV).c3⟩
              have hdrw : Below W6.heap.size W6 W6.drew := (Below.refl _ W6).drew
              go_upto_region 11 with fail
              clear r0 hz HBS
              refine wp_region_noPanic ?_
              refine wp_region_z [] (fun (V : World) => V.cell? ⟨P, 0, none⟩ = some (.int .i64 pid) ∧ V.cell? ⟨P, 1, none⟩ = some (.int .i64 pep) ∧ V.cell? ⟨P, 2, none⟩ = some (.slice ad pn cap) ∧ V.cell? ⟨P, 3, none⟩ = some (.int .i64 po)) (by kernel_rfl) ?_
              have hHeld : (fun (V : World) => V.cell? ⟨P, 0, none⟩ = some (.int .i64 pid) ∧ V.cell? ⟨P, 1, none⟩ = some (.int .i64 pep) ∧ V.cell? ⟨P, 2, none⟩ = some (.slice ad pn cap) ∧ V.cell? ⟨P, 3, none⟩ = some (.int .i64 po)) _ := KS.out _ hdrw
              obtain ⟨u3, hu3⟩ : ∃ u, u = W6.drew := ⟨_, rfl⟩
              rw [← hu3] at hHeld hdrw
              rw [← hu3]
              clear hu3
              have HU3 := Lib.hid hdrw
              clear hdrw
              refine wpAnyZ_take (i := 0) (oi := ⟨_, _, _, _, _, _⟩) (v := ?_) rfl (by kernel_rfl) (by kernel_rfl) (by kernel_rfl) (by kernel_rfl) (by kernel_rfl) (fun _ _ _ h => h) (Or.inl ⟨by rfl, ?_⟩) (by assumption) ?_
              rotate_left
              · intro W hSw
                (try dsimp only at hSw)
                go_simp
                (try with_reducible rfl)
              (try simp only [Act.put, List.setIfInBounds_toArray, List.set_cons_zero, List.set_cons_succ])
              refine wpAnyZ_take (i := 1) (oi := ⟨_, _, _, _, _, _⟩) (v := ?_) rfl (by kernel_rfl) (by kernel_rfl) (by kernel_rfl) (by kernel_rfl) (by kernel_rfl) (fun _ _ _ h => h) (Or.inl ⟨by rfl, ?_⟩) (by assumption) ?_
              rotate_left
              · intro W hSw
                (try dsimp only at hSw)
                go_simp
                (try with_reducible rfl)
              (try simp only [Act.put, List.setIfInBounds_toArray, List.set_cons_zero, List.set_cons_succ])
              refine wpAnyZ_take (i := 4) (oi := ⟨_, _, _, _, _, _⟩) (v := ?_) rfl (by kernel_rfl) (by kernel_rfl) (by kernel_rfl) (by kernel_rfl) (by kernel_rfl) (fun _ _ _ h => h) (Or.inl ⟨by rfl, ?_⟩) (by assumption) ?_
              rotate_left
              · intro W hSw
                (try dsimp only at hSw)
                go_simp
                (try with_reducible rfl)
              (try simp only [Act.put, List.setIfInBounds_toArray, List.set_cons_zero, List.set_cons_succ])
              refine wpAnyZ_take (i := 5) (oi := ⟨_, _, _, _, _, _⟩) (v := ?_) rfl (by kernel_rfl) (by kernel_rfl) (by kernel_rfl) (by kernel_rfl) (by kernel_rfl) (fun _ _ _ h => h) (Or.inl ⟨by rfl, ?_⟩) (by assumption) ?_
              rotate_left
              · intro W hSw
                (try dsimp only at hSw)
                go_simp
                (try with_reducible rfl)
              (try simp only [Act.put, List.setIfInBounds_toArray, List.set_cons_zero, List.set_cons_succ])
              refine wpAnyZ_ready (rs := [2]) (by kernel_rfl) (by simp) ?_
              refine AllReadyZ.cons (o := ⟨_, _, _, _, _, _⟩) rfl (fun C hC => ?_) AllReadyZ.nil
              go_simp
              obtain ⟨m9, hm9⟩ : ∃ m : PM, m = ⟨⟨pid, pep, pl, po⟩, ad, cap⟩ := ⟨_, rfl⟩
              obtain ⟨u4, hu4⟩ : ∃ y, y = u3.alloc (.cells #[.int .i64 pid, .int .i64 pep, .slice ad pn cap, .int .i64 po] 78) := ⟨_, rfl⟩
              obtain ⟨Q, hQ⟩ : ∃ y, y = u3.heap.size := ⟨_, rfl⟩
              have hb4 : Below u3.heap.size u3 u4 := by rw [hu4]; exact (Below.refl _ _).alloc (Nat.le_refl _) _
              have HLIT : Hid (RowAt pdK u4 (some ⟨Q, 0, none⟩) 1 1 [m9]) := by
                show RowAt _ _ _ _ _ _
                rw [hu4, hQ]
                exact rowAt_lit pdK_ok u3 [m9] (by simp) _ (by rw [hm9, HPN.out]; rfl) 1 rfl
              have HU4 := Lib.hid (HU3.out.trans (hb4.mono HU3.out.size))
              have HM9 := Lib.hid hm9
              (try rw [← hu4, ← hQ])
              clear hu4 hQ hb4 hm9
              have hHeld : (fun (V : World) => V.cell? ⟨P, 0, none⟩ = some (.int .i64 pid) ∧ V.cell? ⟨P, 1, none⟩ = some (.int .i64 pep) ∧ V.cell? ⟨P, 2, none⟩ = some (.slice ad pn cap) ∧ V.cell? ⟨P, 3, none⟩ = some (.int .i64 po)) u4 := KS.out _ HU4.out
              refine hC.out _ _ (fun _ => hHeld) (fun _ => ?_)
              clear hC C
              (try simp only [Act.put, List.setIfInBounds_toArray, List.set_cons_zero, List.set_cons_succ])
              refine wpAnyZ_ready (rs := [3]) (by kernel_rfl) (by simp) ?_
              refine AllReadyZ.cons (o := ⟨_, _, _, _, _, _⟩) rfl (fun C hC => ?_) AllReadyZ.nil
              refine held_row (by rfl) pdK_ok (.tmp 35) (.tmp 37) rfl wo.heap.size ms [m9] _ rfl (HA6.out.own.on HU4.out) (Nat.le_trans HG6.out.size HU4.out.size) (some ⟨Q, 0, none⟩) 1 1 rfl HLIT.out (by have := HMS.out; omega) ?_
              rintro v7 u5 hap
              have HA4 := Lib.hid (HA6.out.on HU4.out)
              have HP4 := Lib.hid (HP6.out.on HU4.out)
              have HA7 : Hid (AccAt u5 wo.heap.size v7 (ms ++ [⟨⟨pid, pep, pl, po⟩, ad, cap⟩])) := by
                have h0 := HM9.out
                subst h0
                have h8 := HROW6.out.keep HU4.out
                rw [HPN.out] at h8
                refine HA4.out.snoc h8 (fun a ha => ?_) hap
                have h1 := HNEW6.out a ha
                have h2 := HW4.out
                have h3 := HU4.out.size
                exact ⟨by omega, by omega, fun e => by have := HOWN.out _ e; omega⟩
              have hug : ∀ q, u.ownBlock = some q → wo.heap.size ≤ q := fun q hq => (HA4.out.own.lt q hq).1
              have HP7 := Lib.hid (HP4.out.grown hap.2.1 (fun e => by have := HOWN.out P e; have := HPP.out; omega))
              have HR7 := Lib.hid ((HR6.out.on HU4.out).grown hap.2.1 (fun q hq => by have h1 := hug q hq; have h2 := HKW.out; have h3 := HR6.out.old; constructor <;> omega))
              have HG7 : Hid (wo.grownBy u5 (some k)) := grow_own (grow_below HG6.out HU4.out) hap.2.1 hug
              clear hap hug HA4 HP4 HA6 HP6 HR6 HG6 HLIT
              have hHeld : (fun (V : World) => V.cell? ⟨P, 0, none⟩ = some (.int .i64 pid) ∧ V.cell? ⟨P, 1, none⟩ = some (.int .i64 pep) ∧ V.cell? ⟨P, 2, none⟩ = some (.slice ad pn cap) ∧ V.cell? ⟨P, 3, none⟩ = some (.int .i64 po)) u5 := ⟨HP7.out.c0, HP7.out.c1, HP7.out.c2, HP7.out.c3⟩
              refine hC.out _ _ (fun _ => hHeld) (fun _ => ?_)
              clear hC C
              (try simp only [Act.put, List.setIfInBounds_toArray, List.set_cons_zero, List.set_cons_succ])
              refine wpAnyZ_take (i := 6) (oi := ⟨_, _, _, _, _, _⟩) (v := ?_) rfl (by kernel_rfl) (by kernel_rfl) (by kernel_rfl) (by kernel_rfl) (by kernel_rfl) (fun _ _ _ h => h) (Or.inl ⟨by rfl, ?_⟩) (by assumption) ?_
              rotate_left
              · intro W hSw
                (try dsimp only at hSw)
                go_simp
                (try with_reducible rfl)
              (try simp only [Act.put, List.setIfInBounds_toArray, List.set_cons_zero, List.set_cons_succ])
              refine wpAnyZ_take (i := 7) (oi := ⟨_, _, _, _, _, _⟩) (v := ?_) rfl (by kernel_rfl) (by kernel_rfl) (by kernel_rfl) (by kernel_rfl) (by kernel_rfl) (fun _ _ _ h => h) (Or.inl ⟨by rfl, ?_⟩) (by assumption) ?_
              rotate_left
              · intro W hSw
                (try dsimp only at hSw)
                go_simp
                (try with_reducible rfl)
              (try simp only [Act.put, List.setIfInBounds_toArray, List.set_cons_zero, List.set_cons_succ])
              refine wpAnyZ_done (by kernel_rfl) ?_ _
              refine NoPanic.normal ?_
              clear hHeld KS
              have hps : pds (ms ++ [⟨⟨pid, pep, pl, po⟩, ad, cap⟩]) = pds ms ++ [⟨pid, pep, pl, po⟩] := pds_snoc ms _
              have HZ7 : Hid (pid = lastW (pds (ms ++ [⟨⟨pid, pep, pl, po⟩, ad, cap⟩]))) := by show _ = _; rw [hps, lastW_snoc]
              have HAC7 : Hid (AccOk (pds (ms ++ [⟨⟨pid, pep, pl, po⟩, ad, cap⟩]))) := by show AccOk _; rw [hps]; exact HAC2.out
              have HB7 : Hid (b2 = pdsS (pds (ms ++ [⟨⟨pid, pep, pl, po⟩, ad, cap⟩])) ++ c2) := by show _ = _; rw [hps]; exact HB3.out
              have HML7 : Hid ((ms ++ [(⟨⟨pid, pep, pl, po⟩, ad, cap⟩ : PM)]).length = j + 1) := by show _ = _; rw [List.length_append, HML.out]; rfl
              clear hps HP7 HAC HAC2 HB3 HZ HB2
              go_wp2
              go_roundw
              case rel => exact ⟨j + 1, c2, v7, ms ++ [(⟨⟨pid, pep, pl, po⟩, ad, cap⟩ : PM)], pid, rfl, rfl, rfl, by omega, HZ7.out, HA7.out, HR7.out, HAC7.out, HML7.out, HB7.out, HG7.out⟩
              case measure => simp [intOf]; omega
          · have HNO : Hid (TabNo b) := tab_stop HE1.out HAC.out HB2.out (by have := HML.out; unfold pds; rw [List.length_map]; omega) hno
            have HG5 : Hid (wo.grownBy w5 (some k)) := grow_trans HG.out hg
            clear hno hg
            go_wp2
            go_ret2
            exact ⟨grow_alloc HG5.out _, .inr ⟨rfl, .inr HNO.out⟩⟩
        · have hd1 : decide (j < kn) = false := decide_eq_false hlt
          have hjn : j = kn := by omega
          have HTS : Hid (TabS b (pds ms) c) := tab_done HE1.out HAC.out (by have := HBC.out; unfold pds; rw [List.length_map]; omega) HB2.out (by have := HML.out; unfold pds; rw [List.length_map]; omega)
          obtain ⟨n9, hn9⟩ : ∃ n9, ms.length = n9 := ⟨_, rfl⟩
          obtain ⟨ad9, cap9, rfl, _, _⟩ := OwnRow.row pdK_ok HA.out.own hn9
          have HPD := Lib.hid (HA.out.row).1
          have h9 : n9 ≤ 1000000 := by have := HBC.out; omega
          have HTO := Lib.hid (tcOf_any w4 ad9 n9 cap9 ms HPD.out h9 HAC.out.asc HAC.out.few HAC.out.ids)
          clear hn9 h9 hjn
          go_wp2_with fail
          refine HTO.out.mono ?_
          rintro e w5 ⟨kt, km, ps, rfl, ht, hps, hkt, hkm, hb⟩
          have HT := Lib.hid ht
          have HPS := Lib.hid hps
          have HKT : Hid (wo.heap.size ≤ kt ∧ wo.heap.size ≤ km) := by have := HG.out.size; show _ ∧ _; omega
          have HR5 := Lib.hid (HR.out.on hb)
          have HG5 : Hid (wo.grownBy w5 (some k)) := grow_below HG.out hb
          clear ht hps hkt hkm hb HTO
          go_wp2
          go_ret2
          exact ⟨HG5.out, .inl ⟨kt, km, ps, c, rfl, HT.out, HKT.out.1, HKT.out.2, HR5.out, rfl, by rw [HPS.out]; exact HTS.out⟩⟩
end Go.Proofs.YtgohekjkbgfeeaaGreat
namespace Go.Proofs.YtgohekjkbgfeeaaGreat
open Go.RowKit
open Go.SeqMath
open Go.ProdMath
open Go.BatMath hiding AllB getD_lt take_all
set_option linter.unusedVariables false

set_option maxRecDepth 100000 in
set_option maxHeartbeats 4000000 in
theorem prRefSame_any (w : World) (id ep op : Int) (last : List Tr) (ad : Option Addr) (n cap : Nat) (hl : RowAt trK w ad n cap last) (am : Option Addr) (cm : Nat) (hm : RowAt trK w am n cm last) (hn : n ≤ 100000000000) :
    Calls Tryz.prog 47 #[.agg #[.int .i64 id, .int .i64 ep, .slice ad n cap, .int .i64 op], .agg #[.int .i64 id, .int .i64 ep, .slice am n cm, .int .i64 op]] w (GivesBool w true) := by
  obtain ⟨W0, hW0⟩ : ∃ W0, W0 = ((w.alloc (.cells #[.int .i64 id, .int .i64 ep, .slice ad n cap, .int .i64 op] 78)).alloc (.cells #[.int .i64 id, .int .i64 ep, .slice am n cm, .int .i64 op] 78)) := ⟨_, rfl⟩
  have HB0 : Hid (Below w.heap.size w W0) := by show Below _ _ _; rw [hW0]; exact ((Below.refl _ _).alloc (Nat.le_refl _) _).alloc (by simp) _
  have HP0 : Hid (PBox W0 w.heap.size (id) (ep) (.slice ad n cap) (op)) := by
    show PBox _ w.heap.size (id) (ep) (.slice ad n cap) (op)
    rw [hW0]
    have h1 := pbox_new w (id) (ep) (.slice ad n cap) (op)
    have h2 := h1.on ((Below.refl _ _).alloc (Nat.le_refl _) (.cells #[.int .i64 id, .int .i64 ep, .slice am n cm, .int .i64 op] 78))
    simpa using h2
  have HP1 : Hid (PBox W0 (w.heap.size + 1) (id) (ep) (.slice am n cm) (op)) := by
    show PBox _ (w.heap.size + 1) (id) (ep) (.slice am n cm) (op)
    rw [hW0]
    have h1 := pbox_new (w.alloc (.cells #[.int .i64 id, .int .i64 ep, .slice ad n cap, .int .i64 op] 78)) (id) (ep) (.slice am n cm) (op)
    simpa using h1
  have HW0 := Lib.hid hW0
  clear hW0
  obtain ⟨B1, hB1⟩ : ∃ B, B = w.heap.size := ⟨_, rfl⟩
  obtain ⟨B2, hB2⟩ : ∃ B, B = w.heap.size + 1 := ⟨_, rfl⟩
  rw [← hB1] at HP0
  rw [← hB2] at HP1
  go_enter Tryz.func47, Tryz.ntmps47
  go_upto_region 1 with fail
  rw [← HW0.out, ← hB2, ← hB1]
  clear HW0 hB1 hB2
  have HL0 := Lib.hid (hl.keep HB0.out)
  have HM0 := Lib.hid (hm.keep HB0.out)
  clear hl hm
  have q0 := HP0.out.c0
  have q1 := HP0.out.c1
  have q2 := HP0.out.c2
  have q3 := HP0.out.c3
  have s0 := HP1.out.c0
  have s1 := HP1.out.c1
  have s2 := HP1.out.c2
  have s3 := HP1.out.c3
  have hd1 : (id == id) = true := by simp
  have hd2 : (ep == ep) = true := by simp
  have hd3 : (op == op) = true := by simp
  have hd1n : (id != id) = false := by simp
  have hd2n : (ep != ep) = false := by simp
  have hd3n : (op != op) = false := by simp
  have hd4 : (n == n) = true := by simp
  have hd5 : ((n : Int) == (n : Int)) = true := by simp
  have hgd := guard_three
  go_wp2
  go_loopw [37] (fun v37 wr => ∃ j : Nat, v37 = .int .i64 (j : Int) ∧ j ≤ n ∧ Below W0.heap.size W0 wr) (fun v37 _ => n - (intOf v37).toNat)
  case atStart => exact ⟨0, rfl, Nat.zero_le _, Below.refl _ _⟩
  case round =>
    obtain ⟨j, rfl, hj, hbel⟩ := hrel
    have HB := Lib.hid hbel
    clear hbel q0 q1 q2 q3 s0 s1 s2 s3
    obtain ⟨wo, hwo⟩ : ∃ wo : World, wo = wr := ⟨_, rfl⟩
    subst hwo
    by_cases hlt : j < n
    · have hd6 : decide (j < n) = true := decide_eq_true hlt
      have hjn : (j : Int) < (n : Int) := by omega
      obtain ⟨bk, off, x, rfl, hbk, hx, c0, c1, c2⟩ := tr_get (HL0.out.keep HB.out) hlt
      obtain ⟨bm, om, y, rfl, hbm, hy, d0, d1, d2⟩ := tr_get (HM0.out.keep HB.out) hlt
      have hxy : y = x := by rw [hx] at hy; cases hy; rfl
      subst hxy
      have q2 := (HP0.out.on HB.out).c2
      have s2 := (HP1.out.on HB.out).c2
      clear hx hy hbk hbm
      go_upto_region 6 with fail
      have heq : ∀ W, (binOp .neq 79 (.agg #[.int .i64 y.f, .int .i64 y.l, .int .i64 y.b]) (.agg #[.int .i64 y.f, .int .i64 y.l, .int .i64 y.b])).run Tryz.prog W = .ok (.bool false) W := fun W => neq_three _ _ _ _ _ _ true (by simp) W
      go_quiet (fail)
      have HBU := Lib.hid (below_drewN HB.out nq)
      clear q2 s2 c0 c1 c2 d0 d1 d2 heq
      go_wp2
      go_roundw
      case rel => exact ⟨j + 1, by go_num, by omega, HBU.out⟩
      case measure => simp [intOf]; omega
    · have hd6 : decide (j < n) = false := decide_eq_false hlt
      go_wp2
      go_ret
      exact gives_bool rfl (HB0.out.trans (HB.out.mono HB0.out.size))
end Go.Proofs.YtgohekjkbgfeeaaGreat
namespace Go.Proofs.YtgohekjkbgfeeaaGreat
open Go.RowKit
open Go.SeqMath
open Go.ProdMath
open Go.BatMath hiding AllB getD_lt take_all
set_option linter.unusedVariables false

set_option maxRecDepth 100000 in
set_option maxHeartbeats 4000000 in
theorem refAllP_any (w : World) (ad1 ad2 : Option Addr) (n1 n2 cap1 cap2 : Nat) (ms1 ms2 : List PM) (h1 : PdsAt w ad1 n1 cap1 ms1) (h2 : PdsAt w ad2 n2 cap2 ms2) (he : pds ms1 = pds ms2) (hL : n1 ≤ 1000000) (hfew : fewP (pds ms1)) :
    Calls Tryz.prog 22 #[.slice ad1 n1 cap1, .slice ad2 n2 cap2] w (GivesBool w true) := by
  have hn : n1 = n2 := by
    have e := congrArg List.length he
    unfold pds at e
    rw [List.length_map, List.length_map, h1.row.length, h2.row.length] at e
    exact e
  subst hn
  have H1 := Lib.hid h1
  have H2 := Lib.hid h2
  have HE := Lib.hid he
  have HF := Lib.hid hfew
  clear h1 h2 he hfew
  go_enter Tryz.func22, Tryz.ntmps22
  go_wp2
  go_loopw [13] (fun v13 wr => ∃ j : Nat, v13 = .int .i64 (j : Int) ∧ j ≤ n1 ∧ Hid (Below w.heap.size w wr)) (fun v13 _ => n1 - (intOf v13).toNat)
  case atStart => exact ⟨0, rfl, Nat.zero_le _, Below.refl _ _⟩
  case round =>
    obtain ⟨j, rfl, hj, HB⟩ := hrel
    obtain ⟨wo, hwo⟩ : ∃ wo : World, wo = wr := ⟨_, rfl⟩
    subst hwo
    by_cases hlt : j < n1
    · have hd : decide (j < n1) = true := decide_eq_true hlt
      have hjl : (j : Int) < (n1 : Int) := by omega
      obtain ⟨bk, off, m, rfl, hbk, hm, hla, c0, c1, c2, c3⟩ := (H1.out.keep HB.out).get hlt
      obtain ⟨bk2, off2, m2, rfl, hbk2, hm2, hla2, d0, d1, d2, d3⟩ := (H2.out.keep HB.out).get hlt
      have hpp : m.p = m2.p := by
        have e := congrArg (fun l : List Pd => l[j]?) HE.out
        unfold pds at e
        simp only [List.getElem?_map, hm, hm2, Option.map_some, Option.some.injEq] at e
        exact e
      have hp5 := HF.out m.p (List.mem_map.2 ⟨m, List.mem_of_getElem? hm, rfl⟩)
      obtain ⟨⟨pid, pep, pl, po⟩, pd, pc⟩ := m
      obtain ⟨p2, qd, qc⟩ := m2
      simp only at hpp
      subst hpp
      simp only at c0 c1 c2 c3 d0 d1 d2 d3 hp5
      have hlb : RowAt trK wo pd pl.length pc pl := hla
      have hlb2 : RowAt trK wo qd pl.length qc pl := hla2
      obtain ⟨pn, hpn⟩ : ∃ n, n = pl.length := ⟨_, rfl⟩
      rw [← hpn] at c2 d2 hp5 hlb hlb2
      have HLA := Lib.hid hlb
      have HLA2 := Lib.hid hlb2
      have KS : Hid (∀ V, Below wo.heap.size wo V → (fun (V : World) => V.cell? ⟨bk, off + j * 4, none⟩ = some (.int .i64 pid) ∧ V.cell? ⟨bk, off + j * 4 + 1, none⟩ = some (.int .i64 pep) ∧ V.cell? ⟨bk, off + j * 4 + 2, none⟩ = some (.slice pd pn pc) ∧ V.cell? ⟨bk, off + j * 4 + 3, none⟩ = some (.int .i64 po) ∧ V.cell? ⟨bk2, off2 + j * 4, none⟩ = some (.int .i64 pid) ∧ V.cell? ⟨bk2, off2 + j * 4 + 1, none⟩ = some (.int .i64 pep) ∧ V.cell? ⟨bk2, off2 + j * 4 + 2, none⟩ = some (.slice qd pn qc) ∧ V.cell? ⟨bk2, off2 + j * 4 + 3, none⟩ = some (.int .i64 po)) V) := fun V hV => ⟨(hV.cell (p := ⟨_, _, none⟩) hbk).trans c0, (hV.cell (p := ⟨_, _, none⟩) hbk).trans c1, (hV.cell (p := ⟨_, _, none⟩) hbk).trans c2, (hV.cell (p := ⟨_, _, none⟩) hbk).trans c3, (hV.cell (p := ⟨_, _, none⟩) hbk2).trans d0, (hV.cell (p := ⟨_, _, none⟩) hbk2).trans d1, (hV.cell (p := ⟨_, _, none⟩) hbk2).trans d2, (hV.cell (p := ⟨_, _, none⟩) hbk2).trans d3⟩
      have hdrw : Below wo.heap.size wo wo.drew := (Below.refl _ wo).drew
      clear hla hla2 hlb hlb2 hpn hm hm2 c0 c1 c2 c3 d0 d1 d2 d3 hbk hbk2
      go_upto_region 6 with fail
      refine wp_region_noPanic ?_
      refine wp_region_z [] (fun (V : World) => V.cell? ⟨bk, off + j * 4, none⟩ = some (.int .i64 pid) ∧ V.cell? ⟨bk, off + j * 4 + 1, none⟩ = some (.int .i64 pep) ∧ V.cell? ⟨bk, off + j * 4 + 2, none⟩ = some (.slice pd pn pc) ∧ V.cell? ⟨bk, off + j * 4 + 3, none⟩ = some (.int .i64 po) ∧ V.cell? ⟨bk2, off2 + j * 4, none⟩ = some (.int .i64 pid) ∧ V.cell? ⟨bk2, off2 + j * 4 + 1, none⟩ = some (.int .i64 pep) ∧ V.cell? ⟨bk2, off2 + j * 4 + 2, none⟩ = some (.slice qd pn qc) ∧ V.cell? ⟨bk2, off2 + j * 4 + 3, none⟩ = some (.int .i64 po)) (by kernel_rfl) ?_
      have hHeld : (fun (V : World) => V.cell? ⟨bk, off + j * 4, none⟩ = some (.int .i64 pid) ∧ V.cell? ⟨bk, off + j * 4 + 1, none⟩ = some (.int .i64 pep) ∧ V.cell? ⟨bk, off + j * 4 + 2, none⟩ = some (.slice pd pn pc) ∧ V.cell? ⟨bk, off + j * 4 + 3, none⟩ = some (.int .i64 po) ∧ V.cell? ⟨bk2, off2 + j * 4, none⟩ = some (.int .i64 pid) ∧ V.cell? ⟨bk2, off2 + j * 4 + 1, none⟩ = some (.int .i64 pep) ∧ V.cell? ⟨bk2, off2 + j * 4 + 2, none⟩ = some (.slice qd pn qc) ∧ V.cell? ⟨bk2, off2 + j * 4 + 3, none⟩ = some (.int .i64 po)) _ := KS.out _ hdrw
      obtain ⟨u1, hu1⟩ : ∃ u, u = wo.drew := ⟨_, rfl⟩
      rw [← hu1] at hHeld hdrw
      rw [← hu1]
      clear hu1
      have HU1 := Lib.hid hdrw
      clear hdrw
      refine wpAnyZ_take (i := 0) (oi := ⟨_, _, _, _, _, _⟩) (v := ?_) rfl (by kernel_rfl) (by kernel_rfl) (by kernel_rfl) (by kernel_rfl) (by kernel_rfl) (fun _ _ _ h => h) (Or.inl ⟨by rfl, ?_⟩) (by assumption) ?_
      rotate_left
      · intro W hSw
        (try dsimp only at hSw)
        go_simp
        (try with_reducible rfl)
      (try simp only [Act.put, List.setIfInBounds_toArray, List.set_cons_zero, List.set_cons_succ])
      refine wpAnyZ_take (i := 1) (oi := ⟨_, _, _, _, _, _⟩) (v := ?_) rfl (by kernel_rfl) (by kernel_rfl) (by kernel_rfl) (by kernel_rfl) (by kernel_rfl) (fun _ _ _ h => h) (Or.inl ⟨by rfl, ?_⟩) (by assumption) ?_
      rotate_left
      · intro W hSw
        (try dsimp only at hSw)
        go_simp
        (try with_reducible rfl)
      (try simp only [Act.put, List.setIfInBounds_toArray, List.set_cons_zero, List.set_cons_succ])
      refine wpAnyZ_take (i := 2) (oi := ⟨_, _, _, _, _, _⟩) (v := ?_) rfl (by kernel_rfl) (by kernel_rfl) (by kernel_rfl) (by kernel_rfl) (by kernel_rfl) (fun _ _ _ h => h) (Or.inl ⟨by rfl, ?_⟩) (by assumption) ?_
      rotate_left
      · intro W hSw
        (try dsimp only at hSw)
        go_simp
        (try with_reducible rfl)
      (try simp only [Act.put, List.setIfInBounds_toArray, List.set_cons_zero, List.set_cons_succ])
      refine wpAnyZ_take (i := 3) (oi := ⟨_, _, _, _, _, _⟩) (v := ?_) rfl (by kernel_rfl) (by kernel_rfl) (by kernel_rfl) (by kernel_rfl) (by kernel_rfl) (fun _ _ _ h => h) (Or.inl ⟨by rfl, ?_⟩) (by assumption) ?_
      rotate_left
      · intro W hSw
        (try dsimp only at hSw)
        go_simp
        (try with_reducible rfl)
      (try simp only [Act.put, List.setIfInBounds_toArray, List.set_cons_zero, List.set_cons_succ])
      refine wpAnyZ_take (i := 4) (oi := ⟨_, _, _, _, _, _⟩) (v := ?_) rfl (by kernel_rfl) (by kernel_rfl) (by kernel_rfl) (by kernel_rfl) (by kernel_rfl) (fun _ _ _ h => h) (Or.inl ⟨by rfl, ?_⟩) (by assumption) ?_
      rotate_left
      · intro W hSw
        (try dsimp only at hSw)
        go_simp
        (try with_reducible rfl)
      (try simp only [Act.put, List.setIfInBounds_toArray, List.set_cons_zero, List.set_cons_succ])
      refine wpAnyZ_take (i := 5) (oi := ⟨_, _, _, _, _, _⟩) (v := ?_) rfl (by kernel_rfl) (by kernel_rfl) (by kernel_rfl) (by kernel_rfl) (by kernel_rfl) (fun _ _ _ h => h) (Or.inl ⟨by rfl, ?_⟩) (by assumption) ?_
      rotate_left
      · intro W hSw
        (try dsimp only at hSw)
        go_simp
        (try with_reducible rfl)
      (try simp only [Act.put, List.setIfInBounds_toArray, List.set_cons_zero, List.set_cons_succ])
      refine wpAnyZ_take (i := 6) (oi := ⟨_, _, _, _, _, _⟩) (v := ?_) rfl (by kernel_rfl) (by kernel_rfl) (by kernel_rfl) (by kernel_rfl) (by kernel_rfl) (fun _ _ _ h => h) (Or.inl ⟨by rfl, ?_⟩) (by assumption) ?_
      rotate_left
      · intro W hSw
        (try dsimp only at hSw)
        go_simp
        (try with_reducible rfl)
      (try simp only [Act.put, List.setIfInBounds_toArray, List.set_cons_zero, List.set_cons_succ])
      refine wpAnyZ_take (i := 7) (oi := ⟨_, _, _, _, _, _⟩) (v := ?_) rfl (by kernel_rfl) (by kernel_rfl) (by kernel_rfl) (by kernel_rfl) (by kernel_rfl) (fun _ _ _ h => h) (Or.inl ⟨by rfl, ?_⟩) (by assumption) ?_
      rotate_left
      · intro W hSw
        (try dsimp only at hSw)
        go_simp
        (try with_reducible rfl)
      (try simp only [Act.put, List.setIfInBounds_toArray, List.set_cons_zero, List.set_cons_succ])
      refine wpAnyZ_ready (rs := [8]) (by kernel_rfl) (by simp) ?_
      refine AllReadyZ.cons (o := ⟨_, _, _, _, _, _⟩) rfl (fun C hC => ?_) AllReadyZ.nil
      go_simp
      refine (prRefSame_any u1 pid pep po pl pd pn pc (HLA.out.keep HU1.out) qd qc (HLA2.out.keep HU1.out) (by omega)).mono ?_
      rintro e u2 ⟨rfl, hb⟩
      have HU2 := Lib.hid (HU1.out.trans (hb.mono HU1.out.size))
      clear hb
      have hHeld : (fun (V : World) => V.cell? ⟨bk, off + j * 4, none⟩ = some (.int .i64 pid) ∧ V.cell? ⟨bk, off + j * 4 + 1, none⟩ = some (.int .i64 pep) ∧ V.cell? ⟨bk, off + j * 4 + 2, none⟩ = some (.slice pd pn pc) ∧ V.cell? ⟨bk, off + j * 4 + 3, none⟩ = some (.int .i64 po) ∧ V.cell? ⟨bk2, off2 + j * 4, none⟩ = some (.int .i64 pid) ∧ V.cell? ⟨bk2, off2 + j * 4 + 1, none⟩ = some (.int .i64 pep) ∧ V.cell? ⟨bk2, off2 + j * 4 + 2, none⟩ = some (.slice qd pn qc) ∧ V.cell? ⟨bk2, off2 + j * 4 + 3, none⟩ = some (.int .i64 po)) u2 := KS.out _ HU2.out
      refine hC.out _ _ (fun _ => hHeld) (fun _ => ?_)
      clear hC C
      (try simp only [Act.put, List.setIfInBounds_toArray, List.set_cons_zero, List.set_cons_succ])
      refine wpAnyZ_take (i := 9) (oi := ⟨_, _, _, _, _, _⟩) (v := ?_) rfl (by kernel_rfl) (by kernel_rfl) (by kernel_rfl) (by kernel_rfl) (by kernel_rfl) (fun _ _ _ h => h) (Or.inl ⟨by rfl, ?_⟩) (by assumption) ?_
      rotate_left
      · intro W hSw
        (try dsimp only at hSw)
        go_simp
        (try with_reducible rfl)
      (try simp only [Act.put, List.setIfInBounds_toArray, List.set_cons_zero, List.set_cons_succ])
      refine wpAnyZ_done (by kernel_rfl) ?_ _
      refine NoPanic.normal ?_
      clear hHeld KS HU1
      have HB3 := Lib.hid (HB.out.trans (HU2.out.mono HB.out.size))
      go_wp2
      go_roundw
      case rel => exact ⟨j + 1, rfl, by omega, HB3.out⟩
      case measure => simp [intOf]; omega
    · have hd : decide (j < n1) = false := decide_eq_false hlt
      go_wp2
      go_ret
      exact ⟨rfl, HB.out⟩
end Go.Proofs.YtgohekjkbgfeeaaGreat
namespace Go.Proofs.YtgohekjkbgfeeaaGreat
open Go.RowKit
open Go.SnapMath
open Go.ProdMath
open Go.BatMath hiding AllB getD_lt take_all
set_option linter.unusedVariables false

/-- What the code's Read is to do; T says what a table holds. -/
def ReadDoes (T : World → Addr → List Pd → Prop) (w : World) (bs : List Nat) (e : Ending) (w' : World) : Prop :=
  Below w.heap.size w w' ∧ ((∃ a l n, e = .returned (.tuple #[.pointer (some a), .int .i64 n, .int .i64 0]) ∧ T w' a l ∧ IsSnap bs l n) ∨
    (e = .returned (.tuple #[.pointer none, .int .i64 0, .int .i64 12]) ∧ ∀ l m, ¬ IsSnap bs l m))
/-- What the code's All is to give. -/
def AllDoes (w : World) (l : List Pd) (e : Ending) (w' : World) : Prop :=
  ∃ ad n cap ms, e = .returned (.slice ad n cap) ∧ PdsAt w' ad n cap ms ∧ pds ms = l ∧ Below w.heap.size w w'
theorem IsSnap.one {bs : List Nat} {l l' : List Pd} {n n' : Int} (h : IsSnap bs l n) (h' : IsSnap bs l' n') (hL : bs.length ≤ 1048600) : l = l' ∧ n = n' := by
  have h1 := h.rd hL
  rw [h'.rd hL] at h1
  cases h1
  exact ⟨rfl, rfl⟩
end Go.Proofs.YtgohekjkbgfeeaaGreat
namespace Go.SnapMath
open Go.ProdMath
open Go.BatMath (In64 Bat Ok ok_of rightE head_of headB noneB none_of)
open Go.SeqMath (gapI followsB lastI addI)
set_option linter.unusedVariables false

/-- A state that what stood below e may have left. -/
structure StOk (e : Int) (p : Pd) : Prop where
  right : RightP p
  last : ∀ x ∈ p.last, x.b < e
theorem StOk.up {e e' : Int} {p : Pd} (h : StOk e p) (he : e ≤ e') : StOk e' p := ⟨h.right, fun x hx => by have := h.last x hx; omega⟩
theorem lt_len {l : List Tr} {j : Nat} {x : Tr} (h : l[j]? = some x) : j < l.length := (List.getElem?_eq_some_iff.1 h).1
theorem step_snoc {l : List Tr} {x : Tr} (h : ∀ j, StepOk l j) (hx : TrOk x) (hn : ∀ y, l.getLast? = some y → TrNext y x) : ∀ j, StepOk (l ++ [x]) j := fun j z hz => by
  have hj := lt_len hz
  rw [List.length_append, List.length_singleton] at hj
  by_cases hlt : j < l.length
  · rw [List.getElem?_append_left hlt] at hz
    refine ⟨(h j z hz).1, fun y h0 hy => ?_⟩
    rw [List.getElem?_append_left (by omega)] at hy
    exact (h j z hz).2 y h0 hy
  · have hje : j = l.length := by omega
    subst hje
    rw [List.getElem?_append_right (Nat.le_refl _), Nat.sub_self] at hz
    cases hz
    refine ⟨hx, fun y h0 hy => hn y ?_⟩
    rw [List.getElem?_append_left (by omega)] at hy
    rw [List.getLast?_eq_getElem?]
    exact hy
theorem step_drop {l : List Tr} (h : ∀ j, StepOk l j) (d : Nat) : ∀ j, StepOk (l.drop d) j := fun j z hz => by
  rw [List.getElem?_drop] at hz
  refine ⟨(h _ z hz).1, fun y h0 hy => ?_⟩
  rw [List.getElem?_drop] at hy
  refine (h _ z hz).2 y (by omega) ?_
  rw [show d + j - 1 = d + (j - 1) by omega]
  exact hy
theorem tr_ok {s base : Int} {n : Nat} (s0 : 0 ≤ s) (s1 : s ≤ 2147483647) (n1 : 1 ≤ n) (n2 : n ≤ 16) (b0 : 0 ≤ base) (b1 : base ≤ 1099511627776) : TrOk ⟨s, lastI s n, base⟩ := by
  have hl : lastI s n = addI s ((n : Int) - 1) := by unfold lastI; rw [if_pos ⟨by omega, by omega⟩]
  have hg : gapI s (lastI s n) = (n : Int) - 1 := by rw [hl]; exact SeqMath.gap_add s0 s1 (by omega) (by omega)
  refine ⟨?_, ?_, b0, b1⟩
  · show 0 ≤ gapI s (lastI s n); omega
  · show gapI s (lastI s n) < 16; omega
/-- A right batch of a producer, with its records. -/
theorem data_ok {b : Bat} (h : rightE b = 0) (hm : b.marker = 0) (hp : 0 ≤ b.prod) : 0 ≤ b.seq ∧ 1 ≤ b.recs.length := by
  unfold rightE at h
  split at h
  · omega
  · split at h
    · rename_i h1; exact absurd hm h1
    · split at h
      · rename_i h1
        obtain ⟨h1, h2⟩ := h1
        refine ⟨?_, List.length_pos_iff.2 h2⟩
        rcases h1 with h1 | h1
        · have := (none_of h1).1; omega
        · have := SeqMath.of_right h1.2; omega
      · omega
theorem epoch_ok {b : Bat} (h : rightE b = 0) (hp : 0 ≤ b.prod) : 0 ≤ b.epoch := by
  unfold rightE at h
  split at h
  · omega
  · split at h
    · split at h
      · rename_i h1; exact (head_of h1.2.1).2.1
      · omega
    · split at h
      · rename_i h1
        rcases h1.1 with h1 | h1
        · have := (none_of h1).1; omega
        · exact (head_of h1.1).2.1
      · omega
theorem old_ok {e : Int} {p : Pd} {known : Bool} (b : Bat) (h : known = true → StOk e p) : (∀ j, StepOk (oldLast p known b) j) ∧ (oldLast p known b).length ≤ 5 ∧ (∀ x ∈ oldLast p known b, x.b < e) ∧ -1 ≤ oldOpen p known ∧ oldOpen p known ≤ 1099511627776 := by
  have ho : -1 ≤ oldOpen p known ∧ oldOpen p known ≤ 1099511627776 := by
    unfold oldOpen
    split
    · rename_i hk
      exact ⟨(h hk).right.1.2.2.2.1, (h hk).right.1.2.2.2.2.1⟩
    · exact ⟨by decide, by decide⟩
  by_cases hk : known = true ∧ p.epoch = b.epoch
  · have he : oldLast p known b = p.last := by unfold oldLast; rw [if_pos hk]
    rw [he]
    have h1 := h hk.1
    exact ⟨h1.right.2, h1.right.1.2.2.2.2.2, h1.last, ho⟩
  · have he : oldLast p known b = [] := by unfold oldLast; rw [if_neg hk]
    rw [he]
    exact ⟨fun j x hx => (by cases hx), Nat.zero_le _, fun x hx => (by cases hx), ho⟩
theorem dup_mem : ∀ {l : List Tr} {s : Int} {c : Nat} {n : Int}, dupL l s c = some n → ∃ x ∈ l, x.b = n
  | [], s, c, n, h => by cases h
  | x :: l, s, c, n, h => by
    cases hb : hitB x s c with
    | true =>
      rw [dup_hit hb] at h
      cases h
      exact ⟨x, by simp, rfl⟩
    | false =>
      rw [dup_miss hb] at h
      obtain ⟨y, hy, e⟩ := dup_mem h
      exact ⟨y, by simp [hy], e⟩
/-- One batch more, that the state takes as a new one. -/
theorem apply_ok {p : Pd} {known : Bool} {b : Bat} {e : Int} (h : known = true → StOk b.base p) (hr : rightE b = 0) (hp : 0 ≤ b.prod) (hc : (checkD p known b).2 = 0) (hn : (checkD p known b).1 < 0) (he : b.base < e) : StOk e (applyD p known b) := by
  have ok := ok_of hr
  obtain ⟨o1, o2, o3, o4, o5⟩ := old_ok b h
  have hep := epoch_ok hr hp
  unfold applyD
  split
  · exact ⟨⟨⟨hp, hep, ok.epoch1, by show (-1 : Int) ≤ -1; omega, by show (-1 : Int) ≤ _; omega, o2⟩, o1⟩, fun x hx => by have := o3 x hx; omega⟩
  · rename_i hm
    have hm0 : b.marker = 0 := Classical.byContradiction fun h => hm h
    obtain ⟨hs, hrn⟩ := data_ok hr hm0 hp
    have hTr : TrOk ⟨b.seq, lastI b.seq b.recs.length, b.base⟩ := tr_ok hs ok.seq1 hrn ok.recs ok.base0 ok.base1
    have hnext : ∀ y, (oldLast p known b).getLast? = some y → TrNext y ⟨b.seq, lastI b.seq b.recs.length, b.base⟩ := fun y hy => by
      refine ⟨o3 y (List.mem_of_getLast? hy), ?_⟩
      by_cases hk : known = true ∧ p.epoch = b.epoch
      · have hol : oldLast p known b = p.last := by unfold oldLast; rw [if_pos hk]
        rw [hol] at hy
        have hne : p.last ≠ [] := fun e => by rw [e] at hy; cases hy
        have hls : lastSeq p.last = y.l := by unfold lastSeq; rw [hy]
        unfold checkD at hc hn
        rw [if_neg hm, if_neg (by rw [hk.1]; decide), if_neg (by omega), if_neg (by omega)] at hc hn
        cases hd : dupL p.last b.seq b.recs.length with
        | some n =>
          rw [hd] at hn
          have hn : n < 0 := hn
          obtain ⟨x, hx, hxb⟩ := dup_mem hd
          obtain ⟨j, hj⟩ := List.mem_iff_getElem?.1 hx
          have := ((h hk.1).right.2 j x hj).1.2.2.1
          omega
        | none =>
          rw [hd] at hc
          have hc : (if p.last ≠ [] ∧ followsB (lastSeq p.last) b.seq = false then ((-1 : Int), (15 : Int)) else if 0 ≤ p.opn ∧ b.txn = false then (-1, 16) else (-1, 0)).2 = 0 := hc
          split at hc
          · cases hc
          · rename_i h3
            show followsB y.l b.seq = true
            rw [← hls]
            cases hf : followsB (lastSeq p.last) b.seq with
            | true => rfl
            | false => exact absurd ⟨hne, hf⟩ h3
      · have hol : oldLast p known b = [] := by unfold oldLast; rw [if_neg hk]
        rw [hol] at hy
        cases hy
    have hlen : (newLast (oldLast p known b) ⟨b.seq, lastI b.seq b.recs.length, b.base⟩).length ≤ 5 := by
      unfold newLast
      rw [List.length_drop, List.length_append, List.length_singleton]
      omega
    refine ⟨⟨⟨hp, hep, ok.epoch1, ?_, ?_, hlen⟩, ?_⟩, ?_⟩
    · show -1 ≤ (if b.txn = true ∧ oldOpen p known < 0 then b.base else oldOpen p known)
      have := ok.base0
      split <;> omega
    · show (if b.txn = true ∧ oldOpen p known < 0 then b.base else oldOpen p known) ≤ _
      have := ok.base1
      split <;> omega
    · exact step_drop (step_snoc o1 hTr hnext) _
    · intro x hx
      have hx := List.mem_of_mem_drop hx
      rcases List.mem_append.1 hx with hx | hx
      · have := o3 x hx; omega
      · rw [List.mem_singleton] at hx
        rw [hx]
        exact he
theorem row_states {start : Int} {bs : List Bat} (h : RowD start bs) (h0 : 0 ≤ start) (h1 : start ≤ 1099511627776) : Asc (foldP [] bs) ∧ ∀ p ∈ foldP [] bs, StOk (endD start bs) p ∧ In64 p.id := by
  induction h with
  | nil => exact ⟨List.Pairwise.nil, fun p hp => by cases hp⟩
  | @snoc l b hl hb hw hc hn he ih =>
    obtain ⟨ha, hs⟩ := ih
    have hr := tcheck_right hc
    have hcd : 0 ≤ countD b := by unfold countD; split <;> omega
    have hend : endD start (l ++ [b]) = b.base + countD b := end_last (by simp)
    rw [foldP_snoc]
    refine ⟨tapply_asc ha b, ?_⟩
    by_cases hp : b.prod < 0
    · rw [tapply_no (Or.inr hp)]
      intro p hm
      exact ⟨(hs p hm).1.up (by rw [hend, hb]; omega), (hs p hm).2⟩
    · have hp : 0 ≤ b.prod := by omega
      unfold tcheckD at hc hn
      rw [if_neg (fun h => h hr), if_neg (by omega)] at hc hn
      have hlk := has_look ha b.prod
      rw [hlk.1, hlk.2] at hc hn
      rw [tapply_ins ha b hr hp]
      have hpos : 0 < countD b := by
        unfold countD
        split
        · omega
        · rename_i h1
          have := (data_ok hr (Classical.byContradiction fun h => h1 h) hp).2
          omega
      intro p hm
      rcases ins_ids _ _ _ hm with e | e
      · rw [e]
        refine ⟨apply_ok (fun hk => ?_) hr hp hc hn (by rw [hend]; omega), ?_⟩
        · obtain ⟨q, hq⟩ := Option.isSome_iff_exists.1 hk
          rw [hq]
          rw [hb]
          exact (hs q (look_id hq).2).1
        · rw [apply_id]
          exact hw.prod
      · exact ⟨(hs p e).1.up (by rw [hend, hb]; omega), (hs p e).2⟩
theorem row_acc {start : Int} {bs : List Bat} (h : RowD start bs) (h0 : 0 ≤ start) (h1 : start ≤ 1099511627776) : AccOk (foldP [] bs) := by
  obtain ⟨ha, hs⟩ := row_states h h0 h1
  exact ⟨fun p hp => (hs p hp).1.right, fun p hp => (hs p hp).2, ha⟩
end Go.SnapMath
namespace Go.SnapMath
open Go.ProdMath
open Go.BatMath (In64 Bat)
theorem tapply_len (l : List Pd) (b : Bat) : (tapplyD l b).length ≤ l.length + 1 := by
  unfold tapplyD
  split
  · omega
  · split
    · rw [List.length_set]; omega
    · rw [List.length_append, List.length_cons, List.length_take, List.length_drop]
      have := atD_le l b.prod
      omega
theorem fold_len : ∀ (bs : List Bat) (l : List Pd), (foldP l bs).length ≤ l.length + bs.length
  | [], l => Nat.le_refl _
  | b :: bs, l => by
    have h1 := fold_len bs (tapplyD l b)
    have h2 := tapply_len l b
    show (foldP (tapplyD l b) bs).length ≤ _
    rw [List.length_cons]
    omega
end Go.SnapMath
namespace Go.Proofs.YtgohekjkbgfeeaaGreat
open Go.RowKit
open Go.SnapMath
open Go.ProdMath
open Go.BatMath hiding AllB getD_lt take_all
set_option linter.unusedVariables false

def FoldDoes (T : World → Addr → List Pd → Prop) (w : World) (l : List Pd) (e : Ending) (w' : World) : Prop := ∃ a, e = .returned (.pointer (some a)) ∧ T w' a l ∧ Below w.heap.size w w'
/-- The code's table and its snapshots, as the walks over law 12 use them; T says what a table holds. -/
structure SnapCode (T : World → Addr → List Pd → Prop) : Prop where
  keep : ∀ W W' a l, T W a l → Below W.heap.size W W' → T W' a l
  all : ∀ W a l, T W a l → (∀ p ∈ l, p.last.length ≤ 5) → l.length ≤ 1000000 → Calls Tryz.prog 23 #[.pointer (some a)] W (AllDoes W l)
  fold : ∀ W ad len cap ms, BatsAt W ad len cap ms → len ≤ 5000 → BatsOk (bats ms) → Calls Tryz.prog 18 #[.slice ad len cap] W (FoldDoes T W (foldP [] (bats ms)))
  bytes : ∀ W a l n, T W a l → AccOk l → l.length ≤ 5000 → 0 ≤ n → n ≤ 1099511627776 → Calls Tryz.prog 20 #[.pointer (some a), .int .i64 n] W (GivesMade W (snapS l n))
  read : ∀ W ad len cap bs, Byt W ad len cap bs → bs.length ≤ 1048600 → Calls Tryz.prog 19 #[.slice ad len cap] W (ReadDoes T W bs)
theorem snap_size {l : List Pd} {n : Int} (h : AccOk l) (hl : l.length ≤ 5000) (hn : In64 n) : (snapS l n).length ≤ 1048600 := by
  have h1 := pdsS_len (l := l) h.pdIn (fun p hp => h.few p hp)
  have h2 := (encL hn).2
  have h3 := (encL (in_nat (n := l.length) (by omega))).2
  unfold snapS bodyS
  rw [CrcMath.length_sealB, List.length_append, List.length_append]
  omega
end Go.Proofs.YtgohekjkbgfeeaaGreat
namespace Go.CrcMath
theorem nxt_turn (c a x : Nat) : nxt c x = nxt c a ^^^ bsteps 8 (a ^^^ x) := by
  unfold nxt
  rw [← bsteps_xor, Nat.xor_assoc, xor_twice]
/-- One byte is another: so is the sum. -/
theorem ofB_one (p q : List Nat) {a x : Nat} (ha : a < 256) (hx : x < 256) (h : ofB (p ++ x :: q) = ofB (p ++ a :: q)) : x = a := by
  have h1 : run full (p ++ x :: q) = run full (p ++ a :: q) := by
    have := congrArg cpl h
    unfold ofB at this
    rwa [cpl_cpl, cpl_cpl] at this
  rw [run_append, run_append] at h1
  have h2 : run (nxt (run full p) x) q = run (nxt (run full p) a) q := h1
  rw [nxt_turn (run full p) a x] at h2
  obtain ⟨n, hn⟩ := run_diff (bsteps 8 (a ^^^ x)) q (nxt (run full p) a)
  rw [hn, ← bsteps_add] at h2
  have h3 := bsteps_zero (xor_lt (by omega) (by omega)) _ (xor_eq_self h2)
  have h4 := xor_twice a x
  rw [h3, Nat.xor_zero] at h4
  exact h4.symm
theorem turned_bad {bs : List Nat} (ha : AllB bs) (hok : okB bs = true) {k x : Nat} (hk : k < bs.length) (hx : x < 256) (hne : x ≠ bs.getD k 0) : okB (bs.set k x) = false := by
  have h4 : 4 ≤ bs.length := by
    rcases Nat.lt_or_ge bs.length 4 with h | h
    · rw [okB_short h] at hok; cases hok
    · exact h
  obtain ⟨b0, b1, b2, b3, r, rfl⟩ := four_of h4
  have c0 : b0 < 256 := ha b0 (by simp)
  have c1 : b1 < 256 := ha b1 (by simp)
  have c2 : b2 < 256 := ha b2 (by simp)
  have c3 : b3 < 256 := ha b3 (by simp)
  rw [okB_long h4] at hok
  have hs : unl [b0, b1, b2, b3] = ofB r := of_decide_eq_true hok
  rw [okB_long (by rw [List.length_set]; exact h4)]
  refine decide_eq_false fun e => ?_
  rcases k with _ | _ | _ | _ | k
  · have e : unl [x, b1, b2, b3] = ofB r := e
    rw [← hs] at e
    have hne : x ≠ b0 := hne
    simp only [unl] at e
    omega
  · have e : unl [b0, x, b2, b3] = ofB r := e
    rw [← hs] at e
    have hne : x ≠ b1 := hne
    simp only [unl] at e
    omega
  · have e : unl [b0, b1, x, b3] = ofB r := e
    rw [← hs] at e
    have hne : x ≠ b2 := hne
    simp only [unl] at e
    omega
  · have e : unl [b0, b1, b2, x] = ofB r := e
    rw [← hs] at e
    have hne : x ≠ b3 := hne
    simp only [unl] at e
    omega
  · have e : unl [b0, b1, b2, b3] = ofB (r.set k x) := e
    rw [hs] at e
    have hne : x ≠ r.getD k 0 := hne
    have hkr : k < r.length := by simp only [List.length_cons] at hk; omega
    have h1 : r.set k x = r.take k ++ x :: r.drop (k + 1) := by rw [List.set_eq_take_append_cons_drop, if_pos hkr]
    have h2 : r = r.take k ++ r.getD k 0 :: r.drop (k + 1) := by
      have : r.getD k 0 = r[k] := by rw [List.getD_eq_getElem?_getD, List.getElem?_eq_getElem hkr]; rfl
      rw [this, ← List.drop_eq_getElem_cons hkr, List.take_append_drop]
    rw [h1] at e
    have hr : r.getD k 0 < 256 := by
      have : r.getD k 0 = r[k] := by rw [List.getD_eq_getElem?_getD, List.getElem?_eq_getElem hkr]; rfl
      rw [this]
      exact ha _ (by simp)
    exact hne (ofB_one (r.take k) (r.drop (k + 1)) hr hx (e.symm.trans (congrArg ofB h2)))
end Go.CrcMath
namespace Go.SnapMath
open Go.BatMath (In64)
theorem IsSnap.ok {bs : List Nat} {l : List Go.ProdMath.Pd} {n : Int} (h : IsSnap bs l n) (hL : bs.length ≤ 1048600) : CrcMath.okB bs = true := by
  obtain ⟨ha, hn, e⟩ := h
  have h4 := snap_few (n := n) ha
  rw [← e] at h4
  rw [e]
  exact CrcMath.okB_seal (bodyS_all ⟨by omega, ha.pdIn⟩ ⟨by omega, by omega⟩)
theorem snap_short {bs : List Nat} (h : bs.length < 4) : ∀ l n, ¬ IsSnap bs l n := fun l n hs => by
  have := hs.ok (by omega)
  rw [CrcMath.okB_short h] at this
  cases this
theorem snap_turned {bs : List Nat} {l : List Go.ProdMath.Pd} {n : Int} (h : IsSnap bs l n) (hL : bs.length ≤ 1048600) (ha : CrcMath.AllB bs) {k x : Nat} (hk : k < bs.length) (hx : x < 256) (hne : x ≠ bs.getD k 0) : ∀ l n, ¬ IsSnap (bs.set k x) l n := fun l' n' hs => by
  have := hs.ok (by rw [List.length_set]; exact hL)
  rw [CrcMath.turned_bad ha (h.ok hL) hk hx hne] at this
  cases this
end Go.SnapMath
namespace Go.Proofs.YtgohekjkbgfeeaaGreat
open Go.RowKit
open Go.SnapMath
open Go.ProdMath
open Go.BatMath hiding AllB getD_lt take_all
set_option linter.unusedVariables false

theorem mask2 (a : Int) : bits .and .i64 a 3 = a % 4 := by
  have h1 : (BitVec.ofInt 64 3).toNat = 2 ^ 2 - 1 := by decide
  have key : (BitVec.ofInt 64 a &&& BitVec.ofInt 64 3).toNat = (a % ((2 ^ 64 : Nat) : Int)).toNat % 2 ^ 2 := by
    rw [BitVec.toNat_and, BitVec.toNat_ofInt, h1, Nat.and_two_pow_sub_one_eq_mod]
  show IntKind.i64.wrap ((BitVec.ofInt 64 a &&& BitVec.ofInt 64 3).toNat : Nat) = _
  rw [key, IntKind.wrap_i64]
  omega
def RowDoes (w : World) (start : Int) (most : Nat) (e : Ending) (w' : World) : Prop :=
  ∃ ad len cap ms, e = .returned (.slice ad len cap) ∧ BatsAt w' ad len cap ms ∧ BatsOk (bats ms) ∧ RowD start (bats ms) ∧ len ≤ most ∧ Below w.heap.size w w'
theorem snap_long (l : List Pd) {n : Int} (hn : In64 n) (hl : l.length ≤ 5000) : 6 ≤ (snapS l n).length := by
  have h2 := (encL hn).1
  have h3 := (encL (in_nat (n := l.length) (by omega))).1
  unfold snapS bodyS
  rw [CrcMath.length_sealB, List.length_append, List.length_append]
  omega
set_option maxRecDepth 100000 in
set_option maxHeartbeats 8000000 in
theorem snBad_any {T : World → Addr → List Pd → Prop} (C : SnapCode T) (K : ∀ W, Calls Tryz.prog 15 #[] W (GivesBool W true)) (w : World) (tad : Option Addr) (tlen tcap : Nat)
    (hrow : Calls Tryz.prog 7 #[.slice tad tlen tcap, .int .i64 0, .int .i64 20] w (RowDoes w 0 20)) (at0 : Int) (hat : In64 at0) (t : Nat) (ht : t < 256) :
    Calls Tryz.prog 6 #[.slice tad tlen tcap, .int .i64 at0, .int .u8 (t : Int)] w (GivesBool w true) := by
  have HC := Lib.hid C
  have HK := Lib.hid K
  have HR := Lib.hid hrow
  clear C K hrow
  go_enter Tryz.func6, Tryz.ntmps6
  go_wp2_with fail
  refine HR.out.mono ?_
  rintro e w1 ⟨ad, len, cap, ms, rfl, hba, hok, hrd, hlen, hb1⟩
  have hacc := row_acc hrd (by decide) (by decide)
  have hfl : (foldP [] (bats ms)).length ≤ 5000 := by
    have h1 := fold_len (bats ms) []
    have h2 : (bats ms).length = len := by unfold bats; rw [List.length_map]; exact hba.row.length
    rw [h2, List.length_nil] at h1
    omega
  obtain ⟨l, hl⟩ : ∃ l, foldP [] (bats ms) = l := ⟨_, rfl⟩
  rw [hl] at hacc hfl
  have HACC := Lib.hid hacc
  have HFL : Hid (l.length ≤ 5000) := hfl
  have HE := Lib.hid hl
  have HBA := Lib.hid hba
  have HOK := Lib.hid hok
  have HB1 := Lib.hid hb1
  clear hba hok hrd hb1 hacc hfl hl HR
  go_wp2_with fail
  refine (HC.out.fold w1 ad len cap ms HBA.out (by omega) HOK.out).mono ?_
  rintro e w2 ⟨a, rfl, ht2, hb2⟩
  rw [HE.out] at ht2
  have HT2 := Lib.hid ht2
  have HB2 := Lib.hid (HB1.out.trans (hb2.mono HB1.out.size))
  clear ht2 hb2 HB1 HBA HOK
  go_wp2_with fail
  refine (HC.out.bytes w2 a l 9 HT2.out HACC.out HFL.out (by decide) (by decide)).mono ?_
  rintro e w3 ⟨v, rfl, g, cg, rfl, hcg, hg, hpre, hb3⟩
  have hsn : IsSnap (snapS l 9) l 9 := ⟨HACC.out, ⟨by decide, by decide⟩, rfl⟩
  have hbl : (snapS l 9).length ≤ 1048600 := snap_size HACC.out HFL.out ⟨by decide, by decide⟩
  have hb6 : 6 ≤ (snapS l 9).length := snap_long l ⟨by decide, by decide⟩ HFL.out
  have hall : CrcMath.AllB (snapS l 9) := CrcMath.sealB_all (bodyS_all ⟨Nat.le_trans HFL.out (by omega), HACC.out.pdIn⟩ ⟨by decide, by decide⟩)
  obtain ⟨bs, hbs⟩ : ∃ bs, bs = snapS l 9 := ⟨_, rfl⟩
  rw [← hbs] at hpre hcg hsn hbl hb6 hall ⊢
  have HALL : Hid (CrcMath.AllB bs) := hall
  have HSN := Lib.hid hsn
  have HPRE := Lib.hid hpre
  have HB3 := Lib.hid (HB2.out.trans (hb3.mono HB2.out.size))
  have HG : Hid (w.heap.size ≤ g) := Nat.le_trans HB2.out.size hg
  obtain ⟨L, hL⟩ : ∃ L, bs.length = L := ⟨_, rfl⟩
  have HL := Lib.hid hL
  rw [hL] at hcg hbl hb6 ⊢
  clear hpre hsn hall hb3 hg hbs hL HB2 HT2 HACC HFL HE
  have HYT : Hid (Byt w3 (some ⟨g, 0, none⟩) L cg bs) := by
    have h1 := HPRE.out.byt HALL.out cg (by rw [HL.out]; exact hcg)
    rw [HL.out] at h1
    exact h1
  have hd6 : decide ((L : Int) < 6) = false := decide_eq_false (by omega)
  have hi4 : IntKind.i64.wrap ((L : Int) - 1) = (L : Int) - 1 := IntWalk.i64_in _ (by omega)
  go_wp2_with fail
  refine (within_any at0 ((L : Int) - 1) w3 hat ⟨by omega, by omega⟩).mono ?_
  rintro e w3' ⟨k, rfl, hk, rfl⟩
  have hkl : k < L := by omega
  obtain ⟨m, hm⟩ : ∃ m, m = k % 4 := ⟨_, rfl⟩
  have hm4 : m < 4 := by omega
  have hmk : bits .and .i64 (k : Int) 3 = (m : Int) := by rw [mask2]; omega
  have hsl := run_upto (some ⟨g, 0, none⟩) L cg m (by omega)
  clear hi4 hk hm
  go_wp2_with fail
  refine (HC.out.read w3 (some ⟨g, 0, none⟩) m cg (bs.take m) (byt_upto HYT.out m (by omega)) (by rw [List.length_take]; omega)).mono ?_
  rintro e w4 ⟨hb4, hc⟩
  rcases hc with ⟨a4, l4, n4, rfl, _, hs4⟩ | ⟨rfl, hno4⟩
  · exact absurd hs4 (snap_short (by rw [List.length_take]; omega) _ _)
  have HB4 := Lib.hid (HB3.out.trans (hb4.mono HB3.out.size))
  have HP4 := Lib.hid (HPRE.out.keep hb4 HPRE.out.lt)
  clear hb4 hno4 HPRE HB3 hsl hmk
  have p0 := HP4.out.cell k (by rw [HL.out]; exact hkl)
  have f0 := HP4.out.free k
  obtain ⟨y, hy⟩ : ∃ y, bs.getD k 0 = y := ⟨_, rfl⟩
  have hy256 : y < 256 := by
    rw [← hy, List.getD_eq_getElem?_getD, List.getElem?_eq_getElem (by rw [HL.out]; exact hkl)]
    exact HALL.out _ (List.getElem_mem _)
  rw [hy] at p0
  have HYV := Lib.hid hy
  have hxor : bits .xor .u8 (y : Int) (t : Int) = ((y ^^^ t : Nat) : Int) := u8_xor_nat y t hy256 ht
  obtain ⟨x, hx⟩ : ∃ x, y ^^^ t = x := ⟨_, rfl⟩
  have hx256 : x < 256 := by rw [← hx]; exact Nat.xor_lt_two_pow (n := 8) hy256 ht
  rw [hx] at hxor
  have HX := Lib.hid hx
  clear hy hx HYT
  go_upto_region 10 with fail
  obtain ⟨W5, hW5⟩ : ∃ z, z = w4.setCell ⟨g, k, none⟩ (.int .u8 (x : Int)) := ⟨_, rfl⟩
  have HP5 : Hid (Pre W5 g (bs.set k x)) := by show Pre _ _ _; rw [hW5]; exact HP4.out.set k x
  have HB5 : Hid (Below w.heap.size w W5) := by show Below _ _ _; rw [hW5]; exact HB4.out.setCell HG.out _
  rw [← hW5]
  clear hW5 p0 f0 HP4 HB4 hxor
  have HY5 : Hid (Byt W5 (some ⟨g, 0, none⟩) L cg (bs.set k x)) := by
    have h1 := HP5.out.byt (bs := bs.set k x) (fun z hz => by
      rcases List.mem_or_eq_of_mem_set hz with h | h
      · exact HALL.out z h
      · rw [h]; exact hx256) cg (by rw [List.length_set, HL.out]; exact hcg)
    rw [List.length_set, HL.out] at h1
    exact h1
  have hl5 : (bs.set k x).length ≤ 1048600 := by rw [List.length_set, HL.out]; exact hbl
  go_wp2_with fail
  refine (HC.out.read W5 (some ⟨g, 0, none⟩) L cg (bs.set k x) HY5.out hl5).mono ?_
  rintro e w6 ⟨hb6, hc⟩
  have HB6 := Lib.hid (HB5.out.trans (hb6.mono HB5.out.size))
  clear hb6
  by_cases ht0 : t = 0
  · have hsame : bs.set k x = bs := by
      have h1 : x = y := by rw [← HX.out, ht0, Nat.xor_zero]
      rw [h1, ← HYV.out, List.getD_eq_getElem?_getD, List.getElem?_eq_getElem (by rw [HL.out]; exact hkl)]
      exact List.set_getElem_self _
    have hsn := HSN.out
    rw [← hsame] at hsn
    rcases hc with ⟨a6, l6, n6, rfl, _, _⟩ | ⟨rfl, hno⟩
    · subst ht0
      have hd7 : ((0 : Int) == 0) = true := rfl
      go_wp2_with fail
      refine (HK.out w6).mono ?_
      rintro e w7 ⟨rfl, hb7⟩
      have HB7 := Lib.hid (HB6.out.trans (hb7.mono HB6.out.size))
      clear hb7
      go_wp2
      go_ret
      exact ⟨rfl, HB7.out⟩
    · exact absurd hsn (hno _ _)
  · have hne : x ≠ bs.getD k 0 := by
      rw [HYV.out]
      intro e
      have h1 := CrcMath.xor_eq_self (HX.out.trans e)
      exact ht0 h1
    have hno := snap_turned HSN.out (by rw [HL.out]; exact hbl) HALL.out (by rw [HL.out]; exact hkl) hx256 hne
    have hd7 : ((t : Int) == 0) = false := by rw [beq_eq_false_iff_ne]; omega
    rcases hc with ⟨a6, l6, n6, rfl, _, hs6⟩ | ⟨rfl, _⟩
    · exact absurd hs6 (hno _ _)
    · go_wp2_with fail
      refine (HK.out w6).mono ?_
      rintro e w7 ⟨rfl, hb7⟩
      have HB7 := Lib.hid (HB6.out.trans (hb7.mono HB6.out.size))
      clear hb7
      go_wp2
      go_ret
      exact ⟨rfl, HB7.out⟩
end Go.Proofs.YtgohekjkbgfeeaaGreat
