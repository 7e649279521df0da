/- Law 14's FoldStable, given what the code does. -/
import Derived.Test.YtipaebflkebdjaaKa13
import Derived.Test.YtipaebflkebdjaaKa14
import Derived.Test.YtipaebflkebdjaaKa4
import Derived.Test.YtipaebflkebdjaaKa3
namespace Go.Proofs.Ytipaebflkebdjaa
open Go.RowKit
open Go.FoMath
open Go.ProdMath
open Go.BatMath hiding AllB getD_lt take_all In64
set_option linter.unusedVariables false

theorem fo_end {start E : Int} {bs : List Bat} (h : RowD start bs) (h0 : 0 ≤ start) (hf : firstOpen bs ≠ -1) : stableD start bs = firstOpen bs ∧ firstOpen bs < endD start bs := by
 refine ⟨if_neg hf, ?_⟩
 rcases first_base bs with h1 | ⟨b, hb, h1⟩
 · exact absurd h1 hf
 · rw [h1]
   have := (row_chain h h0).1.base b hb
   omega
set_option maxRecDepth 100000 in
set_option maxHeartbeats 8000000 in
theorem foStable_any (C : FoCode) (K : ∀ W, Calls Try.prog 13 #[] W (GivesBool W true)) (w : World) (tad : Option Addr) (tlen tcap : Nat) (tz : List Int) (ht : Nums w tad tlen tz) (htl : tlen ≤ 140737488355328) (mk0 : Int) (hmk0 : In64 mk0) :
 Calls Try.prog 5 #[.slice tad tlen tcap, .int .i64 mk0] w (GivesBool w true) := by
 have HC := Lib.hid C
 have HK := Lib.hid K
 have HT := Lib.hid ht
 clear C K ht
 go_enter Try.func5, Try.ntmps5
 go_wp2_with fail
 refine (abRow_any w tad tlen tcap tz HT.out htl 20 (by decide)).mono ?_
 rintro e w1 ⟨ad, len, cap, ms, rfl, hba, hok, hrd, hlen, hb⟩
 have HM : Hid (FoBats w1 0 ad len cap ms) := ⟨hba, by omega, hrd, by decide, by decide⟩
 have HB1 := Lib.hid hb
 obtain ⟨en, hen⟩ : ∃ x, x = endD 0 (bats ms) := ⟨_, rfl⟩
 obtain ⟨st, hst⟩ : ∃ x, x = stableD 0 (bats ms) := ⟨_, rfl⟩
 have hbl : (bats ms).length = len := by unfold bats; rw [List.length_map]; exact hba.row.length
 have henb : 0 ≤ en ∧ en ≤ 320 := by
  have h1 := row_end hrd
  have h2 := (row_chain hrd (by decide)).2
  rw [hbl] at h1
  rw [hen]
  omega
 obtain ⟨he0, he1⟩ := henb
 have HEN := Lib.hid hen
 have HST := Lib.hid hst
 have HOKB := Lib.hid hok
 have HLE := Lib.hid (row_least hrd (by decide))
 have HFL : Hid ((foldP [] (bats ms)).length ≤ 20) := by
  show _ ≤ _
  have h1 := SnapMath.fold_len (bats ms) []
  rw [hbl, List.length_nil] at h1
  omega
 clear hba hrd hb hbl hen hst hok
 go_wp2_with fail
 refine (fold_any w1 ad len cap ms HM.out.at_ (by omega) HOKB.out).mono ?_
 rintro e w2 ⟨kt, ta, tn, tc, ps, dd, dn, dc, rfl, htab, hps, -, -, hb⟩
 have HTB := Lib.hid htab
 have HPS := Lib.hid hps
 have HB2 := Lib.hid (HB1.out.trans (hb.mono HB1.out.size))
 have HM2 := Lib.hid (HM.out.keep hb)
 have hpn : ps.length = tn := htab.tab.pds.row.length
 have hptn : tn ≤ 20 := by
  have h1 := HFL.out
  rw [← hps] at h1
  unfold pds at h1
  rw [List.length_map] at h1
  omega
 have HPN := Lib.hid hpn
 clear htab hps hb HM HB1 hpn HOKB
 go_wp2_with fail
 refine (HC.out.stable w2 0 ad len cap ms HM2.out).mono ?_
 rintro e w3 ⟨rfl, hb⟩
 rw [← HST.out]
 have HB3 := Lib.hid (HB2.out.trans (hb.mono HB2.out.size))
 have HM3 := Lib.hid (HM2.out.keep hb)
 have HT3 := Lib.hid (HTB.out.keep hb)
 clear hb HM2 HB2 HTB
 go_wp2_with fail
 refine (HC.out.end_ w3 0 ad len cap ms HM3.out).mono ?_
 rintro e w4 ⟨rfl, hb⟩
 rw [← HEN.out]
 have HB4 := Lib.hid (HB3.out.trans (hb.mono HB3.out.size))
 have HM4 := Lib.hid (HM3.out.keep hb)
 have HT4 := Lib.hid (HT3.out.keep hb)
 clear hb HM3 HB3 HT3
 go_wp2_with fail
 refine (tabOpen_any w4 kt ta tn tc ps HT4.out.tab (by omega)).mono ?_
 rintro e w5 ⟨v, hv, rfl, hb⟩
 rw [HPS.out] at hv
 have HB5 := Lib.hid (HB4.out.trans (hb.mono HB4.out.size))
 have HM5 := Lib.hid (HM4.out.keep hb)
 have HT5 := Lib.hid (HT4.out.keep hb)
 have hvf : v = firstOpen (bats ms) := least_one hv HLE.out
 have hlow := least_low hv
 have HV := Lib.hid hv
 have HVF := Lib.hid hvf
 clear hb HM4 HB4 HT4 hv hvf
 by_cases h0 : 0 ≤ v
 · have hd0 : decide (0 ≤ v) = true := decide_eq_true h0
   have HSV : Hid (st = v ∧ v < en) := by
    have h1 := fo_end (E := 0) HM5.out.row (by decide) (by rw [← HVF.out]; omega)
    rw [← HVF.out, ← HST.out, ← HEN.out] at h1
    exact h1
   have HEX : Hid (∃ p ∈ foldP [] (bats ms), p.opn = v) := by
    rcases HV.out with h1 | h1
    · omega
    · exact h1.2.1
   have t0 := HT5.out.tab.box.c0
   clear hlow
   go_wp2
   clear t0
   go_loopw [45] (fun v45 wr => ∃ j : Nat, v45 = .int .i64 (j : Int) ∧ j ≤ tn ∧ Hid (∀ q ∈ (pds ps).take j, q.opn ≠ v) ∧ Hid (Below w5.heap.size w5 wr)) (fun v45 _ => tn - (intOf v45).toNat)
   case atStart => exact ⟨0, rfl, Nat.zero_le _, (fun q hq => by cases hq), Below.refl _ _⟩
   case round =>
    obtain ⟨j, rfl, hj, HNO, HBB⟩ := hrel
    obtain ⟨wo, hwo⟩ : ∃ wo : World, wo = wr := ⟨_, rfl⟩
    subst hwo
    by_cases hlt : j < tn
    · have hdj : decide (j < tn) = true := decide_eq_true hlt
      have hjl : (j : Int) < (tn : Int) := by omega
      obtain ⟨bk, off, m, el, hbk, hm, hla, c0, c1, c2, c3⟩ := (HT5.out.keep HBB.out).tab.pds.get hlt
      subst el
      have hmp : (pds ps)[j]? = some m.p := by unfold pds; rw [List.getElem?_map, hm]; rfl
      have HTK : Hid ((pds ps).take (j + 1) = (pds ps).take j ++ [m.p]) := by show _ = _; rw [List.take_add_one, hmp]; rfl
      have HMEM : Hid (m.p ∈ foldP [] (bats ms)) := by show _ ∈ _; rw [← HPS.out]; exact List.mem_of_getElem? hmp
      obtain ⟨⟨pid, pep, pl, po⟩, pd, pc⟩ := m
      simp only at c0 c1 c2 c3 HTK HMEM
      obtain ⟨pn, hpn⟩ : ∃ n, n = pl.length := ⟨_, rfl⟩
      rw [← hpn] at c2
      clear hm hmp hla hbk hpn
      go_upto_region 10 with fail
      obtain ⟨W6, hW6⟩ : ∃ y, y = wo.alloc (.cells #[.int .i64 pid, .int .i64 pep, .slice pd pn pc, .int .i64 po] 48) := ⟨_, rfl⟩
      obtain ⟨P, hP⟩ : ∃ y, y = wo.heap.size := ⟨_, rfl⟩
      have hb6 : Below wo.heap.size wo W6 := by rw [hW6]; exact (Below.refl _ _).alloc (Nat.le_refl _) _
      have HP6 : Hid (PBox W6 P pid pep (.slice pd pn pc) po) := by show PBox _ _ _ _ _ _; rw [hW6, hP]; exact pbox_new wo _ _ _ _
      have HB6 := Lib.hid (HBB.out.trans (hb6.mono HBB.out.size))
      (try rw [← hW6, ← hP])
      clear hW6 hP hb6 c0 c1 c2 c3 HBB
      have r3 := HP6.out.c3
      by_cases hpo : po = v
      · have hdo : (po == v) = true := by rw [hpo]; exact beq_self_eq_true v
        have HPO := Lib.hid hpo
        go_upto_region 11 with fail
        clear r3 hdo hpo
        have KS : Hid (∀ V, Below W6.heap.size W6 V → (fun (V : World) => V.cell? ⟨P, 0, none⟩ = some (.int .i64 pid) ∧ V.cell? ⟨P, 1, none⟩ = some (.int .i64 pep)) V) := fun V hV => ⟨(HP6.out.on hV).c0, (HP6.out.on hV).c1⟩
        have hdrw : Below W6.heap.size W6 W6.drew := (Below.refl _ W6).drew
        refine wp_region_noPanic ?_
        refine wp_region_z [] (fun (V : World) => V.cell? ⟨P, 0, none⟩ = some (.int .i64 pid) ∧ V.cell? ⟨P, 1, none⟩ = some (.int .i64 pep)) (by kernel_rfl) ?_
        have hHeld := KS.out _ hdrw
        obtain ⟨u0, hu⟩ : ∃ u, u = W6.drew := ⟨_, rfl⟩
        rw [← hu] at hHeld hdrw
        rw [← hu]
        clear hu
        have HU := Lib.hid hdrw
        clear hdrw
        refine zt 0 ?_
        refine zt 1 ?_
        refine zt 2 ?_
        refine zt 3 ?_
        refine zt 4 ?_
        refine zt 5 ?_
        refine wpAnyZ_ready (rs := [6, 9]) (by kernel_rfl) (by simp) ?_
        refine AllReadyZ.cons (o := ⟨_, _, _, _, _, _⟩) rfl (fun C hC => ?_) (AllReadyZ.cons (o := ⟨_, _, _, _, _, _⟩) rfl (fun C hC => ?_) AllReadyZ.nil)
        · go_simp
          refine (within_any mk0 1 u0 hmk0 ⟨by decide, by decide⟩).mono ?_
          rintro e uq ⟨q, rfl, hq, rfl⟩
          obtain ⟨mk, hmk⟩ : ∃ mk : Int, mk = 1 + (q : Int) := ⟨_, rfl⟩
          have hmk1 : mk = 1 ∨ mk = 2 := by omega
          have hmw : IntKind.i64.wrap (1 + (q : Int)) = mk := by rw [IntKind.wrap_i64]; omega
          have HMK := Lib.hid hmk1
          clear hmk hmk1 hq
          have hHeld := KS.out _ HU.out
          refine zc hC hHeld ?_
          clear hC C
          refine zt 7 ?_
          refine zt 8 ?_
          refine zr 9 (fun C hC => ?_)
          go_simp
          obtain ⟨u2, hu2⟩ : ∃ z, z = u0.alloc (.cells #[.int .i64 0, .int .i64 0, .int .i64 0, .int .i64 0, .bool false, .int .i64 0, .slice none 0 0] 52) := ⟨_, rfl⟩
          obtain ⟨M, hM⟩ : ∃ z, z = u0.heap.size := ⟨_, rfl⟩
          have HX2 : Hid (BoxAt u2 M 0 0 0 0 false 0 (.slice none 0 0)) := by show BoxAt _ _ _ _ _ _ _ _ _; rw [hu2, hM]; exact boxAt_new u0 _ _ _ _ _ _ _
          have HU2 : Hid (Below W6.heap.size W6 u2) := by show Below _ _ _; rw [hu2]; exact HU.out.trans ((Below.refl _ _).alloc HU.out.size _)
          have HMW : Hid (W6.heap.size ≤ M) := by show _ ≤ _; rw [hM]; exact HU.out.size
          try rw [← hu2, ← hM]
          clear hu2 hM
          have hHeld := KS.out _ HU2.out
          refine zc hC hHeld ?_
          clear hC C
          have m0 := HX2.out.c0
          have n0 := HX2.out.free 0
          have m1 := HX2.out.c1
          have n1 := HX2.out.free 1
          have m2 := HX2.out.c2
          have n2 := HX2.out.free 2
          have m3 := HX2.out.c3
          have n3 := HX2.out.free 3
          have m4 := HX2.out.c4
          have n4 := HX2.out.free 4
          have m5 := HX2.out.c5
          have n5 := HX2.out.free 5
          have m6 := HX2.out.c6
          have n6 := HX2.out.free 6
          refine zr 10 (fun C hC => ?_)
          go_simp
          obtain ⟨u3, hu3⟩ : ∃ z, z = ((((((u2.setCell ⟨M, 0, none⟩ (.int .i64 en)).setCell ⟨M, 1, none⟩ (.int .i64 pid)).setCell ⟨M, 2, none⟩ (.int .i64 pep)).setCell ⟨M, 3, none⟩ (.int .i64 (-1))).setCell ⟨M, 4, none⟩ (.bool true)).setCell ⟨M, 5, none⟩ (.int .i64 mk)).setCell ⟨M, 6, none⟩ (.slice none 0 0) := ⟨_, rfl⟩
          have HX3 : Hid (BoxAt u3 M en pid pep (-1) true mk (.slice none 0 0)) := by show BoxAt _ _ _ _ _ _ _ _ _; rw [hu3]; exact ((((((HX2.out.s0 _).s1 _).s2 _).s3 _).s4 _).s5 _).s6 _
          have HU3 : Hid (Below W6.heap.size W6 u3) := by show Below _ _ _; rw [hu3]; exact ((((((HU2.out.setCell HMW.out _).setCell HMW.out _).setCell HMW.out _).setCell HMW.out _).setCell HMW.out _).setCell HMW.out _).setCell HMW.out _
          rw [← hu3]
          clear hu3 m0 m1 m2 m3 m4 m5 m6 n0 n1 n2 n3 n4 n5 n6 HX2 HU2
          have hHeld := KS.out _ HU3.out
          refine zc hC hHeld ?_
          clear hC C
          refine wpAnyZ_done (by kernel_rfl) ?_ _
          refine NoPanic.normal ?_
          clear hHeld KS hmw
          have HB5u : Hid (Below w5.heap.size w5 u3) := HB6.out.trans (HU3.out.mono HB6.out.size)
          have HMU := Lib.hid (HM5.out.keep HB5u.out)
          have HBU : Hid (Below w.heap.size w u3) := HB5.out.trans (HB5u.out.mono HB5.out.size)
          have HMSL : Hid (ms.length ≤ 20) := by show _ ≤ _; rw [HMU.out.at_.row.length]; exact hlen
          have KS2 : Hid (∀ V, Below u3.heap.size u3 V → (fun (V : World) => V.cell? ⟨M, 0, none⟩ = some (.int .i64 en) ∧ V.cell? ⟨M, 1, none⟩ = some (.int .i64 pid) ∧ V.cell? ⟨M, 2, none⟩ = some (.int .i64 pep) ∧ V.cell? ⟨M, 3, none⟩ = some (.int .i64 (-1)) ∧ V.cell? ⟨M, 4, none⟩ = some (.bool true) ∧ V.cell? ⟨M, 5, none⟩ = some (.int .i64 mk) ∧ V.cell? ⟨M, 6, none⟩ = some (.slice none 0 0)) V) := fun V hV => ⟨(HX3.out.on hV).c0, (HX3.out.on hV).c1, (HX3.out.on hV).c2, (HX3.out.on hV).c3, (HX3.out.on hV).c4, (HX3.out.on hV).c5, (HX3.out.on hV).c6⟩
          have hdrw : Below u3.heap.size u3 u3.drew := (Below.refl _ u3).drew
          clear HB5u HU3 HU HP6
          go_upto_region 12 with fail
          refine wp_region_noPanic ?_
          refine wp_region_z [] (fun (V : World) => V.cell? ⟨M, 0, none⟩ = some (.int .i64 en) ∧ V.cell? ⟨M, 1, none⟩ = some (.int .i64 pid) ∧ V.cell? ⟨M, 2, none⟩ = some (.int .i64 pep) ∧ V.cell? ⟨M, 3, none⟩ = some (.int .i64 (-1)) ∧ V.cell? ⟨M, 4, none⟩ = some (.bool true) ∧ V.cell? ⟨M, 5, none⟩ = some (.int .i64 mk) ∧ V.cell? ⟨M, 6, none⟩ = some (.slice none 0 0)) (by kernel_rfl) ?_
          have hHeld : (fun (V : World) => V.cell? ⟨M, 0, none⟩ = some (.int .i64 en) ∧ V.cell? ⟨M, 1, none⟩ = some (.int .i64 pid) ∧ V.cell? ⟨M, 2, none⟩ = some (.int .i64 pep) ∧ V.cell? ⟨M, 3, none⟩ = some (.int .i64 (-1)) ∧ V.cell? ⟨M, 4, none⟩ = some (.bool true) ∧ V.cell? ⟨M, 5, none⟩ = some (.int .i64 mk) ∧ V.cell? ⟨M, 6, none⟩ = some (.slice none 0 0)) _ := KS2.out _ hdrw
          obtain ⟨x0, hu⟩ : ∃ u, u = u3.drew := ⟨_, rfl⟩
          rw [← hu] at hHeld hdrw
          rw [← hu]
          clear hu
          have HU := Lib.hid hdrw
          clear hdrw
          refine zt 1 ?_
          refine zt 3 ?_
          refine wpAnyZ_ready (rs := [0, 4]) (by kernel_rfl) (by simp) ?_
          refine AllReadyZ.cons (o := ⟨_, _, _, _, _, _⟩) rfl (fun C hC => ?_) (AllReadyZ.cons (o := ⟨_, _, _, _, _, _⟩) rfl (fun C hC => ?_) AllReadyZ.nil)
          · go_simp
            obtain ⟨x1, hu⟩ : ∃ z, z = x0.alloc (.cells #[] 52) := ⟨_, rfl⟩
            obtain ⟨g0, hg⟩ : ∃ z, z = x0.heap.size := ⟨_, rfl⟩
            have hbb : Below x0.heap.size x0 x1 := by rw [hu]; exact (Below.refl _ _).alloc (Nat.le_refl _) _
            have HO : Hid (OwnRow batK x1 u3.heap.size (.slice (some ⟨g0, 0, none⟩) 0 0) []) := by show OwnRow _ _ _ _ _; rw [hu, hg]; exact ownRow_lit batK_ok x0 _ [] HU.out.size (by simp) _ rfl 0 rfl
            have HG0 : Hid (g0 < x1.heap.size) := (HO.out.lt g0 rfl).2
            replace HU := Lib.hid (HU.out.trans (hbb.mono HU.out.size))
            (try rw [← hu, ← hg])
            clear hu hg hbb
            have hHeld : (fun (V : World) => V.cell? ⟨M, 0, none⟩ = some (.int .i64 en) ∧ V.cell? ⟨M, 1, none⟩ = some (.int .i64 pid) ∧ V.cell? ⟨M, 2, none⟩ = some (.int .i64 pep) ∧ V.cell? ⟨M, 3, none⟩ = some (.int .i64 (-1)) ∧ V.cell? ⟨M, 4, none⟩ = some (.bool true) ∧ V.cell? ⟨M, 5, none⟩ = some (.int .i64 mk) ∧ V.cell? ⟨M, 6, none⟩ = some (.slice none 0 0)) x1 := KS2.out _ HU.out
            refine zc hC hHeld ?_
            clear hC C
            refine wpAnyZ_ready (rs := [2, 4]) (by kernel_rfl) (by simp) ?_
            refine AllReadyZ.cons (o := ⟨_, _, _, _, _, _⟩) rfl (fun C hC => ?_) (AllReadyZ.cons (o := ⟨_, _, _, _, _, _⟩) rfl (fun C hC => ?_) AllReadyZ.nil)
            · refine held_row (by rfl) batK_ok (.tmp 62) (.tmp 63) rfl u3.heap.size [] ms _ rfl HO.out HU.out.size ad len cap rfl (HMU.out.at_.row.keep HU.out) (by simp only [List.length_nil]; omega) ?_
              rintro v2 x2 hap
              replace HU := Lib.hid (HU.out.grown hap.2.1 HU.out.size (fun q hq => (HO.out.lt q hq).1))
              have HO2 := Lib.hid hap.1
              (try rw [List.nil_append] at HO2)
              clear hap HO
              have hHeld : (fun (V : World) => V.cell? ⟨M, 0, none⟩ = some (.int .i64 en) ∧ V.cell? ⟨M, 1, none⟩ = some (.int .i64 pid) ∧ V.cell? ⟨M, 2, none⟩ = some (.int .i64 pep) ∧ V.cell? ⟨M, 3, none⟩ = some (.int .i64 (-1)) ∧ V.cell? ⟨M, 4, none⟩ = some (.bool true) ∧ V.cell? ⟨M, 5, none⟩ = some (.int .i64 mk) ∧ V.cell? ⟨M, 6, none⟩ = some (.slice none 0 0)) x2 := KS2.out _ HU.out
              refine zc hC hHeld ?_
              clear hC C
              refine zr 4 (fun C hC => ?_)
              go_simp
              obtain ⟨x3, hu⟩ : ∃ z, z = x2.alloc (.cells #[.int .i64 en, .int .i64 pid, .int .i64 pep, .int .i64 (-1), .bool true, .int .i64 mk, .slice none 0 0] 52) := ⟨_, rfl⟩
              obtain ⟨q4, hg⟩ : ∃ z, z = x2.heap.size := ⟨_, rfl⟩
              have hbb : Below x2.heap.size x2 x3 := by rw [hu]; exact (Below.refl _ _).alloc (Nat.le_refl _) _
              have HLIT : Hid (RowAt batK x3 (some ⟨q4, 0, none⟩) 1 1 [(⟨⟨en, pid, pep, -1, true, mk, []⟩, none, 0⟩ : BM)]) := by show RowAt _ _ _ _ _ _; rw [hu, hg]; exact rowAt_lit batK_ok x2 [(⟨⟨en, pid, pep, -1, true, mk, []⟩, none, 0⟩ : BM)] (by simp) _ rfl 1 rfl
              replace HO2 := Lib.hid (HO2.out.on hbb)
              replace HU := Lib.hid (HU.out.trans (hbb.mono HU.out.size))
              (try rw [← hu, ← hg])
              clear hu hg hbb
              have hHeld : (fun (V : World) => V.cell? ⟨M, 0, none⟩ = some (.int .i64 en) ∧ V.cell? ⟨M, 1, none⟩ = some (.int .i64 pid) ∧ V.cell? ⟨M, 2, none⟩ = some (.int .i64 pep) ∧ V.cell? ⟨M, 3, none⟩ = some (.int .i64 (-1)) ∧ V.cell? ⟨M, 4, none⟩ = some (.bool true) ∧ V.cell? ⟨M, 5, none⟩ = some (.int .i64 mk) ∧ V.cell? ⟨M, 6, none⟩ = some (.slice none 0 0)) x3 := KS2.out _ HU.out
              refine zc hC hHeld ?_
              clear hC C
              refine zr 5 (fun C hC => ?_)
              refine held_row (by rfl) batK_ok (.tmp 64) (.tmp 66) rfl u3.heap.size ms [(⟨⟨en, pid, pep, -1, true, mk, []⟩, none, 0⟩ : BM)] _ rfl HO2.out HU.out.size (some ⟨q4, 0, none⟩) 1 1 rfl HLIT.out (by have := HMSL.out; omega) ?_
              rintro v5 x4 hap
              obtain ⟨n5, hn5⟩ : ∃ n, (ms ++ [(⟨⟨en, pid, pep, -1, true, mk, []⟩, none, 0⟩ : BM)]).length = n := ⟨_, rfl⟩
              obtain ⟨ad5, cap5, hv5, hr5, hk5⟩ := OwnRow.row batK_ok hap.1 hn5
              subst hv5
              replace HU := Lib.hid (HU.out.grown hap.2.1 HU.out.size (fun q hq => (HO2.out.lt q hq).1))
              have HR5 := Lib.hid hr5
              have HN5 := Lib.hid hn5
              clear hap hr5 hk5 hn5 HO2 HLIT
              have hHeld : (fun (V : World) => V.cell? ⟨M, 0, none⟩ = some (.int .i64 en) ∧ V.cell? ⟨M, 1, none⟩ = some (.int .i64 pid) ∧ V.cell? ⟨M, 2, none⟩ = some (.int .i64 pep) ∧ V.cell? ⟨M, 3, none⟩ = some (.int .i64 (-1)) ∧ V.cell? ⟨M, 4, none⟩ = some (.bool true) ∧ V.cell? ⟨M, 5, none⟩ = some (.int .i64 mk) ∧ V.cell? ⟨M, 6, none⟩ = some (.slice none 0 0)) x4 := KS2.out _ HU.out
              refine zc hC hHeld ?_
              clear hC C
              refine zt 6 ?_
              refine wpAnyZ_done (by kernel_rfl) ?_ _
              refine NoPanic.normal ?_
              clear hHeld KS2
              have hb5 : bats (ms ++ [(⟨⟨en, pid, pep, -1, true, mk, []⟩, none, 0⟩ : BM)]) = bats ms ++ [⟨endD 0 (bats ms), pid, pep, -1, true, mk, []⟩] := by unfold bats; rw [List.map_append, HEN.out]; rfl
              have hrm : RowD 0 (bats ms ++ [⟨endD 0 (bats ms), pid, pep, -1, true, mk, []⟩]) := row_marker HMU.out.row HMEM.out (by show 0 ≤ po; rw [HPO.out]; exact h0) HMK.out (by rw [← HEN.out]; omega)
              have hn5 : n5 = len + 1 := by
               have h5 := HN5.out
               have h6 := HMU.out.at_.row.length
               rw [List.length_append, h6, List.length_singleton] at h5
               omega
              have HMF : Hid (FoBats x4 0 ad5 n5 cap5 (ms ++ [(⟨⟨en, pid, pep, -1, true, mk, []⟩, none, 0⟩ : BM)])) := ⟨⟨HR5.out, fun m hm => by
               rcases List.mem_append.1 hm with hm | hm
               · exact (HMU.out.keep HU.out).at_.ins m hm
               · rw [List.mem_singleton.1 hm]; exact recsAt_nil _⟩, by omega, by rw [hb5]; exact hrm, by decide, by decide⟩
              have HE2 : Hid (endD 0 (bats (ms ++ [(⟨⟨en, pid, pep, -1, true, mk, []⟩, none, 0⟩ : BM)])) = en + 1) := by
               show _ = _
               rw [hb5, end_last (b := ⟨endD 0 (bats ms), pid, pep, -1, true, mk, []⟩) (by simp)]
               have h7 : countD ⟨endD 0 (bats ms), pid, pep, -1, true, mk, []⟩ = 1 := by
                unfold countD
                rw [if_pos (by have := HMK.out; simp only; omega)]
               rw [h7, HEN.out]
              have HS2 : Hid (st < stableD 0 (bats (ms ++ [(⟨⟨en, pid, pep, -1, true, mk, []⟩, none, 0⟩ : BM)]))) := by
               show _ < _
               rw [HSV.out.1, HVF.out, hb5, stable_st]
               refine stable_moves (E := endD 0 (bats ms)) (k := pid) (by have := HMK.out; simp only; omega) rfl (Int.le_refl _) ?_ (row_chain HMU.out.row (by decide)).1 (by rw [← HVF.out]; omega) ?_
               · have h8 := HE2.out
                 rw [hb5] at h8
                 rw [h8, HEN.out]
                 show endD 0 (bats ms) < _
                 omega
               · have h9 := opn_p (fun b hb => ⟨(HMU.out.foRow.ok b hb).1, (HMU.out.foRow.few b hb).1⟩) HMEM.out ((SnapMath.AccOk.right (SnapMath.row_acc HMU.out.row (by decide) (by decide)) _ HMEM.out).1.1)
                 rw [← h9, ← HVF.out]
                 exact HPO.out
              have hsv : (st == v) = true := by rw [HSV.out.1]; exact beq_self_eq_true v
              have hse : decide (st < en) = true := decide_eq_true (by rw [HSV.out.1]; exact HSV.out.2)
              obtain ⟨s2, hs2⟩ : ∃ x, x = stableD 0 (bats (ms ++ [(⟨⟨en, pid, pep, -1, true, mk, []⟩, none, 0⟩ : BM)])) := ⟨_, rfl⟩
              have hss : decide (st < s2) = true := decide_eq_true (by rw [hs2]; exact HS2.out)
              have HSE := Lib.hid hs2
              have hee : ((en + 1) == (en + 1)) = true := beq_self_eq_true _
              have hew : wrap64 (en + 1) = en + 1 := by unfold wrap64; omega
              have HBF : Hid (Below w.heap.size w x4) := HBU.out.trans (HU.out.mono HBU.out.size)
              clear hb5 hrm hn5 hs2 HU HR5 HN5 HNO HTK
              go_wp2_with fail
              refine (HC.out.stable x4 0 ad5 n5 cap5 _ HMF.out).mono ?_
              rintro e y1 ⟨rfl, hb⟩
              rw [← HSE.out]
              have HBF1 := Lib.hid (HBF.out.trans (hb.mono HBF.out.size))
              have HMF1 := Lib.hid (HMF.out.keep hb)
              clear hb
              go_wp2_with fail
              refine (HC.out.end_ y1 0 ad5 n5 cap5 _ HMF1.out).mono ?_
              rintro e y2 ⟨rfl, hb⟩
              rw [HE2.out]
              have HBF2 := Lib.hid (HBF1.out.trans (hb.mono HBF1.out.size))
              clear hb
              go_wp2_with fail
              refine (HK.out y2).mono ?_
              rintro e y3 ⟨rfl, hb⟩
              have HBF3 := Lib.hid (HBF2.out.trans (hb.mono HBF2.out.size))
              clear hb
              go_wp2
              go_ret
              exact ⟨rfl, HBF3.out⟩
            · go_simp
              obtain ⟨x5, hu⟩ : ∃ z, z = x1.alloc (.cells #[.int .i64 en, .int .i64 pid, .int .i64 pep, .int .i64 (-1), .bool true, .int .i64 mk, .slice none 0 0] 52) := ⟨_, rfl⟩
              obtain ⟨q4, hg⟩ : ∃ z, z = x1.heap.size := ⟨_, rfl⟩
              have hbb : Below x1.heap.size x1 x5 := by rw [hu]; exact (Below.refl _ _).alloc (Nat.le_refl _) _
              have HLIT : Hid (RowAt batK x5 (some ⟨q4, 0, none⟩) 1 1 [(⟨⟨en, pid, pep, -1, true, mk, []⟩, none, 0⟩ : BM)]) := by show RowAt _ _ _ _ _ _; rw [hu, hg]; exact rowAt_lit batK_ok x1 [(⟨⟨en, pid, pep, -1, true, mk, []⟩, none, 0⟩ : BM)] (by simp) _ rfl 1 rfl
              have HNE : Hid (g0 ≠ q4) := by show _ ≠ _; rw [hg]; exact Nat.ne_of_lt HG0.out
              replace HO := Lib.hid (HO.out.on hbb)
              replace HU := Lib.hid (HU.out.trans (hbb.mono HU.out.size))
              (try rw [← hu, ← hg])
              clear hu hg hbb
              have hHeld : (fun (V : World) => V.cell? ⟨M, 0, none⟩ = some (.int .i64 en) ∧ V.cell? ⟨M, 1, none⟩ = some (.int .i64 pid) ∧ V.cell? ⟨M, 2, none⟩ = some (.int .i64 pep) ∧ V.cell? ⟨M, 3, none⟩ = some (.int .i64 (-1)) ∧ V.cell? ⟨M, 4, none⟩ = some (.bool true) ∧ V.cell? ⟨M, 5, none⟩ = some (.int .i64 mk) ∧ V.cell? ⟨M, 6, none⟩ = some (.slice none 0 0)) x5 := KS2.out _ HU.out
              refine zc hC hHeld ?_
              clear hC C
              refine zr 2 (fun C hC => ?_)
              refine held_row (by rfl) batK_ok (.tmp 62) (.tmp 63) rfl u3.heap.size [] ms _ rfl HO.out HU.out.size ad len cap rfl (HMU.out.at_.row.keep HU.out) (by simp only [List.length_nil]; omega) ?_
              rintro v2 x6 hap
              replace HLIT := Lib.hid (HLIT.out.grown hap.2.1 (fun a ha e => by cases ha; exact HNE.out (Option.some.inj e).symm))
              replace HU := Lib.hid (HU.out.grown hap.2.1 HU.out.size (fun q hq => (HO.out.lt q hq).1))
              have HO2 := Lib.hid hap.1
              (try rw [List.nil_append] at HO2)
              clear hap HO
              have hHeld : (fun (V : World) => V.cell? ⟨M, 0, none⟩ = some (.int .i64 en) ∧ V.cell? ⟨M, 1, none⟩ = some (.int .i64 pid) ∧ V.cell? ⟨M, 2, none⟩ = some (.int .i64 pep) ∧ V.cell? ⟨M, 3, none⟩ = some (.int .i64 (-1)) ∧ V.cell? ⟨M, 4, none⟩ = some (.bool true) ∧ V.cell? ⟨M, 5, none⟩ = some (.int .i64 mk) ∧ V.cell? ⟨M, 6, none⟩ = some (.slice none 0 0)) x6 := KS2.out _ HU.out
              refine zc hC hHeld ?_
              clear hC C
              refine zr 5 (fun C hC => ?_)
              refine held_row (by rfl) batK_ok (.tmp 64) (.tmp 66) rfl u3.heap.size ms [(⟨⟨en, pid, pep, -1, true, mk, []⟩, none, 0⟩ : BM)] _ rfl HO2.out HU.out.size (some ⟨q4, 0, none⟩) 1 1 rfl HLIT.out (by have := HMSL.out; omega) ?_
              rintro v5 x7 hap
              obtain ⟨n5, hn5⟩ : ∃ n, (ms ++ [(⟨⟨en, pid, pep, -1, true, mk, []⟩, none, 0⟩ : BM)]).length = n := ⟨_, rfl⟩
              obtain ⟨ad5, cap5, hv5, hr5, hk5⟩ := OwnRow.row batK_ok hap.1 hn5
              subst hv5
              replace HU := Lib.hid (HU.out.grown hap.2.1 HU.out.size (fun q hq => (HO2.out.lt q hq).1))
              have HR5 := Lib.hid hr5
              have HN5 := Lib.hid hn5
              clear hap hr5 hk5 hn5 HO2 HLIT
              have hHeld : (fun (V : World) => V.cell? ⟨M, 0, none⟩ = some (.int .i64 en) ∧ V.cell? ⟨M, 1, none⟩ = some (.int .i64 pid) ∧ V.cell? ⟨M, 2, none⟩ = some (.int .i64 pep) ∧ V.cell? ⟨M, 3, none⟩ = some (.int .i64 (-1)) ∧ V.cell? ⟨M, 4, none⟩ = some (.bool true) ∧ V.cell? ⟨M, 5, none⟩ = some (.int .i64 mk) ∧ V.cell? ⟨M, 6, none⟩ = some (.slice none 0 0)) x7 := KS2.out _ HU.out
              refine zc hC hHeld ?_
              clear hC C
              refine zt 6 ?_
              refine wpAnyZ_done (by kernel_rfl) ?_ _
              refine NoPanic.normal ?_
              clear hHeld KS2
              have hb5 : bats (ms ++ [(⟨⟨en, pid, pep, -1, true, mk, []⟩, none, 0⟩ : BM)]) = bats ms ++ [⟨endD 0 (bats ms), pid, pep, -1, true, mk, []⟩] := by unfold bats; rw [List.map_append, HEN.out]; rfl
              have hrm : RowD 0 (bats ms ++ [⟨endD 0 (bats ms), pid, pep, -1, true, mk, []⟩]) := row_marker HMU.out.row HMEM.out (by show 0 ≤ po; rw [HPO.out]; exact h0) HMK.out (by rw [← HEN.out]; omega)
              have hn5 : n5 = len + 1 := by
               have h5 := HN5.out
               have h6 := HMU.out.at_.row.length
               rw [List.length_append, h6, List.length_singleton] at h5
               omega
              have HMF : Hid (FoBats x7 0 ad5 n5 cap5 (ms ++ [(⟨⟨en, pid, pep, -1, true, mk, []⟩, none, 0⟩ : BM)])) := ⟨⟨HR5.out, fun m hm => by
               rcases List.mem_append.1 hm with hm | hm
               · exact (HMU.out.keep HU.out).at_.ins m hm
               · rw [List.mem_singleton.1 hm]; exact recsAt_nil _⟩, by omega, by rw [hb5]; exact hrm, by decide, by decide⟩
              have HE2 : Hid (endD 0 (bats (ms ++ [(⟨⟨en, pid, pep, -1, true, mk, []⟩, none, 0⟩ : BM)])) = en + 1) := by
               show _ = _
               rw [hb5, end_last (b := ⟨endD 0 (bats ms), pid, pep, -1, true, mk, []⟩) (by simp)]
               have h7 : countD ⟨endD 0 (bats ms), pid, pep, -1, true, mk, []⟩ = 1 := by
                unfold countD
                rw [if_pos (by have := HMK.out; simp only; omega)]
               rw [h7, HEN.out]
              have HS2 : Hid (st < stableD 0 (bats (ms ++ [(⟨⟨en, pid, pep, -1, true, mk, []⟩, none, 0⟩ : BM)]))) := by
               show _ < _
               rw [HSV.out.1, HVF.out, hb5, stable_st]
               refine stable_moves (E := endD 0 (bats ms)) (k := pid) (by have := HMK.out; simp only; omega) rfl (Int.le_refl _) ?_ (row_chain HMU.out.row (by decide)).1 (by rw [← HVF.out]; omega) ?_
               · have h8 := HE2.out
                 rw [hb5] at h8
                 rw [h8, HEN.out]
                 show endD 0 (bats ms) < _
                 omega
               · have h9 := opn_p (fun b hb => ⟨(HMU.out.foRow.ok b hb).1, (HMU.out.foRow.few b hb).1⟩) HMEM.out ((SnapMath.AccOk.right (SnapMath.row_acc HMU.out.row (by decide) (by decide)) _ HMEM.out).1.1)
                 rw [← h9, ← HVF.out]
                 exact HPO.out
              have hsv : (st == v) = true := by rw [HSV.out.1]; exact beq_self_eq_true v
              have hse : decide (st < en) = true := decide_eq_true (by rw [HSV.out.1]; exact HSV.out.2)
              obtain ⟨s2, hs2⟩ : ∃ x, x = stableD 0 (bats (ms ++ [(⟨⟨en, pid, pep, -1, true, mk, []⟩, none, 0⟩ : BM)])) := ⟨_, rfl⟩
              have hss : decide (st < s2) = true := decide_eq_true (by rw [hs2]; exact HS2.out)
              have HSE := Lib.hid hs2
              have hee : ((en + 1) == (en + 1)) = true := beq_self_eq_true _
              have hew : wrap64 (en + 1) = en + 1 := by unfold wrap64; omega
              have HBF : Hid (Below w.heap.size w x7) := HBU.out.trans (HU.out.mono HBU.out.size)
              clear hb5 hrm hn5 hs2 HU HR5 HN5 HNO HTK
              go_wp2_with fail
              refine (HC.out.stable x7 0 ad5 n5 cap5 _ HMF.out).mono ?_
              rintro e y1 ⟨rfl, hb⟩
              rw [← HSE.out]
              have HBF1 := Lib.hid (HBF.out.trans (hb.mono HBF.out.size))
              have HMF1 := Lib.hid (HMF.out.keep hb)
              clear hb
              go_wp2_with fail
              refine (HC.out.end_ y1 0 ad5 n5 cap5 _ HMF1.out).mono ?_
              rintro e y2 ⟨rfl, hb⟩
              rw [HE2.out]
              have HBF2 := Lib.hid (HBF1.out.trans (hb.mono HBF1.out.size))
              clear hb
              go_wp2_with fail
              refine (HK.out y2).mono ?_
              rintro e y3 ⟨rfl, hb⟩
              have HBF3 := Lib.hid (HBF2.out.trans (hb.mono HBF2.out.size))
              clear hb
              go_wp2
              go_ret
              exact ⟨rfl, HBF3.out⟩
          · go_simp
            obtain ⟨x8, hu⟩ : ∃ z, z = x0.alloc (.cells #[.int .i64 en, .int .i64 pid, .int .i64 pep, .int .i64 (-1), .bool true, .int .i64 mk, .slice none 0 0] 52) := ⟨_, rfl⟩
            obtain ⟨q4, hg⟩ : ∃ z, z = x0.heap.size := ⟨_, rfl⟩
            have hbb : Below x0.heap.size x0 x8 := by rw [hu]; exact (Below.refl _ _).alloc (Nat.le_refl _) _
            have HLIT : Hid (RowAt batK x8 (some ⟨q4, 0, none⟩) 1 1 [(⟨⟨en, pid, pep, -1, true, mk, []⟩, none, 0⟩ : BM)]) := by show RowAt _ _ _ _ _ _; rw [hu, hg]; exact rowAt_lit batK_ok x0 [(⟨⟨en, pid, pep, -1, true, mk, []⟩, none, 0⟩ : BM)] (by simp) _ rfl 1 rfl
            have HQ4 : Hid (q4 < x8.heap.size) := by show _ < _; rw [hu, hg]; simp
            replace HU := Lib.hid (HU.out.trans (hbb.mono HU.out.size))
            (try rw [← hu, ← hg])
            clear hu hg hbb
            have hHeld : (fun (V : World) => V.cell? ⟨M, 0, none⟩ = some (.int .i64 en) ∧ V.cell? ⟨M, 1, none⟩ = some (.int .i64 pid) ∧ V.cell? ⟨M, 2, none⟩ = some (.int .i64 pep) ∧ V.cell? ⟨M, 3, none⟩ = some (.int .i64 (-1)) ∧ V.cell? ⟨M, 4, none⟩ = some (.bool true) ∧ V.cell? ⟨M, 5, none⟩ = some (.int .i64 mk) ∧ V.cell? ⟨M, 6, none⟩ = some (.slice none 0 0)) x8 := KS2.out _ HU.out
            refine zc hC hHeld ?_
            clear hC C
            refine zr 0 (fun C hC => ?_)
            go_simp
            obtain ⟨x9, hu⟩ : ∃ z, z = x8.alloc (.cells #[] 52) := ⟨_, rfl⟩
            obtain ⟨g0, hg⟩ : ∃ z, z = x8.heap.size := ⟨_, rfl⟩
            have hbb : Below x8.heap.size x8 x9 := by rw [hu]; exact (Below.refl _ _).alloc (Nat.le_refl _) _
            have HO : Hid (OwnRow batK x9 u3.heap.size (.slice (some ⟨g0, 0, none⟩) 0 0) []) := by show OwnRow _ _ _ _ _; rw [hu, hg]; exact ownRow_lit batK_ok x8 _ [] HU.out.size (by simp) _ rfl 0 rfl
            have HNE : Hid (g0 ≠ q4) := by show _ ≠ _; rw [hg]; exact Nat.ne_of_gt HQ4.out
            replace HLIT := Lib.hid (HLIT.out.keep hbb)
            replace HU := Lib.hid (HU.out.trans (hbb.mono HU.out.size))
            (try rw [← hu, ← hg])
            clear hu hg hbb
            have hHeld : (fun (V : World) => V.cell? ⟨M, 0, none⟩ = some (.int .i64 en) ∧ V.cell? ⟨M, 1, none⟩ = some (.int .i64 pid) ∧ V.cell? ⟨M, 2, none⟩ = some (.int .i64 pep) ∧ V.cell? ⟨M, 3, none⟩ = some (.int .i64 (-1)) ∧ V.cell? ⟨M, 4, none⟩ = some (.bool true) ∧ V.cell? ⟨M, 5, none⟩ = some (.int .i64 mk) ∧ V.cell? ⟨M, 6, none⟩ = some (.slice none 0 0)) x9 := KS2.out _ HU.out
            refine zc hC hHeld ?_
            clear hC C
            refine zr 2 (fun C hC => ?_)
            refine held_row (by rfl) batK_ok (.tmp 62) (.tmp 63) rfl u3.heap.size [] ms _ rfl HO.out HU.out.size ad len cap rfl (HMU.out.at_.row.keep HU.out) (by simp only [List.length_nil]; omega) ?_
            rintro v2 x10 hap
            replace HLIT := Lib.hid (HLIT.out.grown hap.2.1 (fun a ha e => by cases ha; exact HNE.out (Option.some.inj e).symm))
            replace HU := Lib.hid (HU.out.grown hap.2.1 HU.out.size (fun q hq => (HO.out.lt q hq).1))
            have HO2 := Lib.hid hap.1
            (try rw [List.nil_append] at HO2)
            clear hap HO
            have hHeld : (fun (V : World) => V.cell? ⟨M, 0, none⟩ = some (.int .i64 en) ∧ V.cell? ⟨M, 1, none⟩ = some (.int .i64 pid) ∧ V.cell? ⟨M, 2, none⟩ = some (.int .i64 pep) ∧ V.cell? ⟨M, 3, none⟩ = some (.int .i64 (-1)) ∧ V.cell? ⟨M, 4, none⟩ = some (.bool true) ∧ V.cell? ⟨M, 5, none⟩ = some (.int .i64 mk) ∧ V.cell? ⟨M, 6, none⟩ = some (.slice none 0 0)) x10 := KS2.out _ HU.out
            refine zc hC hHeld ?_
            clear hC C
            refine zr 5 (fun C hC => ?_)
            refine held_row (by rfl) batK_ok (.tmp 64) (.tmp 66) rfl u3.heap.size ms [(⟨⟨en, pid, pep, -1, true, mk, []⟩, none, 0⟩ : BM)] _ rfl HO2.out HU.out.size (some ⟨q4, 0, none⟩) 1 1 rfl HLIT.out (by have := HMSL.out; omega) ?_
            rintro v5 x11 hap
            obtain ⟨n5, hn5⟩ : ∃ n, (ms ++ [(⟨⟨en, pid, pep, -1, true, mk, []⟩, none, 0⟩ : BM)]).length = n := ⟨_, rfl⟩
            obtain ⟨ad5, cap5, hv5, hr5, hk5⟩ := OwnRow.row batK_ok hap.1 hn5
            subst hv5
            replace HU := Lib.hid (HU.out.grown hap.2.1 HU.out.size (fun q hq => (HO2.out.lt q hq).1))
            have HR5 := Lib.hid hr5
            have HN5 := Lib.hid hn5
            clear hap hr5 hk5 hn5 HO2 HLIT
            have hHeld : (fun (V : World) => V.cell? ⟨M, 0, none⟩ = some (.int .i64 en) ∧ V.cell? ⟨M, 1, none⟩ = some (.int .i64 pid) ∧ V.cell? ⟨M, 2, none⟩ = some (.int .i64 pep) ∧ V.cell? ⟨M, 3, none⟩ = some (.int .i64 (-1)) ∧ V.cell? ⟨M, 4, none⟩ = some (.bool true) ∧ V.cell? ⟨M, 5, none⟩ = some (.int .i64 mk) ∧ V.cell? ⟨M, 6, none⟩ = some (.slice none 0 0)) x11 := KS2.out _ HU.out
            refine zc hC hHeld ?_
            clear hC C
            refine zt 6 ?_
            refine wpAnyZ_done (by kernel_rfl) ?_ _
            refine NoPanic.normal ?_
            clear hHeld KS2
            have hb5 : bats (ms ++ [(⟨⟨en, pid, pep, -1, true, mk, []⟩, none, 0⟩ : BM)]) = bats ms ++ [⟨endD 0 (bats ms), pid, pep, -1, true, mk, []⟩] := by unfold bats; rw [List.map_append, HEN.out]; rfl
            have hrm : RowD 0 (bats ms ++ [⟨endD 0 (bats ms), pid, pep, -1, true, mk, []⟩]) := row_marker HMU.out.row HMEM.out (by show 0 ≤ po; rw [HPO.out]; exact h0) HMK.out (by rw [← HEN.out]; omega)
            have hn5 : n5 = len + 1 := by
             have h5 := HN5.out
             have h6 := HMU.out.at_.row.length
             rw [List.length_append, h6, List.length_singleton] at h5
             omega
            have HMF : Hid (FoBats x11 0 ad5 n5 cap5 (ms ++ [(⟨⟨en, pid, pep, -1, true, mk, []⟩, none, 0⟩ : BM)])) := ⟨⟨HR5.out, fun m hm => by
             rcases List.mem_append.1 hm with hm | hm
             · exact (HMU.out.keep HU.out).at_.ins m hm
             · rw [List.mem_singleton.1 hm]; exact recsAt_nil _⟩, by omega, by rw [hb5]; exact hrm, by decide, by decide⟩
            have HE2 : Hid (endD 0 (bats (ms ++ [(⟨⟨en, pid, pep, -1, true, mk, []⟩, none, 0⟩ : BM)])) = en + 1) := by
             show _ = _
             rw [hb5, end_last (b := ⟨endD 0 (bats ms), pid, pep, -1, true, mk, []⟩) (by simp)]
             have h7 : countD ⟨endD 0 (bats ms), pid, pep, -1, true, mk, []⟩ = 1 := by
              unfold countD
              rw [if_pos (by have := HMK.out; simp only; omega)]
             rw [h7, HEN.out]
            have HS2 : Hid (st < stableD 0 (bats (ms ++ [(⟨⟨en, pid, pep, -1, true, mk, []⟩, none, 0⟩ : BM)]))) := by
             show _ < _
             rw [HSV.out.1, HVF.out, hb5, stable_st]
             refine stable_moves (E := endD 0 (bats ms)) (k := pid) (by have := HMK.out; simp only; omega) rfl (Int.le_refl _) ?_ (row_chain HMU.out.row (by decide)).1 (by rw [← HVF.out]; omega) ?_
             · have h8 := HE2.out
               rw [hb5] at h8
               rw [h8, HEN.out]
               show endD 0 (bats ms) < _
               omega
             · have h9 := opn_p (fun b hb => ⟨(HMU.out.foRow.ok b hb).1, (HMU.out.foRow.few b hb).1⟩) HMEM.out ((SnapMath.AccOk.right (SnapMath.row_acc HMU.out.row (by decide) (by decide)) _ HMEM.out).1.1)
               rw [← h9, ← HVF.out]
               exact HPO.out
            have hsv : (st == v) = true := by rw [HSV.out.1]; exact beq_self_eq_true v
            have hse : decide (st < en) = true := decide_eq_true (by rw [HSV.out.1]; exact HSV.out.2)
            obtain ⟨s2, hs2⟩ : ∃ x, x = stableD 0 (bats (ms ++ [(⟨⟨en, pid, pep, -1, true, mk, []⟩, none, 0⟩ : BM)])) := ⟨_, rfl⟩
            have hss : decide (st < s2) = true := decide_eq_true (by rw [hs2]; exact HS2.out)
            have HSE := Lib.hid hs2
            have hee : ((en + 1) == (en + 1)) = true := beq_self_eq_true _
            have hew : wrap64 (en + 1) = en + 1 := by unfold wrap64; omega
            have HBF : Hid (Below w.heap.size w x11) := HBU.out.trans (HU.out.mono HBU.out.size)
            clear hb5 hrm hn5 hs2 HU HR5 HN5 HNO HTK
            go_wp2_with fail
            refine (HC.out.stable x11 0 ad5 n5 cap5 _ HMF.out).mono ?_
            rintro e y1 ⟨rfl, hb⟩
            rw [← HSE.out]
            have HBF1 := Lib.hid (HBF.out.trans (hb.mono HBF.out.size))
            have HMF1 := Lib.hid (HMF.out.keep hb)
            clear hb
            go_wp2_with fail
            refine (HC.out.end_ y1 0 ad5 n5 cap5 _ HMF1.out).mono ?_
            rintro e y2 ⟨rfl, hb⟩
            rw [HE2.out]
            have HBF2 := Lib.hid (HBF1.out.trans (hb.mono HBF1.out.size))
            clear hb
            go_wp2_with fail
            refine (HK.out y2).mono ?_
            rintro e y3 ⟨rfl, hb⟩
            have HBF3 := Lib.hid (HBF2.out.trans (hb.mono HBF2.out.size))
            clear hb
            go_wp2
            go_ret
            exact ⟨rfl, HBF3.out⟩
        · go_simp
          obtain ⟨u2, hu2⟩ : ∃ z, z = u0.alloc (.cells #[.int .i64 0, .int .i64 0, .int .i64 0, .int .i64 0, .bool false, .int .i64 0, .slice none 0 0] 52) := ⟨_, rfl⟩
          obtain ⟨M, hM⟩ : ∃ z, z = u0.heap.size := ⟨_, rfl⟩
          have HX2 : Hid (BoxAt u2 M 0 0 0 0 false 0 (.slice none 0 0)) := by show BoxAt _ _ _ _ _ _ _ _ _; rw [hu2, hM]; exact boxAt_new u0 _ _ _ _ _ _ _
          have HU2 : Hid (Below W6.heap.size W6 u2) := by show Below _ _ _; rw [hu2]; exact HU.out.trans ((Below.refl _ _).alloc HU.out.size _)
          have HMW : Hid (W6.heap.size ≤ M) := by show _ ≤ _; rw [hM]; exact HU.out.size
          try rw [← hu2, ← hM]
          clear hu2 hM
          have hHeld := KS.out _ HU2.out
          refine zc hC hHeld ?_
          clear hC C
          refine zr 6 (fun C hC => ?_)
          go_simp
          refine (within_any mk0 1 u2 hmk0 ⟨by decide, by decide⟩).mono ?_
          rintro e uq ⟨q, rfl, hq, rfl⟩
          obtain ⟨mk, hmk⟩ : ∃ mk : Int, mk = 1 + (q : Int) := ⟨_, rfl⟩
          have hmk1 : mk = 1 ∨ mk = 2 := by omega
          have hmw : IntKind.i64.wrap (1 + (q : Int)) = mk := by rw [IntKind.wrap_i64]; omega
          have HMK := Lib.hid hmk1
          clear hmk hmk1 hq
          have hHeld := KS.out _ HU2.out
          refine zc hC hHeld ?_
          clear hC C
          refine zt 7 ?_
          refine zt 8 ?_
          have m0 := HX2.out.c0
          have n0 := HX2.out.free 0
          have m1 := HX2.out.c1
          have n1 := HX2.out.free 1
          have m2 := HX2.out.c2
          have n2 := HX2.out.free 2
          have m3 := HX2.out.c3
          have n3 := HX2.out.free 3
          have m4 := HX2.out.c4
          have n4 := HX2.out.free 4
          have m5 := HX2.out.c5
          have n5 := HX2.out.free 5
          have m6 := HX2.out.c6
          have n6 := HX2.out.free 6
          refine zr 10 (fun C hC => ?_)
          go_simp
          obtain ⟨u3, hu3⟩ : ∃ z, z = ((((((u2.setCell ⟨M, 0, none⟩ (.int .i64 en)).setCell ⟨M, 1, none⟩ (.int .i64 pid)).setCell ⟨M, 2, none⟩ (.int .i64 pep)).setCell ⟨M, 3, none⟩ (.int .i64 (-1))).setCell ⟨M, 4, none⟩ (.bool true)).setCell ⟨M, 5, none⟩ (.int .i64 mk)).setCell ⟨M, 6, none⟩ (.slice none 0 0) := ⟨_, rfl⟩
          have HX3 : Hid (BoxAt u3 M en pid pep (-1) true mk (.slice none 0 0)) := by show BoxAt _ _ _ _ _ _ _ _ _; rw [hu3]; exact ((((((HX2.out.s0 _).s1 _).s2 _).s3 _).s4 _).s5 _).s6 _
          have HU3 : Hid (Below W6.heap.size W6 u3) := by show Below _ _ _; rw [hu3]; exact ((((((HU2.out.setCell HMW.out _).setCell HMW.out _).setCell HMW.out _).setCell HMW.out _).setCell HMW.out _).setCell HMW.out _).setCell HMW.out _
          rw [← hu3]
          clear hu3 m0 m1 m2 m3 m4 m5 m6 n0 n1 n2 n3 n4 n5 n6 HX2 HU2
          have hHeld := KS.out _ HU3.out
          refine zc hC hHeld ?_
          clear hC C
          refine wpAnyZ_done (by kernel_rfl) ?_ _
          refine NoPanic.normal ?_
          clear hHeld KS hmw
          have HB5u : Hid (Below w5.heap.size w5 u3) := HB6.out.trans (HU3.out.mono HB6.out.size)
          have HMU := Lib.hid (HM5.out.keep HB5u.out)
          have HBU : Hid (Below w.heap.size w u3) := HB5.out.trans (HB5u.out.mono HB5.out.size)
          have HMSL : Hid (ms.length ≤ 20) := by show _ ≤ _; rw [HMU.out.at_.row.length]; exact hlen
          have KS2 : Hid (∀ V, Below u3.heap.size u3 V → (fun (V : World) => V.cell? ⟨M, 0, none⟩ = some (.int .i64 en) ∧ V.cell? ⟨M, 1, none⟩ = some (.int .i64 pid) ∧ V.cell? ⟨M, 2, none⟩ = some (.int .i64 pep) ∧ V.cell? ⟨M, 3, none⟩ = some (.int .i64 (-1)) ∧ V.cell? ⟨M, 4, none⟩ = some (.bool true) ∧ V.cell? ⟨M, 5, none⟩ = some (.int .i64 mk) ∧ V.cell? ⟨M, 6, none⟩ = some (.slice none 0 0)) V) := fun V hV => ⟨(HX3.out.on hV).c0, (HX3.out.on hV).c1, (HX3.out.on hV).c2, (HX3.out.on hV).c3, (HX3.out.on hV).c4, (HX3.out.on hV).c5, (HX3.out.on hV).c6⟩
          have hdrw : Below u3.heap.size u3 u3.drew := (Below.refl _ u3).drew
          clear HB5u HU3 HU HP6
          go_upto_region 12 with fail
          refine wp_region_noPanic ?_
          refine wp_region_z [] (fun (V : World) => V.cell? ⟨M, 0, none⟩ = some (.int .i64 en) ∧ V.cell? ⟨M, 1, none⟩ = some (.int .i64 pid) ∧ V.cell? ⟨M, 2, none⟩ = some (.int .i64 pep) ∧ V.cell? ⟨M, 3, none⟩ = some (.int .i64 (-1)) ∧ V.cell? ⟨M, 4, none⟩ = some (.bool true) ∧ V.cell? ⟨M, 5, none⟩ = some (.int .i64 mk) ∧ V.cell? ⟨M, 6, none⟩ = some (.slice none 0 0)) (by kernel_rfl) ?_
          have hHeld : (fun (V : World) => V.cell? ⟨M, 0, none⟩ = some (.int .i64 en) ∧ V.cell? ⟨M, 1, none⟩ = some (.int .i64 pid) ∧ V.cell? ⟨M, 2, none⟩ = some (.int .i64 pep) ∧ V.cell? ⟨M, 3, none⟩ = some (.int .i64 (-1)) ∧ V.cell? ⟨M, 4, none⟩ = some (.bool true) ∧ V.cell? ⟨M, 5, none⟩ = some (.int .i64 mk) ∧ V.cell? ⟨M, 6, none⟩ = some (.slice none 0 0)) _ := KS2.out _ hdrw
          obtain ⟨x0, hu⟩ : ∃ u, u = u3.drew := ⟨_, rfl⟩
          rw [← hu] at hHeld hdrw
          rw [← hu]
          clear hu
          have HU := Lib.hid hdrw
          clear hdrw
          refine zt 1 ?_
          refine zt 3 ?_
          refine wpAnyZ_ready (rs := [0, 4]) (by kernel_rfl) (by simp) ?_
          refine AllReadyZ.cons (o := ⟨_, _, _, _, _, _⟩) rfl (fun C hC => ?_) (AllReadyZ.cons (o := ⟨_, _, _, _, _, _⟩) rfl (fun C hC => ?_) AllReadyZ.nil)
          · go_simp
            obtain ⟨x1, hu⟩ : ∃ z, z = x0.alloc (.cells #[] 52) := ⟨_, rfl⟩
            obtain ⟨g0, hg⟩ : ∃ z, z = x0.heap.size := ⟨_, rfl⟩
            have hbb : Below x0.heap.size x0 x1 := by rw [hu]; exact (Below.refl _ _).alloc (Nat.le_refl _) _
            have HO : Hid (OwnRow batK x1 u3.heap.size (.slice (some ⟨g0, 0, none⟩) 0 0) []) := by show OwnRow _ _ _ _ _; rw [hu, hg]; exact ownRow_lit batK_ok x0 _ [] HU.out.size (by simp) _ rfl 0 rfl
            have HG0 : Hid (g0 < x1.heap.size) := (HO.out.lt g0 rfl).2
            replace HU := Lib.hid (HU.out.trans (hbb.mono HU.out.size))
            (try rw [← hu, ← hg])
            clear hu hg hbb
            have hHeld : (fun (V : World) => V.cell? ⟨M, 0, none⟩ = some (.int .i64 en) ∧ V.cell? ⟨M, 1, none⟩ = some (.int .i64 pid) ∧ V.cell? ⟨M, 2, none⟩ = some (.int .i64 pep) ∧ V.cell? ⟨M, 3, none⟩ = some (.int .i64 (-1)) ∧ V.cell? ⟨M, 4, none⟩ = some (.bool true) ∧ V.cell? ⟨M, 5, none⟩ = some (.int .i64 mk) ∧ V.cell? ⟨M, 6, none⟩ = some (.slice none 0 0)) x1 := KS2.out _ HU.out
            refine zc hC hHeld ?_
            clear hC C
            refine wpAnyZ_ready (rs := [2, 4]) (by kernel_rfl) (by simp) ?_
            refine AllReadyZ.cons (o := ⟨_, _, _, _, _, _⟩) rfl (fun C hC => ?_) (AllReadyZ.cons (o := ⟨_, _, _, _, _, _⟩) rfl (fun C hC => ?_) AllReadyZ.nil)
            · refine held_row (by rfl) batK_ok (.tmp 62) (.tmp 63) rfl u3.heap.size [] ms _ rfl HO.out HU.out.size ad len cap rfl (HMU.out.at_.row.keep HU.out) (by simp only [List.length_nil]; omega) ?_
              rintro v2 x2 hap
              replace HU := Lib.hid (HU.out.grown hap.2.1 HU.out.size (fun q hq => (HO.out.lt q hq).1))
              have HO2 := Lib.hid hap.1
              (try rw [List.nil_append] at HO2)
              clear hap HO
              have hHeld : (fun (V : World) => V.cell? ⟨M, 0, none⟩ = some (.int .i64 en) ∧ V.cell? ⟨M, 1, none⟩ = some (.int .i64 pid) ∧ V.cell? ⟨M, 2, none⟩ = some (.int .i64 pep) ∧ V.cell? ⟨M, 3, none⟩ = some (.int .i64 (-1)) ∧ V.cell? ⟨M, 4, none⟩ = some (.bool true) ∧ V.cell? ⟨M, 5, none⟩ = some (.int .i64 mk) ∧ V.cell? ⟨M, 6, none⟩ = some (.slice none 0 0)) x2 := KS2.out _ HU.out
              refine zc hC hHeld ?_
              clear hC C
              refine zr 4 (fun C hC => ?_)
              go_simp
              obtain ⟨x3, hu⟩ : ∃ z, z = x2.alloc (.cells #[.int .i64 en, .int .i64 pid, .int .i64 pep, .int .i64 (-1), .bool true, .int .i64 mk, .slice none 0 0] 52) := ⟨_, rfl⟩
              obtain ⟨q4, hg⟩ : ∃ z, z = x2.heap.size := ⟨_, rfl⟩
              have hbb : Below x2.heap.size x2 x3 := by rw [hu]; exact (Below.refl _ _).alloc (Nat.le_refl _) _
              have HLIT : Hid (RowAt batK x3 (some ⟨q4, 0, none⟩) 1 1 [(⟨⟨en, pid, pep, -1, true, mk, []⟩, none, 0⟩ : BM)]) := by show RowAt _ _ _ _ _ _; rw [hu, hg]; exact rowAt_lit batK_ok x2 [(⟨⟨en, pid, pep, -1, true, mk, []⟩, none, 0⟩ : BM)] (by simp) _ rfl 1 rfl
              replace HO2 := Lib.hid (HO2.out.on hbb)
              replace HU := Lib.hid (HU.out.trans (hbb.mono HU.out.size))
              (try rw [← hu, ← hg])
              clear hu hg hbb
              have hHeld : (fun (V : World) => V.cell? ⟨M, 0, none⟩ = some (.int .i64 en) ∧ V.cell? ⟨M, 1, none⟩ = some (.int .i64 pid) ∧ V.cell? ⟨M, 2, none⟩ = some (.int .i64 pep) ∧ V.cell? ⟨M, 3, none⟩ = some (.int .i64 (-1)) ∧ V.cell? ⟨M, 4, none⟩ = some (.bool true) ∧ V.cell? ⟨M, 5, none⟩ = some (.int .i64 mk) ∧ V.cell? ⟨M, 6, none⟩ = some (.slice none 0 0)) x3 := KS2.out _ HU.out
              refine zc hC hHeld ?_
              clear hC C
              refine zr 5 (fun C hC => ?_)
              refine held_row (by rfl) batK_ok (.tmp 64) (.tmp 66) rfl u3.heap.size ms [(⟨⟨en, pid, pep, -1, true, mk, []⟩, none, 0⟩ : BM)] _ rfl HO2.out HU.out.size (some ⟨q4, 0, none⟩) 1 1 rfl HLIT.out (by have := HMSL.out; omega) ?_
              rintro v5 x4 hap
              obtain ⟨n5, hn5⟩ : ∃ n, (ms ++ [(⟨⟨en, pid, pep, -1, true, mk, []⟩, none, 0⟩ : BM)]).length = n := ⟨_, rfl⟩
              obtain ⟨ad5, cap5, hv5, hr5, hk5⟩ := OwnRow.row batK_ok hap.1 hn5
              subst hv5
              replace HU := Lib.hid (HU.out.grown hap.2.1 HU.out.size (fun q hq => (HO2.out.lt q hq).1))
              have HR5 := Lib.hid hr5
              have HN5 := Lib.hid hn5
              clear hap hr5 hk5 hn5 HO2 HLIT
              have hHeld : (fun (V : World) => V.cell? ⟨M, 0, none⟩ = some (.int .i64 en) ∧ V.cell? ⟨M, 1, none⟩ = some (.int .i64 pid) ∧ V.cell? ⟨M, 2, none⟩ = some (.int .i64 pep) ∧ V.cell? ⟨M, 3, none⟩ = some (.int .i64 (-1)) ∧ V.cell? ⟨M, 4, none⟩ = some (.bool true) ∧ V.cell? ⟨M, 5, none⟩ = some (.int .i64 mk) ∧ V.cell? ⟨M, 6, none⟩ = some (.slice none 0 0)) x4 := KS2.out _ HU.out
              refine zc hC hHeld ?_
              clear hC C
              refine zt 6 ?_
              refine wpAnyZ_done (by kernel_rfl) ?_ _
              refine NoPanic.normal ?_
              clear hHeld KS2
              have hb5 : bats (ms ++ [(⟨⟨en, pid, pep, -1, true, mk, []⟩, none, 0⟩ : BM)]) = bats ms ++ [⟨endD 0 (bats ms), pid, pep, -1, true, mk, []⟩] := by unfold bats; rw [List.map_append, HEN.out]; rfl
              have hrm : RowD 0 (bats ms ++ [⟨endD 0 (bats ms), pid, pep, -1, true, mk, []⟩]) := row_marker HMU.out.row HMEM.out (by show 0 ≤ po; rw [HPO.out]; exact h0) HMK.out (by rw [← HEN.out]; omega)
              have hn5 : n5 = len + 1 := by
               have h5 := HN5.out
               have h6 := HMU.out.at_.row.length
               rw [List.length_append, h6, List.length_singleton] at h5
               omega
              have HMF : Hid (FoBats x4 0 ad5 n5 cap5 (ms ++ [(⟨⟨en, pid, pep, -1, true, mk, []⟩, none, 0⟩ : BM)])) := ⟨⟨HR5.out, fun m hm => by
               rcases List.mem_append.1 hm with hm | hm
               · exact (HMU.out.keep HU.out).at_.ins m hm
               · rw [List.mem_singleton.1 hm]; exact recsAt_nil _⟩, by omega, by rw [hb5]; exact hrm, by decide, by decide⟩
              have HE2 : Hid (endD 0 (bats (ms ++ [(⟨⟨en, pid, pep, -1, true, mk, []⟩, none, 0⟩ : BM)])) = en + 1) := by
               show _ = _
               rw [hb5, end_last (b := ⟨endD 0 (bats ms), pid, pep, -1, true, mk, []⟩) (by simp)]
               have h7 : countD ⟨endD 0 (bats ms), pid, pep, -1, true, mk, []⟩ = 1 := by
                unfold countD
                rw [if_pos (by have := HMK.out; simp only; omega)]
               rw [h7, HEN.out]
              have HS2 : Hid (st < stableD 0 (bats (ms ++ [(⟨⟨en, pid, pep, -1, true, mk, []⟩, none, 0⟩ : BM)]))) := by
               show _ < _
               rw [HSV.out.1, HVF.out, hb5, stable_st]
               refine stable_moves (E := endD 0 (bats ms)) (k := pid) (by have := HMK.out; simp only; omega) rfl (Int.le_refl _) ?_ (row_chain HMU.out.row (by decide)).1 (by rw [← HVF.out]; omega) ?_
               · have h8 := HE2.out
                 rw [hb5] at h8
                 rw [h8, HEN.out]
                 show endD 0 (bats ms) < _
                 omega
               · have h9 := opn_p (fun b hb => ⟨(HMU.out.foRow.ok b hb).1, (HMU.out.foRow.few b hb).1⟩) HMEM.out ((SnapMath.AccOk.right (SnapMath.row_acc HMU.out.row (by decide) (by decide)) _ HMEM.out).1.1)
                 rw [← h9, ← HVF.out]
                 exact HPO.out
              have hsv : (st == v) = true := by rw [HSV.out.1]; exact beq_self_eq_true v
              have hse : decide (st < en) = true := decide_eq_true (by rw [HSV.out.1]; exact HSV.out.2)
              obtain ⟨s2, hs2⟩ : ∃ x, x = stableD 0 (bats (ms ++ [(⟨⟨en, pid, pep, -1, true, mk, []⟩, none, 0⟩ : BM)])) := ⟨_, rfl⟩
              have hss : decide (st < s2) = true := decide_eq_true (by rw [hs2]; exact HS2.out)
              have HSE := Lib.hid hs2
              have hee : ((en + 1) == (en + 1)) = true := beq_self_eq_true _
              have hew : wrap64 (en + 1) = en + 1 := by unfold wrap64; omega
              have HBF : Hid (Below w.heap.size w x4) := HBU.out.trans (HU.out.mono HBU.out.size)
              clear hb5 hrm hn5 hs2 HU HR5 HN5 HNO HTK
              go_wp2_with fail
              refine (HC.out.stable x4 0 ad5 n5 cap5 _ HMF.out).mono ?_
              rintro e y1 ⟨rfl, hb⟩
              rw [← HSE.out]
              have HBF1 := Lib.hid (HBF.out.trans (hb.mono HBF.out.size))
              have HMF1 := Lib.hid (HMF.out.keep hb)
              clear hb
              go_wp2_with fail
              refine (HC.out.end_ y1 0 ad5 n5 cap5 _ HMF1.out).mono ?_
              rintro e y2 ⟨rfl, hb⟩
              rw [HE2.out]
              have HBF2 := Lib.hid (HBF1.out.trans (hb.mono HBF1.out.size))
              clear hb
              go_wp2_with fail
              refine (HK.out y2).mono ?_
              rintro e y3 ⟨rfl, hb⟩
              have HBF3 := Lib.hid (HBF2.out.trans (hb.mono HBF2.out.size))
              clear hb
              go_wp2
              go_ret
              exact ⟨rfl, HBF3.out⟩
            · go_simp
              obtain ⟨x5, hu⟩ : ∃ z, z = x1.alloc (.cells #[.int .i64 en, .int .i64 pid, .int .i64 pep, .int .i64 (-1), .bool true, .int .i64 mk, .slice none 0 0] 52) := ⟨_, rfl⟩
              obtain ⟨q4, hg⟩ : ∃ z, z = x1.heap.size := ⟨_, rfl⟩
              have hbb : Below x1.heap.size x1 x5 := by rw [hu]; exact (Below.refl _ _).alloc (Nat.le_refl _) _
              have HLIT : Hid (RowAt batK x5 (some ⟨q4, 0, none⟩) 1 1 [(⟨⟨en, pid, pep, -1, true, mk, []⟩, none, 0⟩ : BM)]) := by show RowAt _ _ _ _ _ _; rw [hu, hg]; exact rowAt_lit batK_ok x1 [(⟨⟨en, pid, pep, -1, true, mk, []⟩, none, 0⟩ : BM)] (by simp) _ rfl 1 rfl
              have HNE : Hid (g0 ≠ q4) := by show _ ≠ _; rw [hg]; exact Nat.ne_of_lt HG0.out
              replace HO := Lib.hid (HO.out.on hbb)
              replace HU := Lib.hid (HU.out.trans (hbb.mono HU.out.size))
              (try rw [← hu, ← hg])
              clear hu hg hbb
              have hHeld : (fun (V : World) => V.cell? ⟨M, 0, none⟩ = some (.int .i64 en) ∧ V.cell? ⟨M, 1, none⟩ = some (.int .i64 pid) ∧ V.cell? ⟨M, 2, none⟩ = some (.int .i64 pep) ∧ V.cell? ⟨M, 3, none⟩ = some (.int .i64 (-1)) ∧ V.cell? ⟨M, 4, none⟩ = some (.bool true) ∧ V.cell? ⟨M, 5, none⟩ = some (.int .i64 mk) ∧ V.cell? ⟨M, 6, none⟩ = some (.slice none 0 0)) x5 := KS2.out _ HU.out
              refine zc hC hHeld ?_
              clear hC C
              refine zr 2 (fun C hC => ?_)
              refine held_row (by rfl) batK_ok (.tmp 62) (.tmp 63) rfl u3.heap.size [] ms _ rfl HO.out HU.out.size ad len cap rfl (HMU.out.at_.row.keep HU.out) (by simp only [List.length_nil]; omega) ?_
              rintro v2 x6 hap
              replace HLIT := Lib.hid (HLIT.out.grown hap.2.1 (fun a ha e => by cases ha; exact HNE.out (Option.some.inj e).symm))
              replace HU := Lib.hid (HU.out.grown hap.2.1 HU.out.size (fun q hq => (HO.out.lt q hq).1))
              have HO2 := Lib.hid hap.1
              (try rw [List.nil_append] at HO2)
              clear hap HO
              have hHeld : (fun (V : World) => V.cell? ⟨M, 0, none⟩ = some (.int .i64 en) ∧ V.cell? ⟨M, 1, none⟩ = some (.int .i64 pid) ∧ V.cell? ⟨M, 2, none⟩ = some (.int .i64 pep) ∧ V.cell? ⟨M, 3, none⟩ = some (.int .i64 (-1)) ∧ V.cell? ⟨M, 4, none⟩ = some (.bool true) ∧ V.cell? ⟨M, 5, none⟩ = some (.int .i64 mk) ∧ V.cell? ⟨M, 6, none⟩ = some (.slice none 0 0)) x6 := KS2.out _ HU.out
              refine zc hC hHeld ?_
              clear hC C
              refine zr 5 (fun C hC => ?_)
              refine held_row (by rfl) batK_ok (.tmp 64) (.tmp 66) rfl u3.heap.size ms [(⟨⟨en, pid, pep, -1, true, mk, []⟩, none, 0⟩ : BM)] _ rfl HO2.out HU.out.size (some ⟨q4, 0, none⟩) 1 1 rfl HLIT.out (by have := HMSL.out; omega) ?_
              rintro v5 x7 hap
              obtain ⟨n5, hn5⟩ : ∃ n, (ms ++ [(⟨⟨en, pid, pep, -1, true, mk, []⟩, none, 0⟩ : BM)]).length = n := ⟨_, rfl⟩
              obtain ⟨ad5, cap5, hv5, hr5, hk5⟩ := OwnRow.row batK_ok hap.1 hn5
              subst hv5
              replace HU := Lib.hid (HU.out.grown hap.2.1 HU.out.size (fun q hq => (HO2.out.lt q hq).1))
              have HR5 := Lib.hid hr5
              have HN5 := Lib.hid hn5
              clear hap hr5 hk5 hn5 HO2 HLIT
              have hHeld : (fun (V : World) => V.cell? ⟨M, 0, none⟩ = some (.int .i64 en) ∧ V.cell? ⟨M, 1, none⟩ = some (.int .i64 pid) ∧ V.cell? ⟨M, 2, none⟩ = some (.int .i64 pep) ∧ V.cell? ⟨M, 3, none⟩ = some (.int .i64 (-1)) ∧ V.cell? ⟨M, 4, none⟩ = some (.bool true) ∧ V.cell? ⟨M, 5, none⟩ = some (.int .i64 mk) ∧ V.cell? ⟨M, 6, none⟩ = some (.slice none 0 0)) x7 := KS2.out _ HU.out
              refine zc hC hHeld ?_
              clear hC C
              refine zt 6 ?_
              refine wpAnyZ_done (by kernel_rfl) ?_ _
              refine NoPanic.normal ?_
              clear hHeld KS2
              have hb5 : bats (ms ++ [(⟨⟨en, pid, pep, -1, true, mk, []⟩, none, 0⟩ : BM)]) = bats ms ++ [⟨endD 0 (bats ms), pid, pep, -1, true, mk, []⟩] := by unfold bats; rw [List.map_append, HEN.out]; rfl
              have hrm : RowD 0 (bats ms ++ [⟨endD 0 (bats ms), pid, pep, -1, true, mk, []⟩]) := row_marker HMU.out.row HMEM.out (by show 0 ≤ po; rw [HPO.out]; exact h0) HMK.out (by rw [← HEN.out]; omega)
              have hn5 : n5 = len + 1 := by
               have h5 := HN5.out
               have h6 := HMU.out.at_.row.length
               rw [List.length_append, h6, List.length_singleton] at h5
               omega
              have HMF : Hid (FoBats x7 0 ad5 n5 cap5 (ms ++ [(⟨⟨en, pid, pep, -1, true, mk, []⟩, none, 0⟩ : BM)])) := ⟨⟨HR5.out, fun m hm => by
               rcases List.mem_append.1 hm with hm | hm
               · exact (HMU.out.keep HU.out).at_.ins m hm
               · rw [List.mem_singleton.1 hm]; exact recsAt_nil _⟩, by omega, by rw [hb5]; exact hrm, by decide, by decide⟩
              have HE2 : Hid (endD 0 (bats (ms ++ [(⟨⟨en, pid, pep, -1, true, mk, []⟩, none, 0⟩ : BM)])) = en + 1) := by
               show _ = _
               rw [hb5, end_last (b := ⟨endD 0 (bats ms), pid, pep, -1, true, mk, []⟩) (by simp)]
               have h7 : countD ⟨endD 0 (bats ms), pid, pep, -1, true, mk, []⟩ = 1 := by
                unfold countD
                rw [if_pos (by have := HMK.out; simp only; omega)]
               rw [h7, HEN.out]
              have HS2 : Hid (st < stableD 0 (bats (ms ++ [(⟨⟨en, pid, pep, -1, true, mk, []⟩, none, 0⟩ : BM)]))) := by
               show _ < _
               rw [HSV.out.1, HVF.out, hb5, stable_st]
               refine stable_moves (E := endD 0 (bats ms)) (k := pid) (by have := HMK.out; simp only; omega) rfl (Int.le_refl _) ?_ (row_chain HMU.out.row (by decide)).1 (by rw [← HVF.out]; omega) ?_
               · have h8 := HE2.out
                 rw [hb5] at h8
                 rw [h8, HEN.out]
                 show endD 0 (bats ms) < _
                 omega
               · have h9 := opn_p (fun b hb => ⟨(HMU.out.foRow.ok b hb).1, (HMU.out.foRow.few b hb).1⟩) HMEM.out ((SnapMath.AccOk.right (SnapMath.row_acc HMU.out.row (by decide) (by decide)) _ HMEM.out).1.1)
                 rw [← h9, ← HVF.out]
                 exact HPO.out
              have hsv : (st == v) = true := by rw [HSV.out.1]; exact beq_self_eq_true v
              have hse : decide (st < en) = true := decide_eq_true (by rw [HSV.out.1]; exact HSV.out.2)
              obtain ⟨s2, hs2⟩ : ∃ x, x = stableD 0 (bats (ms ++ [(⟨⟨en, pid, pep, -1, true, mk, []⟩, none, 0⟩ : BM)])) := ⟨_, rfl⟩
              have hss : decide (st < s2) = true := decide_eq_true (by rw [hs2]; exact HS2.out)
              have HSE := Lib.hid hs2
              have hee : ((en + 1) == (en + 1)) = true := beq_self_eq_true _
              have hew : wrap64 (en + 1) = en + 1 := by unfold wrap64; omega
              have HBF : Hid (Below w.heap.size w x7) := HBU.out.trans (HU.out.mono HBU.out.size)
              clear hb5 hrm hn5 hs2 HU HR5 HN5 HNO HTK
              go_wp2_with fail
              refine (HC.out.stable x7 0 ad5 n5 cap5 _ HMF.out).mono ?_
              rintro e y1 ⟨rfl, hb⟩
              rw [← HSE.out]
              have HBF1 := Lib.hid (HBF.out.trans (hb.mono HBF.out.size))
              have HMF1 := Lib.hid (HMF.out.keep hb)
              clear hb
              go_wp2_with fail
              refine (HC.out.end_ y1 0 ad5 n5 cap5 _ HMF1.out).mono ?_
              rintro e y2 ⟨rfl, hb⟩
              rw [HE2.out]
              have HBF2 := Lib.hid (HBF1.out.trans (hb.mono HBF1.out.size))
              clear hb
              go_wp2_with fail
              refine (HK.out y2).mono ?_
              rintro e y3 ⟨rfl, hb⟩
              have HBF3 := Lib.hid (HBF2.out.trans (hb.mono HBF2.out.size))
              clear hb
              go_wp2
              go_ret
              exact ⟨rfl, HBF3.out⟩
          · go_simp
            obtain ⟨x8, hu⟩ : ∃ z, z = x0.alloc (.cells #[.int .i64 en, .int .i64 pid, .int .i64 pep, .int .i64 (-1), .bool true, .int .i64 mk, .slice none 0 0] 52) := ⟨_, rfl⟩
            obtain ⟨q4, hg⟩ : ∃ z, z = x0.heap.size := ⟨_, rfl⟩
            have hbb : Below x0.heap.size x0 x8 := by rw [hu]; exact (Below.refl _ _).alloc (Nat.le_refl _) _
            have HLIT : Hid (RowAt batK x8 (some ⟨q4, 0, none⟩) 1 1 [(⟨⟨en, pid, pep, -1, true, mk, []⟩, none, 0⟩ : BM)]) := by show RowAt _ _ _ _ _ _; rw [hu, hg]; exact rowAt_lit batK_ok x0 [(⟨⟨en, pid, pep, -1, true, mk, []⟩, none, 0⟩ : BM)] (by simp) _ rfl 1 rfl
            have HQ4 : Hid (q4 < x8.heap.size) := by show _ < _; rw [hu, hg]; simp
            replace HU := Lib.hid (HU.out.trans (hbb.mono HU.out.size))
            (try rw [← hu, ← hg])
            clear hu hg hbb
            have hHeld : (fun (V : World) => V.cell? ⟨M, 0, none⟩ = some (.int .i64 en) ∧ V.cell? ⟨M, 1, none⟩ = some (.int .i64 pid) ∧ V.cell? ⟨M, 2, none⟩ = some (.int .i64 pep) ∧ V.cell? ⟨M, 3, none⟩ = some (.int .i64 (-1)) ∧ V.cell? ⟨M, 4, none⟩ = some (.bool true) ∧ V.cell? ⟨M, 5, none⟩ = some (.int .i64 mk) ∧ V.cell? ⟨M, 6, none⟩ = some (.slice none 0 0)) x8 := KS2.out _ HU.out
            refine zc hC hHeld ?_
            clear hC C
            refine zr 0 (fun C hC => ?_)
            go_simp
            obtain ⟨x9, hu⟩ : ∃ z, z = x8.alloc (.cells #[] 52) := ⟨_, rfl⟩
            obtain ⟨g0, hg⟩ : ∃ z, z = x8.heap.size := ⟨_, rfl⟩
            have hbb : Below x8.heap.size x8 x9 := by rw [hu]; exact (Below.refl _ _).alloc (Nat.le_refl _) _
            have HO : Hid (OwnRow batK x9 u3.heap.size (.slice (some ⟨g0, 0, none⟩) 0 0) []) := by show OwnRow _ _ _ _ _; rw [hu, hg]; exact ownRow_lit batK_ok x8 _ [] HU.out.size (by simp) _ rfl 0 rfl
            have HNE : Hid (g0 ≠ q4) := by show _ ≠ _; rw [hg]; exact Nat.ne_of_gt HQ4.out
            replace HLIT := Lib.hid (HLIT.out.keep hbb)
            replace HU := Lib.hid (HU.out.trans (hbb.mono HU.out.size))
            (try rw [← hu, ← hg])
            clear hu hg hbb
            have hHeld : (fun (V : World) => V.cell? ⟨M, 0, none⟩ = some (.int .i64 en) ∧ V.cell? ⟨M, 1, none⟩ = some (.int .i64 pid) ∧ V.cell? ⟨M, 2, none⟩ = some (.int .i64 pep) ∧ V.cell? ⟨M, 3, none⟩ = some (.int .i64 (-1)) ∧ V.cell? ⟨M, 4, none⟩ = some (.bool true) ∧ V.cell? ⟨M, 5, none⟩ = some (.int .i64 mk) ∧ V.cell? ⟨M, 6, none⟩ = some (.slice none 0 0)) x9 := KS2.out _ HU.out
            refine zc hC hHeld ?_
            clear hC C
            refine zr 2 (fun C hC => ?_)
            refine held_row (by rfl) batK_ok (.tmp 62) (.tmp 63) rfl u3.heap.size [] ms _ rfl HO.out HU.out.size ad len cap rfl (HMU.out.at_.row.keep HU.out) (by simp only [List.length_nil]; omega) ?_
            rintro v2 x10 hap
            replace HLIT := Lib.hid (HLIT.out.grown hap.2.1 (fun a ha e => by cases ha; exact HNE.out (Option.some.inj e).symm))
            replace HU := Lib.hid (HU.out.grown hap.2.1 HU.out.size (fun q hq => (HO.out.lt q hq).1))
            have HO2 := Lib.hid hap.1
            (try rw [List.nil_append] at HO2)
            clear hap HO
            have hHeld : (fun (V : World) => V.cell? ⟨M, 0, none⟩ = some (.int .i64 en) ∧ V.cell? ⟨M, 1, none⟩ = some (.int .i64 pid) ∧ V.cell? ⟨M, 2, none⟩ = some (.int .i64 pep) ∧ V.cell? ⟨M, 3, none⟩ = some (.int .i64 (-1)) ∧ V.cell? ⟨M, 4, none⟩ = some (.bool true) ∧ V.cell? ⟨M, 5, none⟩ = some (.int .i64 mk) ∧ V.cell? ⟨M, 6, none⟩ = some (.slice none 0 0)) x10 := KS2.out _ HU.out
            refine zc hC hHeld ?_
            clear hC C
            refine zr 5 (fun C hC => ?_)
            refine held_row (by rfl) batK_ok (.tmp 64) (.tmp 66) rfl u3.heap.size ms [(⟨⟨en, pid, pep, -1, true, mk, []⟩, none, 0⟩ : BM)] _ rfl HO2.out HU.out.size (some ⟨q4, 0, none⟩) 1 1 rfl HLIT.out (by have := HMSL.out; omega) ?_
            rintro v5 x11 hap
            obtain ⟨n5, hn5⟩ : ∃ n, (ms ++ [(⟨⟨en, pid, pep, -1, true, mk, []⟩, none, 0⟩ : BM)]).length = n := ⟨_, rfl⟩
            obtain ⟨ad5, cap5, hv5, hr5, hk5⟩ := OwnRow.row batK_ok hap.1 hn5
            subst hv5
            replace HU := Lib.hid (HU.out.grown hap.2.1 HU.out.size (fun q hq => (HO2.out.lt q hq).1))
            have HR5 := Lib.hid hr5
            have HN5 := Lib.hid hn5
            clear hap hr5 hk5 hn5 HO2 HLIT
            have hHeld : (fun (V : World) => V.cell? ⟨M, 0, none⟩ = some (.int .i64 en) ∧ V.cell? ⟨M, 1, none⟩ = some (.int .i64 pid) ∧ V.cell? ⟨M, 2, none⟩ = some (.int .i64 pep) ∧ V.cell? ⟨M, 3, none⟩ = some (.int .i64 (-1)) ∧ V.cell? ⟨M, 4, none⟩ = some (.bool true) ∧ V.cell? ⟨M, 5, none⟩ = some (.int .i64 mk) ∧ V.cell? ⟨M, 6, none⟩ = some (.slice none 0 0)) x11 := KS2.out _ HU.out
            refine zc hC hHeld ?_
            clear hC C
            refine zt 6 ?_
            refine wpAnyZ_done (by kernel_rfl) ?_ _
            refine NoPanic.normal ?_
            clear hHeld KS2
            have hb5 : bats (ms ++ [(⟨⟨en, pid, pep, -1, true, mk, []⟩, none, 0⟩ : BM)]) = bats ms ++ [⟨endD 0 (bats ms), pid, pep, -1, true, mk, []⟩] := by unfold bats; rw [List.map_append, HEN.out]; rfl
            have hrm : RowD 0 (bats ms ++ [⟨endD 0 (bats ms), pid, pep, -1, true, mk, []⟩]) := row_marker HMU.out.row HMEM.out (by show 0 ≤ po; rw [HPO.out]; exact h0) HMK.out (by rw [← HEN.out]; omega)
            have hn5 : n5 = len + 1 := by
             have h5 := HN5.out
             have h6 := HMU.out.at_.row.length
             rw [List.length_append, h6, List.length_singleton] at h5
             omega
            have HMF : Hid (FoBats x11 0 ad5 n5 cap5 (ms ++ [(⟨⟨en, pid, pep, -1, true, mk, []⟩, none, 0⟩ : BM)])) := ⟨⟨HR5.out, fun m hm => by
             rcases List.mem_append.1 hm with hm | hm
             · exact (HMU.out.keep HU.out).at_.ins m hm
             · rw [List.mem_singleton.1 hm]; exact recsAt_nil _⟩, by omega, by rw [hb5]; exact hrm, by decide, by decide⟩
            have HE2 : Hid (endD 0 (bats (ms ++ [(⟨⟨en, pid, pep, -1, true, mk, []⟩, none, 0⟩ : BM)])) = en + 1) := by
             show _ = _
             rw [hb5, end_last (b := ⟨endD 0 (bats ms), pid, pep, -1, true, mk, []⟩) (by simp)]
             have h7 : countD ⟨endD 0 (bats ms), pid, pep, -1, true, mk, []⟩ = 1 := by
              unfold countD
              rw [if_pos (by have := HMK.out; simp only; omega)]
             rw [h7, HEN.out]
            have HS2 : Hid (st < stableD 0 (bats (ms ++ [(⟨⟨en, pid, pep, -1, true, mk, []⟩, none, 0⟩ : BM)]))) := by
             show _ < _
             rw [HSV.out.1, HVF.out, hb5, stable_st]
             refine stable_moves (E := endD 0 (bats ms)) (k := pid) (by have := HMK.out; simp only; omega) rfl (Int.le_refl _) ?_ (row_chain HMU.out.row (by decide)).1 (by rw [← HVF.out]; omega) ?_
             · have h8 := HE2.out
               rw [hb5] at h8
               rw [h8, HEN.out]
               show endD 0 (bats ms) < _
               omega
             · have h9 := opn_p (fun b hb => ⟨(HMU.out.foRow.ok b hb).1, (HMU.out.foRow.few b hb).1⟩) HMEM.out ((SnapMath.AccOk.right (SnapMath.row_acc HMU.out.row (by decide) (by decide)) _ HMEM.out).1.1)
               rw [← h9, ← HVF.out]
               exact HPO.out
            have hsv : (st == v) = true := by rw [HSV.out.1]; exact beq_self_eq_true v
            have hse : decide (st < en) = true := decide_eq_true (by rw [HSV.out.1]; exact HSV.out.2)
            obtain ⟨s2, hs2⟩ : ∃ x, x = stableD 0 (bats (ms ++ [(⟨⟨en, pid, pep, -1, true, mk, []⟩, none, 0⟩ : BM)])) := ⟨_, rfl⟩
            have hss : decide (st < s2) = true := decide_eq_true (by rw [hs2]; exact HS2.out)
            have HSE := Lib.hid hs2
            have hee : ((en + 1) == (en + 1)) = true := beq_self_eq_true _
            have hew : wrap64 (en + 1) = en + 1 := by unfold wrap64; omega
            have HBF : Hid (Below w.heap.size w x11) := HBU.out.trans (HU.out.mono HBU.out.size)
            clear hb5 hrm hn5 hs2 HU HR5 HN5 HNO HTK
            go_wp2_with fail
            refine (HC.out.stable x11 0 ad5 n5 cap5 _ HMF.out).mono ?_
            rintro e y1 ⟨rfl, hb⟩
            rw [← HSE.out]
            have HBF1 := Lib.hid (HBF.out.trans (hb.mono HBF.out.size))
            have HMF1 := Lib.hid (HMF.out.keep hb)
            clear hb
            go_wp2_with fail
            refine (HC.out.end_ y1 0 ad5 n5 cap5 _ HMF1.out).mono ?_
            rintro e y2 ⟨rfl, hb⟩
            rw [HE2.out]
            have HBF2 := Lib.hid (HBF1.out.trans (hb.mono HBF1.out.size))
            clear hb
            go_wp2_with fail
            refine (HK.out y2).mono ?_
            rintro e y3 ⟨rfl, hb⟩
            have HBF3 := Lib.hid (HBF2.out.trans (hb.mono HBF2.out.size))
            clear hb
            go_wp2
            go_ret
            exact ⟨rfl, HBF3.out⟩
      · have hdo : (po == v) = false := beq_false_of_ne hpo
        have HN2 : Hid (∀ q ∈ (pds ps).take (j + 1), q.opn ≠ v) := fun q hq => by
         rw [HTK.out] at hq
         rcases List.mem_append.1 hq with hq | hq
         · exact HNO.out q hq
         · rw [List.mem_singleton.1 hq]; exact hpo
        clear hpo HTK HMEM
        go_wp2
        go_roundw
        case rel => exact ⟨j + 1, rfl, hlt, HN2.out, HB6.out⟩
        case measure => simp [intOf]; omega
    · have hjn : j = tn := by omega
      obtain ⟨p, hp, hpv⟩ := HEX.out
      have h1 := HNO.out p (by
       rw [hjn, List.take_of_length_le (by unfold pds; rw [List.length_map, HPN.out]; exact Nat.le_refl _), HPS.out]
       exact hp)
      exact absurd hpv h1
 · have hd0 : decide (0 ≤ v) = false := decide_eq_false h0
   have HSE : Hid (st = en) := by
    show _ = _
    rw [HST.out, HEN.out]
    unfold stableD
    rw [← HVF.out, if_pos (by omega)]
   have hse : (st == en) = true := by rw [HSE.out]; exact beq_self_eq_true en
   clear hlow h0
   go_wp2_with fail
   refine (HK.out w5).mono ?_
   rintro e w6 ⟨rfl, hb⟩
   have HB6 := Lib.hid (HB5.out.trans (hb.mono HB5.out.size))
   clear hb
   go_wp2
   go_ret
   exact ⟨rfl, HB6.out⟩
end Go.Proofs.Ytipaebflkebdjaa
