/- Parts of a proof, merged: SnRead, PrSame, PrRefSame, TcRef. -/
import Derived.Deep.QuietTactic
import Derived.BigQuiet
import Derived.Test.YtgohekjkbgfeeaaGreatKn1
import Derived.Test.YtgohekjkbgfeeaaGreatKn11
import Derived.Test.YtgohekjkbgfeeaaGreatKn7
import Derived.Test.YtgohekjkbgfeeaaGreatKn10
import Derived.Test.YtgohekjkbgfeeaaGreatKn3
namespace Go.Proofs.YtgohekjkbgfeeaaGreat
open Go.RowKit
open Go.SnapMath
open Go.ProdMath
open Go.BatMath hiding AllB take_all
set_option linter.unusedVariables false

/-- The table and the number, or nothing. -/
def GivesSnap (w : World) (bs : List Nat) (e : Ending) (w' : World) : Prop :=
 Below w.heap.size w w' ∧ ((∃ ad len cap ms n, e = .returned (.tuple #[.slice ad len cap, .int .i64 n, .bool true]) ∧ PdsAt w' ad len cap ms ∧ IsSnap bs (pds ms) n) ∨
  (e = .returned (.tuple #[.slice none 0 0, .int .i64 0, .bool false]) ∧ ∀ l m, ¬ IsSnap bs l m))
theorem snap_none {w w' : World} {bs : List Nat} (hb : Below w.heap.size w w') (h : ∀ l m, ¬ IsSnap bs l m) : GivesSnap w bs (.returned (.tuple #[.slice none 0 0, .int .i64 0, .bool false])) w' := ⟨hb, .inr ⟨rfl, h⟩⟩
set_option maxRecDepth 100000 in
set_option maxHeartbeats 8000000 in
theorem snRead_any (w : World) (ad : Option Addr) (len cap : Nat) (bs : List Nat) (h : Byt w ad len cap bs) (hL : bs.length ≤ 1048600) :
 Calls Tryz.prog 29 #[.slice ad len cap] w (GivesSnap w bs) := by
 have H := Lib.hid h
 have hlen := h.length
 have hLl : len ≤ 140737488355300 := by omega
 have HSL : Hid ((openS bs).1.length ≤ 1048600) := by
  show _ ≤ _
  unfold openS
  split
  · rw [List.length_drop]; omega
  · exact Nat.zero_le _
 obtain ⟨⟨n0, b1, f1⟩, hn0⟩ : ∃ r, rdN (openS bs).1 (openS bs).2 = r := ⟨_, rfl⟩
 obtain ⟨⟨k0, b2, f2⟩, hk0⟩ : ∃ r, rdN b1 f1 = r := ⟨_, rfl⟩
 have hall := rdAll_of hn0 hk0
 obtain ⟨TOT, hT⟩ : ∃ t, rdPds k0.toNat [] b2 f2 = t := ⟨_, rfl⟩
 rw [hT] at hall
 have hl1 := rdN_len (openS bs).1 (openS bs).2
 have hl2 := rdN_len b1 f1
 have hi0 := rdN_in (openS bs).1 (openS bs).2
 have hi1 := rdN_in b1 f1
 rw [hn0] at hl1 hi0
 rw [hk0] at hl2 hi1
 simp only at hl1 hl2 hi0 hi1
 have HL2 : Hid (b2.length ≤ 1048600) := Nat.le_trans hl2.1 (Nat.le_trans hl1.1 HSL.out)
 have HL1 : Hid (b1.length ≤ 1048600) := Nat.le_trans hl1.1 HSL.out
 have HALL := Lib.hid hall
 have HTT := Lib.hid hT
 have HN0 := Lib.hid hn0
 have HK0 := Lib.hid hk0
 have HI0 := Lib.hid hi0
 have HBL : Hid (bs.length ≤ 1048600) := hL
 clear h hlen hL hn0 hk0 hall hT hl1 hl2 hi0
 go_enter Tryz.func29, Tryz.ntmps29
 go_wp2_with fail
 refine (unsealR_any w ad len cap bs H.out hLl).mono ?_
 rintro e w1 ⟨ad1, len1, cap1, rfl, hy1, hb1⟩
 have HY1 := Lib.hid hy1
 have HB1 := Lib.hid hb1
 clear hy1 hb1
 go_upto_region 3 with fail
 obtain ⟨W1, hW1⟩ : ∃ z, z = w1.alloc (.cells #[.slice ad1 len1 cap1, .bool (openS bs).2] 122) := ⟨_, rfl⟩
 obtain ⟨k, hk⟩ : ∃ k, k = w1.heap.size := ⟨_, rfl⟩
 have HRD : Hid (RdAt w1 W1 k (openS bs).1 (openS bs).2) := by
  show RdAt _ _ _ _ _
  rw [hW1, hk]
  exact ⟨Nat.le_refl _, (Below.refl _ _).alloc (Nat.le_refl _) _, _, _, _, rbox_new w1 _ _, HY1.out⟩
 have HB2 : Hid (Below w.heap.size w W1) := by show Below _ _ _; rw [hW1]; exact HB1.out.alloc HB1.out.size _
 have HWK : Hid (w.heap.size ≤ k) := by show _ ≤ _; rw [hk]; exact HB1.out.size
 rw [← hW1, ← hk]
 clear hW1 hk HB1 HY1
 go_wp2_with fail
 refine (num_any w1 W1 k _ _ HRD.out (Nat.le_trans HSL.out (by omega))).mono ?_
 rintro e W2 ⟨rfl, hr, hg⟩
 rw [HN0.out] at hr ⊢
 have HRD2 := Lib.hid hr
 have HB3 := Lib.hid (HB2.out.trans (below_grown hg HWK.out HB2.out.size))
 clear hr hg HRD HB2 HSL
 go_wp2_with fail
 refine (num_any w1 W2 k _ _ HRD2.out (Nat.le_trans HL1.out (by omega))).mono ?_
 rintro e W3 ⟨rfl, hr, hg⟩
 rw [HK0.out] at hr ⊢
 have HRD3 := Lib.hid hr
 have HB4 := Lib.hid (HB3.out.trans (below_grown hg HWK.out HB3.out.size))
 clear hr hg HRD2 HB3 HL1
 go_wp2
 go_loopw [9, 10] (fun v9 v10 wr => ∃ (z : Int) (b : List Nat) (f : Bool) (ms : List PM), v10 = .int .i64 z ∧ In64 z ∧ Hid (AccAt wr (k + 1) v9 ms) ∧ Hid (RdAt w1 wr k b f) ∧ Hid (AccOk (pds ms)) ∧ Hid (rdPds z.toNat (pds ms) b f = TOT) ∧ Hid (4 * ms.length + b.length ≤ 1048600 + (if f then 4 else 0)) ∧ Hid (Below w.heap.size w wr)) (fun _ v10 _ => (intOf v10).toNat)
 case atStart => exact ⟨k0, b2, f2, [], rfl, hi1, AccAt.nil _ _, HRD3.out, AccOk.nil, HTT.out, (by show 4 * 0 + b2.length ≤ _; have := HL2.out; omega), HB4.out⟩
 case round =>
  obtain ⟨z, b, f, ms, rfl, hz, HA, HRD, HAC, HTO, HLEN, HB⟩ := hrel
  clear HRD3 HB4 HL2 HTT
  obtain ⟨wo, hwo⟩ : ∃ wo : World, wo = wr := ⟨_, rfl⟩
  subst hwo
  obtain ⟨ln, hln⟩ : ∃ n, ms.length = n := ⟨_, rfl⟩
  obtain ⟨la, lc, rfl, _, _⟩ := OwnRow.row pdK_ok HA.out.own hln
  have HLN := Lib.hid hln
  clear hln
  by_cases hz0 : 0 < z
  · have hd : decide (0 < z) = true := decide_eq_true hz0
    cases f with
    | true =>
      have q1 := HRD.out.c1
      have HTF : Hid (TOT = some (pds ms, b, true)) := by show _ = _; rw [← HTO.out, rdPds_fell]
      have hall := HALL.out
      rw [HTF.out] at hall
      have HAF : Hid (rdAll bs = (n0, some (pds ms, b, true))) := hall
      clear hall
      obtain ⟨s2, hs2⟩ : ∃ s2, s2 = str bs := ⟨_, rfl⟩
      have KS : Hid (∀ V, Below wo.heap.size wo V → (fun (V : World) => (convert 31 9 (.slice ad len cap)).run Tryz.prog V = .ok (.string s2) V) V) := fun V hV => run_str_at (H.out.keep (HB.out.trans (hV.mono HB.out.size)) (Nat.le_refl _)) hs2
      have HS2 := Lib.hid hs2
      clear hs2
      have hdrw : Below wo.heap.size wo wo.drew := (Below.refl _ wo).drew
      obtain ⟨q, hq⟩ : ∃ q, (!true && b.isEmpty) = q := ⟨_, rfl⟩
      have HQ := Lib.hid hq
      clear hq
      cases q with
      | false =>
        have HNO : Hid (∀ l n, ¬ IsSnap bs l n) := SnapMath.rd_no HAF.out HBL.out (fun h => by
         have h1 := HQ.out
         cases h.1)
        go_upto_region 16 with fail
        refine wp_region_noPanic ?_
        refine wp_region_z [] (fun (V : World) => (convert 31 9 (.slice ad len cap)).run Tryz.prog V = .ok (.string s2) V) (by kernel_rfl) ?_
        have hHeld := KS.out _ hdrw
        obtain ⟨uf_0, hu⟩ : ∃ u, u = wo.drew := ⟨_, rfl⟩
        rw [← hu] at hHeld hdrw
        rw [← hu]
        clear hu
        have HU := Lib.hid hdrw
        clear hdrw
        refine zt 0 ?_
        refine zr 1 (fun C hC => ?_)
        go_simp
        refine (done_any w1 uf_0 k b true (HRD.out.on HU.out)).mono ?_
        rintro e uf_1 ⟨rfl, hb⟩
        rw [HQ.out]
        replace HU := Lib.hid (HU.out.trans (hb.mono HU.out.size))
        clear hb
        have hHeld := KS.out _ HU.out
        refine zc hC hHeld ?_
        clear hC C
        refine zt 2 ?_
        refine zt 3 ?_
        refine zt 4 ?_
        refine zt 5 ?_
        refine zt 6 ?_
        refine zt 7 ?_
        refine zt 8 ?_
        refine zt 9 ?_
        refine zt 10 ?_
        refine zt 11 ?_
        refine zt 12 ?_
        refine zt 13 ?_
        refine zt 14 ?_
        refine zt 15 ?_
        refine zt 16 ?_
        refine zt 17 ?_
        refine zt 18 ?_
        refine zt 19 ?_
        refine wpAnyZ_done (by kernel_rfl) ?_ _
        refine NoPanic.normal ?_
        clear hHeld KS
        go_wp2
        go_ret3
        exact snap_none (HB.out.trans (HU.out.mono HB.out.size)) HNO.out
      | true => cases HQ.out
    | false =>
      have hr0 := HRD.out.box
      obtain ⟨qa, qn, qc, hqb, hqy⟩ := hr0
      have q1 := hqb.c1
      clear hqb hqy
      obtain ⟨⟨pid, c1, g1⟩, e1⟩ : ∃ r, rdN b false = r := ⟨_, rfl⟩
      obtain ⟨⟨pep, c2, g2⟩, e2⟩ : ∃ r, rdN c1 g1 = r := ⟨_, rfl⟩
      obtain ⟨⟨po, c3, g3⟩, e3⟩ : ∃ r, rdN c2 g2 = r := ⟨_, rfl⟩
      obtain ⟨⟨kk, c4, g4⟩, e4⟩ : ∃ r, rdN c3 g3 = r := ⟨_, rfl⟩
      obtain ⟨⟨pl, c5, g5⟩, e5⟩ : ∃ r, rdTrs kk.toNat c4 g4 = r := ⟨_, rfl⟩
      have HPD := Lib.hid (rdPd_of e1 e2 e3 e4 e5)
      have hL0 : b.length ≤ 1048600 := by
       have h1 : 4 * ms.length + b.length ≤ 1048600 + 0 := HLEN.out
       omega
      have l1 := (rdN_len b false).1
      have l2 := (rdN_len c1 g1).1
      have l3 := (rdN_len c2 g2).1
      have l4 := (rdN_len c3 g3).1
      have l5 := (rdTrs_len kk.toNat c4 g4).1
      have hik := rdN_in c3 g3
      rw [e1] at l1
      rw [e2] at l2
      rw [e3] at l3
      rw [e4] at l4 hik
      rw [e5] at l5
      simp only at l1 l2 l3 l4 l5 hik
      have HE1 := Lib.hid e1
      have HE2 := Lib.hid e2
      have HE3 := Lib.hid e3
      have HE4 := Lib.hid e4
      have HE5 := Lib.hid e5
      have HK0' : Hid (b.length ≤ 140737488355328) := by show _ ≤ _; omega
      have HK1 : Hid (c1.length ≤ 140737488355328) := by show _ ≤ _; omega
      have HK2 : Hid (c2.length ≤ 140737488355328) := by show _ ≤ _; omega
      have HK3 : Hid (c3.length ≤ 140737488355328) := by show _ ≤ _; omega
      have HK4 : Hid (c4.length ≤ 1048600) := by show _ ≤ _; omega
      have HPL : Hid (pl.length ≤ 1048600) := by show _ ≤ _; omega
      clear e1 e2 e3 e4 e5 l1 l2 l3 l4 l5 hL0
      go_wp2_with fail
      refine (num_any w1 wo k _ _ HRD.out HK0'.out).mono ?_
      rintro e wa ⟨rfl, hr, hg⟩
      rw [HE1.out] at hr ⊢
      have HRa := Lib.hid hr
      have HGa : Hid (wo.grownBy wa (some k)) := hg
      clear hr hg HRD q1
      go_wp2_with fail
      refine (num_any w1 wa k _ _ HRa.out HK1.out).mono ?_
      rintro e wb ⟨rfl, hr, hg⟩
      rw [HE2.out] at hr ⊢
      have HRb := Lib.hid hr
      have HGb : Hid (wo.grownBy wb (some k)) := grow_trans HGa.out hg
      clear hr hg HRa HGa
      go_wp2_with fail
      refine (num_any w1 wb k _ _ HRb.out HK2.out).mono ?_
      rintro e wc ⟨rfl, hr, hg⟩
      rw [HE3.out] at hr ⊢
      have HRc := Lib.hid hr
      have HGc : Hid (wo.grownBy wc (some k)) := grow_trans HGb.out hg
      clear hr hg HRb HGb
      go_upto_region 9 with fail
      obtain ⟨W4, hW4⟩ : ∃ x, x = wc.alloc (.cells #[.int .i64 pid, .int .i64 pep, .slice none 0 0, .int .i64 po] 78) := ⟨_, rfl⟩
      obtain ⟨P, hP⟩ : ∃ x, x = wc.heap.size := ⟨_, rfl⟩
      have hb4 : Below wc.heap.size wc W4 := by rw [hW4]; exact (Below.refl _ _).alloc (Nat.le_refl _) _
      have HP4 : Hid (PBox W4 P pid pep (.slice none 0 0) po) := by show PBox _ _ _ _ _ _; rw [hW4, hP]; exact pbox_new wc _ _ _ _
      have HKP : Hid (k < P) := by show _ < _; rw [hP]; exact HRc.out.lt
      have HWP : Hid (wo.heap.size ≤ P) := by show _ ≤ _; rw [hP]; exact HGc.out.size
      have HR4 := Lib.hid (HRc.out.on hb4)
      have HG4 : Hid (wo.grownBy W4 (some k)) := grow_below HGc.out hb4
      rw [← hW4, ← hP]
      clear hW4 hP hb4 HRc HGc
      go_wp2_with fail
      refine (num_any w1 W4 k _ _ HR4.out HK3.out).mono ?_
      rintro e W5 ⟨rfl, hr, hg⟩
      rw [HE4.out] at hr ⊢
      have HR5 := Lib.hid hr
      have HG5 : Hid (wo.grownBy W5 (some k)) := grow_trans HG4.out hg
      have HP5 := Lib.hid (HP4.out.grown hg (fun e => Nat.lt_irrefl _ (show k < k from (Option.some.inj e) ▸ HKP.out)))
      clear hr hg HR4 HG4 HP4
      go_wp2
      go_loopw [12] (fun v12 wr => ∃ (y : Int) (ci : List Nat) (gi : Bool) (v : Value) (xs : List Tr), v12 = .int .i64 y ∧ In64 y ∧ Hid (PBox wr P pid pep v po) ∧ Hid (OwnRow trK wr (P + 1) v xs) ∧ Hid (RdAt w1 wr k ci gi) ∧ Hid (wo.grownBy wr (some k)) ∧ Hid (xs ++ (rdTrs y.toNat ci gi).1 = pl ∧ (rdTrs y.toNat ci gi).2 = (c5, g5)) ∧ Hid (ci.length ≤ 1048600)) (fun v12 _ => (intOf v12).toNat)
      case atStart => exact ⟨kk, c4, g4, _, [], rfl, hik, HP5.out, ownRow_nil trK _ _, HR5.out, HG5.out, (by rw [HE5.out]; exact ⟨rfl, rfl⟩), HK4.out⟩
      case round =>
       obtain ⟨y, ci, gi, v, xs, rfl, hy, HP, HO, HR, HG, HX, HCL⟩ := hrel
       clear HP5 HR5 HG5
       obtain ⟨wi, hwi⟩ : ∃ wi : World, wi = wr := ⟨_, rfl⟩
       subst hwi
       have q1 := HR.out.c1
       by_cases hy0 : 0 < y
       · have hd2 : decide (0 < y) = true := decide_eq_true hy0
         cases gi with
         | true =>
           have hx := HX.out
           rw [rdTrs_fell] at hx
           have HXF : Hid (xs = pl ∧ ci = c5 ∧ true = g5) := ⟨by simpa using hx.1, congrArg Prod.fst hx.2, congrArg Prod.snd hx.2⟩
           clear hx
           have hp2 := HO.out
           rw [HXF.out.1] at hp2
           have hr2 := HR.out
           rw [HXF.out.2.1, HXF.out.2.2] at hr2
           obtain ⟨pn, hpn⟩ : ∃ n, pl.length = n := ⟨_, rfl⟩
           obtain ⟨pa, pc, rfl, hlr, hpk⟩ := OwnRow.row trK_ok hp2 hpn
           have HRE := Lib.hid hr2
           have HLR := Lib.hid hlr
           have HPK : Hid (∀ a, pa = some a → P + 1 ≤ a.block ∧ a.block < wi.heap.size) := hpk
           have HPN := Lib.hid hpn
           have HAi := Lib.hid (HA.out.grown HG.out (Nat.lt_succ_self k))
           have hbw : Below w.heap.size w wi := HB.out.trans (below_grown HG.out HWK.out HB.out.size)
           have HBi := Lib.hid hbw
           have HAK : Hid (∀ a, pa = some a → k + 1 ≤ a.block ∧ a.block < wi.heap.size ∧ (Value.slice la ln lc).ownBlock ≠ some a.block) := fun a ha => by
            have h1 := hpk a ha
            have h2 : k < P := HKP.out
            refine ⟨by omega, h1.2, fun e => ?_⟩
            have h3 := (HA.out.own.lt _ e).2
            have h4 : wo.heap.size ≤ P := HWP.out
            omega
           have hpnl : pn ≤ 100000000000 := by have h1 : pl.length ≤ 1048600 := HPL.out; omega
           have hto := HTO.out
           obtain ⟨m, hm⟩ : ∃ m, z.toNat = m + 1 := ⟨z.toNat - 1, by omega⟩
           rw [hm] at hto
           have HTM := Lib.hid hto
           have HM := Lib.hid hm
           clear hp2 hr2 hlr hpk hpn hbw HXF HX HO HR hto hm
           cases hrr : okP ⟨pid, pep, pl, po⟩ with
           | false =>
             have HNO : Hid (∀ l n, ¬ IsSnap bs l n) := by
              have h1 := HTM.out
              rw [rdPds_no HPD.out (Or.inl hrr)] at h1
              have h2 := HALL.out
              rw [← h1] at h2
              exact SnapMath.rd_none h2 HBL.out
             have HRR : Hid (false = true ↔ RightP ⟨pid, pep, pl, po⟩) := by show _ ↔ _; rw [← okP_iff, hrr]
             clear hrr
             go_upto_region 13 with fail
             clear q1
             have KS : Hid (∀ V, Below wi.heap.size wi V → (fun (V : World) => V.cell? ⟨P, 0, none⟩ = some (.int .i64 pid) ∧ V.cell? ⟨P, 1, none⟩ = some (.int .i64 pep) ∧ V.cell? ⟨P, 2, none⟩ = some (.slice pa pn pc) ∧ V.cell? ⟨P, 3, none⟩ = some (.int .i64 po)) V) := fun V hV => ⟨(HP.out.on hV).c0, (HP.out.on hV).c1, (HP.out.on hV).c2, (HP.out.on hV).c3⟩
             have hdrw : Below wi.heap.size wi wi.drew := (Below.refl _ wi).drew
             refine wp_region_noPanic ?_
             refine wp_region_z [] (fun (V : World) => V.cell? ⟨P, 0, none⟩ = some (.int .i64 pid) ∧ V.cell? ⟨P, 1, none⟩ = some (.int .i64 pep) ∧ V.cell? ⟨P, 2, none⟩ = some (.slice pa pn pc) ∧ V.cell? ⟨P, 3, none⟩ = some (.int .i64 po)) (by kernel_rfl) ?_
             have hHeld := KS.out _ hdrw
             obtain ⟨ue_0, hu⟩ : ∃ u, u = wi.drew := ⟨_, rfl⟩
             rw [← hu] at hHeld hdrw
             rw [← hu]
             clear hu
             have HU := Lib.hid hdrw
             clear hdrw
             refine zt 0 ?_
             refine zr 1 (fun C hC => ?_)
             go_simp
             refine (prRefRight_any ue_0 pid pep po pl pa pn pc (HLR.out.keep HU.out) hpnl false HRR.out).mono ?_
             rintro e ue_1 ⟨rfl, hb⟩
             replace HU := Lib.hid (HU.out.trans (hb.mono HU.out.size))
             clear hb
             have hHeld := KS.out _ HU.out
             refine zc hC hHeld ?_
             clear hC C
             refine zt 2 ?_
             refine zt 3 ?_
             refine zt 4 ?_
             refine zt 5 ?_
             refine zt 6 ?_
             refine zt 7 ?_
             refine zt 8 ?_
             refine zt 9 ?_
             refine zt 10 ?_
             refine zt 11 ?_
             refine zt 12 ?_
             refine zt 13 ?_
             refine zt 14 ?_
             refine zt 15 ?_
             refine zt 16 ?_
             refine zt 17 ?_
             refine zt 18 ?_
             refine zt 19 ?_
             refine wpAnyZ_done (by kernel_rfl) ?_ _
             refine NoPanic.normal ?_
             clear hHeld KS
             go_wp2
             go_ret3
             exact snap_none (HBi.out.trans (HU.out.mono HBi.out.size)) HNO.out
           | true =>
             have HRR : Hid (true = true ↔ RightP ⟨pid, pep, pl, po⟩) := by show _ ↔ _; rw [← okP_iff, hrr]
             have HRT : Hid (okP ⟨pid, pep, pl, po⟩ = true) := hrr
             clear hrr
             rcases Nat.eq_zero_or_pos ln with h0 | h0
             · subst h0
               have hmn : ms = [] := List.eq_nil_of_length_eq_zero HLN.out
               have HLI : Hid (lastId (pds ms) ⟨pid, pep, pl, po⟩ = true) := by show _ = _; rw [hmn]; rfl
               clear hmn
               go_upto_region 13 with fail
               clear q1
               have KS : Hid (∀ V, Below wi.heap.size wi V → (fun (V : World) => V.cell? ⟨P, 0, none⟩ = some (.int .i64 pid) ∧ V.cell? ⟨P, 1, none⟩ = some (.int .i64 pep) ∧ V.cell? ⟨P, 2, none⟩ = some (.slice pa pn pc) ∧ V.cell? ⟨P, 3, none⟩ = some (.int .i64 po)) V) := fun V hV => ⟨(HP.out.on hV).c0, (HP.out.on hV).c1, (HP.out.on hV).c2, (HP.out.on hV).c3⟩
               have hdrw : Below wi.heap.size wi wi.drew := (Below.refl _ wi).drew
               refine wp_region_noPanic ?_
               refine wp_region_z [] (fun (V : World) => V.cell? ⟨P, 0, none⟩ = some (.int .i64 pid) ∧ V.cell? ⟨P, 1, none⟩ = some (.int .i64 pep) ∧ V.cell? ⟨P, 2, none⟩ = some (.slice pa pn pc) ∧ V.cell? ⟨P, 3, none⟩ = some (.int .i64 po)) (by kernel_rfl) ?_
               have hHeld := KS.out _ hdrw
               obtain ⟨ue_0, hu⟩ : ∃ u, u = wi.drew := ⟨_, rfl⟩
               rw [← hu] at hHeld hdrw
               rw [← hu]
               clear hu
               have HU := Lib.hid hdrw
               clear hdrw
               refine zt 0 ?_
               refine zr 1 (fun C hC => ?_)
               go_simp
               refine (prRefRight_any ue_0 pid pep po pl pa pn pc (HLR.out.keep HU.out) hpnl true HRR.out).mono ?_
               rintro e ue_1 ⟨rfl, hb⟩
               replace HU := Lib.hid (HU.out.trans (hb.mono HU.out.size))
               clear hb
               have hHeld := KS.out _ HU.out
               refine zc hC hHeld ?_
               clear hC C
               refine zt 2 ?_
               refine zt 3 ?_
               refine zt 4 ?_
               refine zt 5 ?_
               refine zt 6 ?_
               refine zt 7 ?_
               refine zt 8 ?_
               refine zt 9 ?_
               refine zt 10 ?_
               refine zt 11 ?_
               refine zt 12 ?_
               refine zt 13 ?_
               refine zt 14 ?_
               refine zt 15 ?_
               refine zt 16 ?_
               refine zt 17 ?_
               refine zt 18 ?_
               refine zt 19 ?_
               refine wpAnyZ_done (by kernel_rfl) ?_ _
               refine NoPanic.normal ?_
               clear hHeld KS
               have HPx := Lib.hid (HP.out.on HU.out)
               have p0 := HPx.out.c0
               have p1 := HPx.out.c1
               have p2 := HPx.out.c2
               have p3 := HPx.out.c3
               have HRx := Lib.hid (HRE.out.on HU.out)
               have HBx : Hid (Below w.heap.size w (ue_1.alloc (.cells #[.int .i64 pid, .int .i64 pep, .slice pa pn pc, .int .i64 po] 78))) := (HBi.out.trans (HU.out.mono HBi.out.size)).alloc (HBi.out.trans (HU.out.mono HBi.out.size)).size _
               have hba : Below ue_1.heap.size ue_1 (ue_1.alloc (.cells #[.int .i64 pid, .int .i64 pep, .slice pa pn pc, .int .i64 po] 78)) := (Below.refl _ _).alloc (Nat.le_refl _) _
               have HAx := Lib.hid ((HAi.out.on HU.out).on hba)
               have HLx : Hid (LastAt (ue_1.alloc (.cells #[.int .i64 pid, .int .i64 pep, .slice pa pn pc, .int .i64 po] 78)) ⟨⟨pid, pep, pl, po⟩, pa, pc⟩) := by
                have h1 := (HLR.out.keep HU.out).keep hba
                rw [← HPN.out] at h1 ⊢
                exact h1
               have HQx : Hid (RowAt pdK (ue_1.alloc (.cells #[.int .i64 pid, .int .i64 pep, .slice pa pn pc, .int .i64 po] 78)) (some ⟨ue_1.heap.size, 0, none⟩) 1 1 [⟨⟨pid, pep, pl, po⟩, pa, pc⟩]) := rowAt_lit pdK_ok ue_1 [⟨⟨pid, pep, pl, po⟩, pa, pc⟩] (by simp) _ (by rw [← HPN.out]; rfl) 1 rfl
               have HRy := Lib.hid (HRx.out.on hba)
               have hks : k + 1 ≤ (ue_1.alloc (.cells #[.int .i64 pid, .int .i64 pep, .slice pa pn pc, .int .i64 po] 78)).heap.size := HRy.out.lt
               have hms : ms.length ≤ 1000000 := by have h1 : 4 * ms.length + b.length ≤ 1048600 + 0 := HLEN.out; omega
               go_wp2_with (at_builtin; refine list_row (by rfl) pdK_ok (.tmp 90) (.tmp 92) rfl (k + 1) ms [⟨⟨pid, pep, pl, po⟩, pa, pc⟩] _ rfl HAx.out.own hks (some ⟨ue_1.heap.size, 0, none⟩) 1 1 rfl HQx.out (by omega) ?_)
               intro v4 w4 hap
               have HAz := Lib.hid (HAx.out.snoc HLx.out (fun a ha => by obtain ⟨h1, h2, h3⟩ := HAK.out a ha; exact ⟨h1, Nat.lt_of_lt_of_le (Nat.lt_of_lt_of_le h2 HU.out.size) hba.size, h3⟩) hap)
               have HRz : Hid (RdAt w1 w4 k c5 g5) := HRy.out.grown hap.2.1 (fun j hj => (HAx.out.own.lt j hj).1)
               have HBz : Hid (Below w.heap.size w w4) := HBx.out.grown hap.2.1 HBx.out.size (fun j hj => Nat.le_trans HWK.out (Nat.le_of_lt (HAx.out.own.lt j hj).1))
               have HCz : Hid (AccOk (pds (ms ++ [⟨⟨pid, pep, pl, po⟩, pa, pc⟩]))) := by
                show AccOk _
                rw [pds_snoc]
                have h1 := rdPd_id b false
                rw [HPD.out] at h1
                exact HAC.out.snoc ((okP_iff _).1 HRT.out) h1 HLI.out
               have HTz : Hid (rdPds (z - 1).toNat (pds (ms ++ [⟨⟨pid, pep, pl, po⟩, pa, pc⟩])) c5 g5 = TOT) := by
                show _ = _
                have h1 : (z - 1).toNat = m := by have := HM.out; omega
                rw [h1, pds_snoc, ← HTM.out, rdPds_yes HPD.out HRT.out HLI.out]
               have HLz : Hid (4 * (ms ++ [(⟨⟨pid, pep, pl, po⟩, pa, pc⟩ : PM)]).length + c5.length ≤ 1048600 + (if g5 then 4 else 0)) := by
                show _ ≤ _
                have h1 := rdPd_left b false
                rw [HPD.out] at h1
                have h2 : 4 * ms.length + b.length ≤ 1048600 + 0 := HLEN.out
                rw [List.length_append, List.length_singleton]
                revert h1
                cases g5
                · intro h1
                  have h1 : c5.length + 4 ≤ b.length := h1
                  show _ ≤ 1048600 + 0
                  omega
                · intro h1
                  have h1 : c5.length + 0 ≤ b.length := h1
                  show _ ≤ 1048600 + 4
                  omega
               obtain ⟨hz1, hz2⟩ := hz
               have hwz : wrap64 (z - 1) = z - 1 := by unfold wrap64; omega
               clear hap hba HAx HLx HQx HRx HRy HBx p0 p1 p2 p3
               go_wp2
               go_roundw
               case rel => exact ⟨z - 1, c5, g5, ms ++ [(⟨⟨pid, pep, pl, po⟩, pa, pc⟩ : PM)], by first | rfl | rw [hwz], ⟨by omega, by omega⟩, HAz.out, HRz.out, HCz.out, HTz.out, HLz.out, HBz.out⟩
               case measure => simp [intOf]; first | omega | (rw [hwz]; omega)
             · obtain ⟨n1, rfl⟩ : ∃ n, ln = n + 1 := ⟨ln - 1, by omega⟩
               obtain ⟨lb, loff, q, rfl, hlb, hq, _, hc0, _, _, _⟩ := HAi.out.row.1.get (Nat.lt_succ_self n1)
               have hqi := lastId_at ⟨pid, pep, pl, po⟩ HLN.out hq
               obtain ⟨qid, hqd⟩ : ∃ x, q.p.id = x := ⟨_, rfl⟩
               rw [hqd] at hc0 hqi
               have HQI : Hid (lastId (pds ms) ⟨pid, pep, pl, po⟩ = decide (qid < pid)) := hqi
               have HC0 := Lib.hid hc0
               have HLB : Hid (lb < wi.heap.size) := hlb
               clear hqi hqd hq hc0 hlb
               have hn1 : n1 ≤ 1000000 := by have h1 : 4 * ms.length + b.length ≤ 1048600 + 0 := HLEN.out; have h2 := HLN.out; omega
               have hi4 : IntKind.i64.wrap (n1 : Int) = (n1 : Int) := IntWalk.i64_in _ (by omega)
               have hi5 : (0 : Int) ≤ (n1 : Int) := by omega
               have hi6 : (n1 : Int) < (n1 : Int) + 1 := by omega
               by_cases hlt : qid < pid
               · have HLI : Hid (lastId (pds ms) ⟨pid, pep, pl, po⟩ = true) := by show _ = _; rw [HQI.out]; exact decide_eq_true hlt
                 have hd3 : decide (pid ≤ qid) = false := decide_eq_false (by omega)
                 go_upto_region 13 with fail
                 clear q1
                 have KS : Hid (∀ V, Below wi.heap.size wi V → (fun (V : World) => V.cell? ⟨P, 0, none⟩ = some (.int .i64 pid) ∧ V.cell? ⟨P, 1, none⟩ = some (.int .i64 pep) ∧ V.cell? ⟨P, 2, none⟩ = some (.slice pa pn pc) ∧ V.cell? ⟨P, 3, none⟩ = some (.int .i64 po) ∧ V.cell? ⟨lb, loff + n1 * 4, none⟩ = some (.int .i64 qid)) V) := fun V hV => ⟨(HP.out.on hV).c0, (HP.out.on hV).c1, (HP.out.on hV).c2, (HP.out.on hV).c3, (hV.cell HLB.out).trans HC0.out⟩
                 have hdrw : Below wi.heap.size wi wi.drew := (Below.refl _ wi).drew
                 refine wp_region_noPanic ?_
                 refine wp_region_z [] (fun (V : World) => V.cell? ⟨P, 0, none⟩ = some (.int .i64 pid) ∧ V.cell? ⟨P, 1, none⟩ = some (.int .i64 pep) ∧ V.cell? ⟨P, 2, none⟩ = some (.slice pa pn pc) ∧ V.cell? ⟨P, 3, none⟩ = some (.int .i64 po) ∧ V.cell? ⟨lb, loff + n1 * 4, none⟩ = some (.int .i64 qid)) (by kernel_rfl) ?_
                 have hHeld := KS.out _ hdrw
                 obtain ⟨ue_0, hu⟩ : ∃ u, u = wi.drew := ⟨_, rfl⟩
                 rw [← hu] at hHeld hdrw
                 rw [← hu]
                 clear hu
                 have HU := Lib.hid hdrw
                 clear hdrw
                 refine zt 0 ?_
                 refine zr 1 (fun C hC => ?_)
                 go_simp
                 refine (prRefRight_any ue_0 pid pep po pl pa pn pc (HLR.out.keep HU.out) hpnl true HRR.out).mono ?_
                 rintro e ue_1 ⟨rfl, hb⟩
                 replace HU := Lib.hid (HU.out.trans (hb.mono HU.out.size))
                 clear hb
                 have hHeld := KS.out _ HU.out
                 refine zc hC hHeld ?_
                 clear hC C
                 refine zt 2 ?_
                 refine zt 3 ?_
                 refine zt 4 ?_
                 refine zt 5 ?_
                 refine zt 6 ?_
                 refine zt 7 ?_
                 refine zt 8 ?_
                 refine zt 9 ?_
                 refine zt 10 ?_
                 refine zt 11 ?_
                 refine zt 12 ?_
                 refine zt 13 ?_
                 refine zt 14 ?_
                 refine zt 15 ?_
                 refine zt 16 ?_
                 refine zt 17 ?_
                 refine zt 18 ?_
                 refine zt 19 ?_
                 refine wpAnyZ_done (by kernel_rfl) ?_ _
                 refine NoPanic.normal ?_
                 clear hHeld KS
                 have HPx := Lib.hid (HP.out.on HU.out)
                 have p0 := HPx.out.c0
                 have p1 := HPx.out.c1
                 have p2 := HPx.out.c2
                 have p3 := HPx.out.c3
                 have HRx := Lib.hid (HRE.out.on HU.out)
                 have HBx : Hid (Below w.heap.size w (ue_1.alloc (.cells #[.int .i64 pid, .int .i64 pep, .slice pa pn pc, .int .i64 po] 78))) := (HBi.out.trans (HU.out.mono HBi.out.size)).alloc (HBi.out.trans (HU.out.mono HBi.out.size)).size _
                 have hba : Below ue_1.heap.size ue_1 (ue_1.alloc (.cells #[.int .i64 pid, .int .i64 pep, .slice pa pn pc, .int .i64 po] 78)) := (Below.refl _ _).alloc (Nat.le_refl _) _
                 have HAx := Lib.hid ((HAi.out.on HU.out).on hba)
                 have HLx : Hid (LastAt (ue_1.alloc (.cells #[.int .i64 pid, .int .i64 pep, .slice pa pn pc, .int .i64 po] 78)) ⟨⟨pid, pep, pl, po⟩, pa, pc⟩) := by
                  have h1 := (HLR.out.keep HU.out).keep hba
                  rw [← HPN.out] at h1 ⊢
                  exact h1
                 have HQx : Hid (RowAt pdK (ue_1.alloc (.cells #[.int .i64 pid, .int .i64 pep, .slice pa pn pc, .int .i64 po] 78)) (some ⟨ue_1.heap.size, 0, none⟩) 1 1 [⟨⟨pid, pep, pl, po⟩, pa, pc⟩]) := rowAt_lit pdK_ok ue_1 [⟨⟨pid, pep, pl, po⟩, pa, pc⟩] (by simp) _ (by rw [← HPN.out]; rfl) 1 rfl
                 have HRy := Lib.hid (HRx.out.on hba)
                 have hks : k + 1 ≤ (ue_1.alloc (.cells #[.int .i64 pid, .int .i64 pep, .slice pa pn pc, .int .i64 po] 78)).heap.size := HRy.out.lt
                 have hms : ms.length ≤ 1000000 := by have h1 : 4 * ms.length + b.length ≤ 1048600 + 0 := HLEN.out; omega
                 go_wp2_with (at_builtin; refine list_row (by rfl) pdK_ok (.tmp 90) (.tmp 92) rfl (k + 1) ms [⟨⟨pid, pep, pl, po⟩, pa, pc⟩] _ rfl HAx.out.own hks (some ⟨ue_1.heap.size, 0, none⟩) 1 1 rfl HQx.out (by omega) ?_)
                 intro v4 w4 hap
                 have HAz := Lib.hid (HAx.out.snoc HLx.out (fun a ha => by obtain ⟨h1, h2, h3⟩ := HAK.out a ha; exact ⟨h1, Nat.lt_of_lt_of_le (Nat.lt_of_lt_of_le h2 HU.out.size) hba.size, h3⟩) hap)
                 have HRz : Hid (RdAt w1 w4 k c5 g5) := HRy.out.grown hap.2.1 (fun j hj => (HAx.out.own.lt j hj).1)
                 have HBz : Hid (Below w.heap.size w w4) := HBx.out.grown hap.2.1 HBx.out.size (fun j hj => Nat.le_trans HWK.out (Nat.le_of_lt (HAx.out.own.lt j hj).1))
                 have HCz : Hid (AccOk (pds (ms ++ [⟨⟨pid, pep, pl, po⟩, pa, pc⟩]))) := by
                  show AccOk _
                  rw [pds_snoc]
                  have h1 := rdPd_id b false
                  rw [HPD.out] at h1
                  exact HAC.out.snoc ((okP_iff _).1 HRT.out) h1 HLI.out
                 have HTz : Hid (rdPds (z - 1).toNat (pds (ms ++ [⟨⟨pid, pep, pl, po⟩, pa, pc⟩])) c5 g5 = TOT) := by
                  show _ = _
                  have h1 : (z - 1).toNat = m := by have := HM.out; omega
                  rw [h1, pds_snoc, ← HTM.out, rdPds_yes HPD.out HRT.out HLI.out]
                 have HLz : Hid (4 * (ms ++ [(⟨⟨pid, pep, pl, po⟩, pa, pc⟩ : PM)]).length + c5.length ≤ 1048600 + (if g5 then 4 else 0)) := by
                  show _ ≤ _
                  have h1 := rdPd_left b false
                  rw [HPD.out] at h1
                  have h2 : 4 * ms.length + b.length ≤ 1048600 + 0 := HLEN.out
                  rw [List.length_append, List.length_singleton]
                  revert h1
                  cases g5
                  · intro h1
                    have h1 : c5.length + 4 ≤ b.length := h1
                    show _ ≤ 1048600 + 0
                    omega
                  · intro h1
                    have h1 : c5.length + 0 ≤ b.length := h1
                    show _ ≤ 1048600 + 4
                    omega
                 obtain ⟨hz1, hz2⟩ := hz
                 have hwz : wrap64 (z - 1) = z - 1 := by unfold wrap64; omega
                 clear hap hba HAx HLx HQx HRx HRy HBx p0 p1 p2 p3
                 go_wp2
                 go_roundw
                 case rel => exact ⟨z - 1, c5, g5, ms ++ [(⟨⟨pid, pep, pl, po⟩, pa, pc⟩ : PM)], by first | rfl | rw [hwz], ⟨by omega, by omega⟩, HAz.out, HRz.out, HCz.out, HTz.out, HLz.out, HBz.out⟩
                 case measure => simp [intOf]; first | omega | (rw [hwz]; omega)
               · have HNO : Hid (∀ l n, ¬ IsSnap bs l n) := by
                  have h1 := HTM.out
                  rw [rdPds_no HPD.out (Or.inr (by rw [HQI.out]; exact decide_eq_false hlt))] at h1
                  have h2 := HALL.out
                  rw [← h1] at h2
                  exact SnapMath.rd_none h2 HBL.out
                 have hd3 : decide (pid ≤ qid) = true := decide_eq_true (by omega)
                 go_upto_region 13 with fail
                 clear q1
                 have KS : Hid (∀ V, Below wi.heap.size wi V → (fun (V : World) => V.cell? ⟨P, 0, none⟩ = some (.int .i64 pid) ∧ V.cell? ⟨P, 1, none⟩ = some (.int .i64 pep) ∧ V.cell? ⟨P, 2, none⟩ = some (.slice pa pn pc) ∧ V.cell? ⟨P, 3, none⟩ = some (.int .i64 po) ∧ V.cell? ⟨lb, loff + n1 * 4, none⟩ = some (.int .i64 qid)) V) := fun V hV => ⟨(HP.out.on hV).c0, (HP.out.on hV).c1, (HP.out.on hV).c2, (HP.out.on hV).c3, (hV.cell HLB.out).trans HC0.out⟩
                 have hdrw : Below wi.heap.size wi wi.drew := (Below.refl _ wi).drew
                 refine wp_region_noPanic ?_
                 refine wp_region_z [] (fun (V : World) => V.cell? ⟨P, 0, none⟩ = some (.int .i64 pid) ∧ V.cell? ⟨P, 1, none⟩ = some (.int .i64 pep) ∧ V.cell? ⟨P, 2, none⟩ = some (.slice pa pn pc) ∧ V.cell? ⟨P, 3, none⟩ = some (.int .i64 po) ∧ V.cell? ⟨lb, loff + n1 * 4, none⟩ = some (.int .i64 qid)) (by kernel_rfl) ?_
                 have hHeld := KS.out _ hdrw
                 obtain ⟨ue_0, hu⟩ : ∃ u, u = wi.drew := ⟨_, rfl⟩
                 rw [← hu] at hHeld hdrw
                 rw [← hu]
                 clear hu
                 have HU := Lib.hid hdrw
                 clear hdrw
                 refine zt 0 ?_
                 refine zr 1 (fun C hC => ?_)
                 go_simp
                 refine (prRefRight_any ue_0 pid pep po pl pa pn pc (HLR.out.keep HU.out) hpnl true HRR.out).mono ?_
                 rintro e ue_1 ⟨rfl, hb⟩
                 replace HU := Lib.hid (HU.out.trans (hb.mono HU.out.size))
                 clear hb
                 have hHeld := KS.out _ HU.out
                 refine zc hC hHeld ?_
                 clear hC C
                 refine zt 2 ?_
                 refine zt 3 ?_
                 refine zt 4 ?_
                 refine zt 5 ?_
                 refine zt 6 ?_
                 refine zt 7 ?_
                 refine zt 8 ?_
                 refine zt 9 ?_
                 refine zt 10 ?_
                 refine zt 11 ?_
                 refine zt 12 ?_
                 refine zt 13 ?_
                 refine zt 14 ?_
                 refine zt 15 ?_
                 refine zt 16 ?_
                 refine zt 17 ?_
                 refine zt 18 ?_
                 refine zt 19 ?_
                 refine wpAnyZ_done (by kernel_rfl) ?_ _
                 refine NoPanic.normal ?_
                 clear hHeld KS
                 go_wp2
                 go_ret3
                 exact snap_none (HBi.out.trans (HU.out.mono HBi.out.size)) HNO.out
         | false =>
           go_upto_region 12 with fail
           clear q1
           obtain ⟨⟨xf, d1, j1⟩, e1⟩ : ∃ r, rdN ci false = r := ⟨_, rfl⟩
           obtain ⟨⟨xl, d2, j2⟩, e2⟩ : ∃ r, rdN d1 j1 = r := ⟨_, rfl⟩
           obtain ⟨⟨xb, d3, j3⟩, e3⟩ : ∃ r, rdN d2 j2 = r := ⟨_, rfl⟩
           have hTr := rdTr_of e1 e2 e3
           obtain ⟨m, hm⟩ : ∃ m, y.toNat = m + 1 := ⟨y.toNat - 1, by omega⟩
           have hX := HX.out
           rw [hm, rdTrs_succ m ci hTr] at hX
           have hxl : xs.length ≤ 1048600 := by
            have h1 := congrArg List.length hX.1
            have h2 : pl.length ≤ 1048600 := HPL.out
            rw [List.length_append] at h1
            omega
           have HXS : Hid ((xs ++ [⟨xf, xl, xb⟩]) ++ (rdTrs (y - 1).toNat d3 j3).1 = pl ∧ (rdTrs (y - 1).toNat d3 j3).2 = (c5, g5)) := by
            have hm2 : (y - 1).toNat = m := by omega
            show _ ∧ _
            rw [hm2, List.append_assoc]
            exact hX
           have a1 := (rdN_len ci false).1
           have a2 := (rdN_len d1 j1).1
           have a3 := (rdN_len d2 j2).1
           rw [e1] at a1
           rw [e2] at a2
           rw [e3] at a3
           simp only at a1 a2 a3
           have hcl : ci.length ≤ 1048600 := HCL.out
           have HCI : Hid (ci.length ≤ 140737488355328) := by show _ ≤ _; omega
           have HD1 : Hid (d1.length ≤ 140737488355328) := by show _ ≤ _; omega
           have HD2 : Hid (d2.length ≤ 140737488355328) := by show _ ≤ _; omega
           have HD3 : Hid (d3.length ≤ 1048600) := by show _ ≤ _; omega
           have HXL : Hid (xs.length ≤ 1048600) := hxl
           have HF1 := Lib.hid e1
           have HF2 := Lib.hid e2
           have HF3 := Lib.hid e3
           have HKE : Hid (∀ j, v.ownBlock = some j → P + 1 ≤ j) := fun j hj => (HO.out.lt j hj).1
           clear e1 e2 e3 hTr hX hxl hcl a1 a2 a3 HX HCL hm
           have hdrw : wi.grownBy wi.drew (some k) := ⟨rfl, rfl, rfl, Nat.le_refl _, fun _ _ _ => rfl⟩
           refine wp_region_noPanic ?_
           refine wp_region_z [12] (fun (V : World) => V.cell? ⟨P, 2, none⟩ = some v) (by kernel_rfl) ?_
           have hHeld : (fun (V : World) => V.cell? ⟨P, 2, none⟩ = some v) _ := (HP.out.grown hdrw (fun e => Nat.lt_irrefl _ (show k < k from (Option.some.inj e) ▸ HKP.out))).c2
           obtain ⟨u0, hu0⟩ : ∃ u, u = wi.drew := ⟨_, rfl⟩
           rw [← hu0] at hHeld hdrw
           rw [← hu0]
           have hb0 : Below wi.heap.size wi u0 := by rw [hu0]; exact (Below.refl _ _).drew
           have HP0 := Lib.hid (HP.out.grown hdrw (fun e => Nat.lt_irrefl _ (show k < k from (Option.some.inj e) ▸ HKP.out)))
           have HO0 := Lib.hid (HO.out.on hb0)
           have HR0 := Lib.hid (HR.out.on hb0)
           have HG0 : Hid (wo.grownBy u0 (some k)) := grow_trans HG.out hdrw
           clear hu0 hdrw hb0 HP HO HR HG
           refine zt 0 ?_
           refine zt 1 ?_
           refine zt 2 ?_
           refine zt 4 ?_
           refine zt 6 ?_
           refine zr 3 (fun C hC => ?_)
           go_simp
           refine (num_any w1 u0 k _ _ HR0.out HCI.out).mono ?_
           rintro e u1 ⟨rfl, hr, hg⟩
           rw [HF1.out] at hr ⊢
           have HP1 := Lib.hid (HP0.out.grown hg (fun e => Nat.lt_irrefl _ (show k < k from (Option.some.inj e) ▸ HKP.out)))
           have HO1 := Lib.hid (HO0.out.grown hg (fun q hq e => by have := HKE.out q hq; have := HKP.out; cases e; omega))
           have HR1 := Lib.hid hr
           have HG1 : Hid (wo.grownBy u1 (some k)) := grow_trans HG0.out hg
           clear hr hg HP0 HO0 HR0 HG0
           have hHeld : (fun (V : World) => V.cell? ⟨P, 2, none⟩ = some v) u1 := HP1.out.c2
           refine hC.out _ _ (fun _ => hHeld) (fun _ => ?_)
           clear hC C
           (try dsimp only)
           refine zr 5 (fun C hC => ?_)
           go_simp
           refine (num_any w1 u1 k _ _ HR1.out HD1.out).mono ?_
           rintro e u2 ⟨rfl, hr, hg⟩
           rw [HF2.out] at hr ⊢
           have HP2 := Lib.hid (HP1.out.grown hg (fun e => Nat.lt_irrefl _ (show k < k from (Option.some.inj e) ▸ HKP.out)))
           have HO2 := Lib.hid (HO1.out.grown hg (fun q hq e => by have := HKE.out q hq; have := HKP.out; cases e; omega))
           have HR2 := Lib.hid hr
           have HG2 : Hid (wo.grownBy u2 (some k)) := grow_trans HG1.out hg
           clear hr hg HP1 HO1 HR1 HG1
           have hHeld : (fun (V : World) => V.cell? ⟨P, 2, none⟩ = some v) u2 := HP2.out.c2
           refine hC.out _ _ (fun _ => hHeld) (fun _ => ?_)
           clear hC C
           (try dsimp only)
           refine zr 7 (fun C hC => ?_)
           go_simp
           refine (num_any w1 u2 k _ _ HR2.out HD2.out).mono ?_
           rintro e u3 ⟨rfl, hr, hg⟩
           rw [HF3.out] at hr ⊢
           have HP3 := Lib.hid (HP2.out.grown hg (fun e => Nat.lt_irrefl _ (show k < k from (Option.some.inj e) ▸ HKP.out)))
           have HO3 := Lib.hid (HO2.out.grown hg (fun q hq e => by have := HKE.out q hq; have := HKP.out; cases e; omega))
           have HR3 := Lib.hid hr
           have HG3 : Hid (wo.grownBy u3 (some k)) := grow_trans HG2.out hg
           clear hr hg HP2 HO2 HR2 HG2
           have hHeld : (fun (V : World) => V.cell? ⟨P, 2, none⟩ = some v) u3 := HP3.out.c2
           refine hC.out _ _ (fun _ => hHeld) (fun _ => ?_)
           clear hC C
           (try dsimp only)
           refine zt 8 ?_
           refine zr 9 (fun C hC => ?_)
           go_simp
           obtain ⟨u4, hu4⟩ : ∃ u, u = u3.alloc (.cells #[.int .i64 xf, .int .i64 xl, .int .i64 xb] 79) := ⟨_, rfl⟩
           have hb4 : Below u3.heap.size u3 u4 := by rw [hu4]; exact (Below.refl _ _).alloc (Nat.le_refl _) _
           have HX4 : Hid (RowAt trK u4 (some ⟨u3.heap.size, 0, none⟩) 1 1 [⟨xf, xl, xb⟩]) := by show RowAt _ _ _ _ _ _; rw [hu4]; exact rowAt_lit trK_ok u3 [⟨xf, xl, xb⟩] (by simp) _ rfl 1 rfl
           have HP4 := Lib.hid (HP3.out.on hb4)
           have HO4 := Lib.hid (HO3.out.on hb4)
           have HR4 := Lib.hid (HR3.out.on hb4)
           have HG4 : Hid (wo.grownBy u4 (some k)) := grow_below HG3.out hb4
           obtain ⟨G0, hG0⟩ : ∃ G, G = u3.heap.size := ⟨_, rfl⟩
           rw [← hG0] at HX4
           rw [← hu4, ← hG0]
           clear hu4 hb4 hG0 HP3 HO3 HR3 HG3
           have hHeld : (fun (V : World) => V.cell? ⟨P, 2, none⟩ = some v) u4 := HP4.out.c2
           refine zc hC hHeld ?_
           clear hC C
           refine zr 10 (fun C hC => ?_)
           refine held_row (by rfl) trK_ok (.tmp 59) (.tmp 67) rfl (P + 1) xs [⟨xf, xl, xb⟩] _ rfl HO4.out HP4.out.lt (some ⟨G0, 0, none⟩) 1 1 rfl HX4.out (by have h0 : xs.length ≤ 1048600 := HXL.out; omega) ?_
           rintro v2 u5 hap
           obtain ⟨n2, hn2⟩ : ∃ n, (xs ++ [(⟨xf, xl, xb⟩ : Tr)]).length = n := ⟨_, rfl⟩
           obtain ⟨ad2, cap2, hv2, hr2, hk2⟩ := OwnRow.row trK_ok hap.1 hn2
           subst hv2
           have HP5 := Lib.hid (HP4.out.grown hap.2.1 (fun e => by have := HKE.out P e; omega))
           have HO5 := Lib.hid hap.1
           have HR5 := Lib.hid (HR4.out.grown hap.2.1 (fun q hq => by have := HKE.out q hq; have := HKP.out; omega))
           have HG5 : Hid (wo.grownBy u5 (some k)) := grow_own HG4.out hap.2.1 (fun q hq => by have := HKE.out q hq; have := HWP.out; omega)
           have r2 := HP5.out.c2
           have f2 := HP5.out.free 2
           clear hap hr2 hk2 hn2 HP4 HO4 HR4 HG4 HX4
           have hHeld : (fun (V : World) => V.cell? ⟨P, 2, none⟩ = some v) u5 := HP5.out.c2
           refine zc hC hHeld ?_
           clear hC C
           refine zt 11 ?_
           refine zr 12 (fun C hC => ?_)
           go_simp
           refine hC.out _ _ (zfree_no (by kernel_rfl)) (fun _ => ?_)
           clear hC C
           (try simp only [Act.put, List.setIfInBounds_toArray, List.set_cons_zero, List.set_cons_succ])
           refine wpAnyZ_done (by kernel_rfl) ?_ _
           refine NoPanic.normal ?_
           clear hHeld
           obtain ⟨u6, hu6⟩ : ∃ x, x = u5.setCell ⟨P, 2, none⟩ (.slice ad2 n2 cap2) := ⟨_, rfl⟩
           have HP6 : Hid (PBox u6 P pid pep (.slice ad2 n2 cap2) po) := by show PBox _ _ _ _ _ _; rw [hu6]; exact HP5.out.s2 _
           have HO6 : Hid (OwnRow trK u6 (P + 1) (.slice ad2 n2 cap2) (xs ++ [⟨xf, xl, xb⟩])) := by show OwnRow _ _ _ _ _; rw [hu6]; exact HO5.out.off (Nat.lt_succ_self P) _ _
           have HR6 : Hid (RdAt w1 u6 k d3 j3) := by show RdAt _ _ _ _ _; rw [hu6]; exact HR5.out.off (Nat.ne_of_gt HKP.out) (Nat.le_trans HR5.out.old (Nat.le_of_lt HKP.out)) _
           have HG6 : Hid (wo.grownBy u6 (some k)) := by show World.grownBy _ _ _; rw [hu6]; exact grow_new HG5.out HWP.out _
           rw [← hu6]
           clear hu6 HP5 HO5 HR5 HG5 r2 f2
           obtain ⟨hy1, hy2⟩ := hy
           have hwy : wrap64 (y - 1) = y - 1 := by unfold wrap64; omega
           go_wp2
           go_roundw
           case rel => exact ⟨y - 1, d3, j3, _, _, by first | rfl | rw [hwy], ⟨by omega, by omega⟩, HP6.out, HO6.out, HR6.out, HG6.out, HXS.out, HD3.out⟩
           case measure => simp [intOf]; first | omega | (rw [hwy]; omega)
       · have hd2 : decide (0 < y) = false := decide_eq_false hy0
         have hx := HX.out
         have h0 : y.toNat = 0 := by omega
         rw [h0] at hx
         have HXF : Hid (xs = pl ∧ ci = c5 ∧ gi = g5) := ⟨by have := hx.1; rw [show (rdTrs 0 ci gi).1 = [] from rfl, List.append_nil] at this; exact this, congrArg Prod.fst hx.2, congrArg Prod.snd hx.2⟩
         clear hx h0
         have hp2 := HO.out
         rw [HXF.out.1] at hp2
         have hr2 := HR.out
         rw [HXF.out.2.1, HXF.out.2.2] at hr2
         obtain ⟨pn, hpn⟩ : ∃ n, pl.length = n := ⟨_, rfl⟩
         obtain ⟨pa, pc, rfl, hlr, hpk⟩ := OwnRow.row trK_ok hp2 hpn
         have HRE := Lib.hid hr2
         have HLR := Lib.hid hlr
         have HPK : Hid (∀ a, pa = some a → P + 1 ≤ a.block ∧ a.block < wi.heap.size) := hpk
         have HPN := Lib.hid hpn
         have HAi := Lib.hid (HA.out.grown HG.out (Nat.lt_succ_self k))
         have hbw : Below w.heap.size w wi := HB.out.trans (below_grown HG.out HWK.out HB.out.size)
         have HBi := Lib.hid hbw
         have HAK : Hid (∀ a, pa = some a → k + 1 ≤ a.block ∧ a.block < wi.heap.size ∧ (Value.slice la ln lc).ownBlock ≠ some a.block) := fun a ha => by
          have h1 := hpk a ha
          have h2 : k < P := HKP.out
          refine ⟨by omega, h1.2, fun e => ?_⟩
          have h3 := (HA.out.own.lt _ e).2
          have h4 : wo.heap.size ≤ P := HWP.out
          omega
         have hpnl : pn ≤ 100000000000 := by have h1 : pl.length ≤ 1048600 := HPL.out; omega
         have hto := HTO.out
         obtain ⟨m, hm⟩ : ∃ m, z.toNat = m + 1 := ⟨z.toNat - 1, by omega⟩
         rw [hm] at hto
         have HTM := Lib.hid hto
         have HM := Lib.hid hm
         clear hp2 hr2 hlr hpk hpn hbw HXF HX HO HR hto hm
         cases hrr : okP ⟨pid, pep, pl, po⟩ with
         | false =>
           have HNO : Hid (∀ l n, ¬ IsSnap bs l n) := by
            have h1 := HTM.out
            rw [rdPds_no HPD.out (Or.inl hrr)] at h1
            have h2 := HALL.out
            rw [← h1] at h2
            exact SnapMath.rd_none h2 HBL.out
           have HRR : Hid (false = true ↔ RightP ⟨pid, pep, pl, po⟩) := by show _ ↔ _; rw [← okP_iff, hrr]
           clear hrr
           go_upto_region 13 with fail
           clear q1
           have KS : Hid (∀ V, Below wi.heap.size wi V → (fun (V : World) => V.cell? ⟨P, 0, none⟩ = some (.int .i64 pid) ∧ V.cell? ⟨P, 1, none⟩ = some (.int .i64 pep) ∧ V.cell? ⟨P, 2, none⟩ = some (.slice pa pn pc) ∧ V.cell? ⟨P, 3, none⟩ = some (.int .i64 po)) V) := fun V hV => ⟨(HP.out.on hV).c0, (HP.out.on hV).c1, (HP.out.on hV).c2, (HP.out.on hV).c3⟩
           have hdrw : Below wi.heap.size wi wi.drew := (Below.refl _ wi).drew
           refine wp_region_noPanic ?_
           refine wp_region_z [] (fun (V : World) => V.cell? ⟨P, 0, none⟩ = some (.int .i64 pid) ∧ V.cell? ⟨P, 1, none⟩ = some (.int .i64 pep) ∧ V.cell? ⟨P, 2, none⟩ = some (.slice pa pn pc) ∧ V.cell? ⟨P, 3, none⟩ = some (.int .i64 po)) (by kernel_rfl) ?_
           have hHeld := KS.out _ hdrw
           obtain ⟨ue_0, hu⟩ : ∃ u, u = wi.drew := ⟨_, rfl⟩
           rw [← hu] at hHeld hdrw
           rw [← hu]
           clear hu
           have HU := Lib.hid hdrw
           clear hdrw
           refine zt 0 ?_
           refine zr 1 (fun C hC => ?_)
           go_simp
           refine (prRefRight_any ue_0 pid pep po pl pa pn pc (HLR.out.keep HU.out) hpnl false HRR.out).mono ?_
           rintro e ue_1 ⟨rfl, hb⟩
           replace HU := Lib.hid (HU.out.trans (hb.mono HU.out.size))
           clear hb
           have hHeld := KS.out _ HU.out
           refine zc hC hHeld ?_
           clear hC C
           refine zt 2 ?_
           refine zt 3 ?_
           refine zt 4 ?_
           refine zt 5 ?_
           refine zt 6 ?_
           refine zt 7 ?_
           refine zt 8 ?_
           refine zt 9 ?_
           refine zt 10 ?_
           refine zt 11 ?_
           refine zt 12 ?_
           refine zt 13 ?_
           refine zt 14 ?_
           refine zt 15 ?_
           refine zt 16 ?_
           refine zt 17 ?_
           refine zt 18 ?_
           refine zt 19 ?_
           refine wpAnyZ_done (by kernel_rfl) ?_ _
           refine NoPanic.normal ?_
           clear hHeld KS
           go_wp2
           go_ret3
           exact snap_none (HBi.out.trans (HU.out.mono HBi.out.size)) HNO.out
         | true =>
           have HRR : Hid (true = true ↔ RightP ⟨pid, pep, pl, po⟩) := by show _ ↔ _; rw [← okP_iff, hrr]
           have HRT : Hid (okP ⟨pid, pep, pl, po⟩ = true) := hrr
           clear hrr
           rcases Nat.eq_zero_or_pos ln with h0 | h0
           · subst h0
             have hmn : ms = [] := List.eq_nil_of_length_eq_zero HLN.out
             have HLI : Hid (lastId (pds ms) ⟨pid, pep, pl, po⟩ = true) := by show _ = _; rw [hmn]; rfl
             clear hmn
             go_upto_region 13 with fail
             clear q1
             have KS : Hid (∀ V, Below wi.heap.size wi V → (fun (V : World) => V.cell? ⟨P, 0, none⟩ = some (.int .i64 pid) ∧ V.cell? ⟨P, 1, none⟩ = some (.int .i64 pep) ∧ V.cell? ⟨P, 2, none⟩ = some (.slice pa pn pc) ∧ V.cell? ⟨P, 3, none⟩ = some (.int .i64 po)) V) := fun V hV => ⟨(HP.out.on hV).c0, (HP.out.on hV).c1, (HP.out.on hV).c2, (HP.out.on hV).c3⟩
             have hdrw : Below wi.heap.size wi wi.drew := (Below.refl _ wi).drew
             refine wp_region_noPanic ?_
             refine wp_region_z [] (fun (V : World) => V.cell? ⟨P, 0, none⟩ = some (.int .i64 pid) ∧ V.cell? ⟨P, 1, none⟩ = some (.int .i64 pep) ∧ V.cell? ⟨P, 2, none⟩ = some (.slice pa pn pc) ∧ V.cell? ⟨P, 3, none⟩ = some (.int .i64 po)) (by kernel_rfl) ?_
             have hHeld := KS.out _ hdrw
             obtain ⟨ue_0, hu⟩ : ∃ u, u = wi.drew := ⟨_, rfl⟩
             rw [← hu] at hHeld hdrw
             rw [← hu]
             clear hu
             have HU := Lib.hid hdrw
             clear hdrw
             refine zt 0 ?_
             refine zr 1 (fun C hC => ?_)
             go_simp
             refine (prRefRight_any ue_0 pid pep po pl pa pn pc (HLR.out.keep HU.out) hpnl true HRR.out).mono ?_
             rintro e ue_1 ⟨rfl, hb⟩
             replace HU := Lib.hid (HU.out.trans (hb.mono HU.out.size))
             clear hb
             have hHeld := KS.out _ HU.out
             refine zc hC hHeld ?_
             clear hC C
             refine zt 2 ?_
             refine zt 3 ?_
             refine zt 4 ?_
             refine zt 5 ?_
             refine zt 6 ?_
             refine zt 7 ?_
             refine zt 8 ?_
             refine zt 9 ?_
             refine zt 10 ?_
             refine zt 11 ?_
             refine zt 12 ?_
             refine zt 13 ?_
             refine zt 14 ?_
             refine zt 15 ?_
             refine zt 16 ?_
             refine zt 17 ?_
             refine zt 18 ?_
             refine zt 19 ?_
             refine wpAnyZ_done (by kernel_rfl) ?_ _
             refine NoPanic.normal ?_
             clear hHeld KS
             have HPx := Lib.hid (HP.out.on HU.out)
             have p0 := HPx.out.c0
             have p1 := HPx.out.c1
             have p2 := HPx.out.c2
             have p3 := HPx.out.c3
             have HRx := Lib.hid (HRE.out.on HU.out)
             have HBx : Hid (Below w.heap.size w (ue_1.alloc (.cells #[.int .i64 pid, .int .i64 pep, .slice pa pn pc, .int .i64 po] 78))) := (HBi.out.trans (HU.out.mono HBi.out.size)).alloc (HBi.out.trans (HU.out.mono HBi.out.size)).size _
             have hba : Below ue_1.heap.size ue_1 (ue_1.alloc (.cells #[.int .i64 pid, .int .i64 pep, .slice pa pn pc, .int .i64 po] 78)) := (Below.refl _ _).alloc (Nat.le_refl _) _
             have HAx := Lib.hid ((HAi.out.on HU.out).on hba)
             have HLx : Hid (LastAt (ue_1.alloc (.cells #[.int .i64 pid, .int .i64 pep, .slice pa pn pc, .int .i64 po] 78)) ⟨⟨pid, pep, pl, po⟩, pa, pc⟩) := by
              have h1 := (HLR.out.keep HU.out).keep hba
              rw [← HPN.out] at h1 ⊢
              exact h1
             have HQx : Hid (RowAt pdK (ue_1.alloc (.cells #[.int .i64 pid, .int .i64 pep, .slice pa pn pc, .int .i64 po] 78)) (some ⟨ue_1.heap.size, 0, none⟩) 1 1 [⟨⟨pid, pep, pl, po⟩, pa, pc⟩]) := rowAt_lit pdK_ok ue_1 [⟨⟨pid, pep, pl, po⟩, pa, pc⟩] (by simp) _ (by rw [← HPN.out]; rfl) 1 rfl
             have HRy := Lib.hid (HRx.out.on hba)
             have hks : k + 1 ≤ (ue_1.alloc (.cells #[.int .i64 pid, .int .i64 pep, .slice pa pn pc, .int .i64 po] 78)).heap.size := HRy.out.lt
             have hms : ms.length ≤ 1000000 := by have h1 : 4 * ms.length + b.length ≤ 1048600 + 0 := HLEN.out; omega
             go_wp2_with (at_builtin; refine list_row (by rfl) pdK_ok (.tmp 90) (.tmp 92) rfl (k + 1) ms [⟨⟨pid, pep, pl, po⟩, pa, pc⟩] _ rfl HAx.out.own hks (some ⟨ue_1.heap.size, 0, none⟩) 1 1 rfl HQx.out (by omega) ?_)
             intro v4 w4 hap
             have HAz := Lib.hid (HAx.out.snoc HLx.out (fun a ha => by obtain ⟨h1, h2, h3⟩ := HAK.out a ha; exact ⟨h1, Nat.lt_of_lt_of_le (Nat.lt_of_lt_of_le h2 HU.out.size) hba.size, h3⟩) hap)
             have HRz : Hid (RdAt w1 w4 k c5 g5) := HRy.out.grown hap.2.1 (fun j hj => (HAx.out.own.lt j hj).1)
             have HBz : Hid (Below w.heap.size w w4) := HBx.out.grown hap.2.1 HBx.out.size (fun j hj => Nat.le_trans HWK.out (Nat.le_of_lt (HAx.out.own.lt j hj).1))
             have HCz : Hid (AccOk (pds (ms ++ [⟨⟨pid, pep, pl, po⟩, pa, pc⟩]))) := by
              show AccOk _
              rw [pds_snoc]
              have h1 := rdPd_id b false
              rw [HPD.out] at h1
              exact HAC.out.snoc ((okP_iff _).1 HRT.out) h1 HLI.out
             have HTz : Hid (rdPds (z - 1).toNat (pds (ms ++ [⟨⟨pid, pep, pl, po⟩, pa, pc⟩])) c5 g5 = TOT) := by
              show _ = _
              have h1 : (z - 1).toNat = m := by have := HM.out; omega
              rw [h1, pds_snoc, ← HTM.out, rdPds_yes HPD.out HRT.out HLI.out]
             have HLz : Hid (4 * (ms ++ [(⟨⟨pid, pep, pl, po⟩, pa, pc⟩ : PM)]).length + c5.length ≤ 1048600 + (if g5 then 4 else 0)) := by
              show _ ≤ _
              have h1 := rdPd_left b false
              rw [HPD.out] at h1
              have h2 : 4 * ms.length + b.length ≤ 1048600 + 0 := HLEN.out
              rw [List.length_append, List.length_singleton]
              revert h1
              cases g5
              · intro h1
                have h1 : c5.length + 4 ≤ b.length := h1
                show _ ≤ 1048600 + 0
                omega
              · intro h1
                have h1 : c5.length + 0 ≤ b.length := h1
                show _ ≤ 1048600 + 4
                omega
             obtain ⟨hz1, hz2⟩ := hz
             have hwz : wrap64 (z - 1) = z - 1 := by unfold wrap64; omega
             clear hap hba HAx HLx HQx HRx HRy HBx p0 p1 p2 p3
             go_wp2
             go_roundw
             case rel => exact ⟨z - 1, c5, g5, ms ++ [(⟨⟨pid, pep, pl, po⟩, pa, pc⟩ : PM)], by first | rfl | rw [hwz], ⟨by omega, by omega⟩, HAz.out, HRz.out, HCz.out, HTz.out, HLz.out, HBz.out⟩
             case measure => simp [intOf]; first | omega | (rw [hwz]; omega)
           · obtain ⟨n1, rfl⟩ : ∃ n, ln = n + 1 := ⟨ln - 1, by omega⟩
             obtain ⟨lb, loff, q, rfl, hlb, hq, _, hc0, _, _, _⟩ := HAi.out.row.1.get (Nat.lt_succ_self n1)
             have hqi := lastId_at ⟨pid, pep, pl, po⟩ HLN.out hq
             obtain ⟨qid, hqd⟩ : ∃ x, q.p.id = x := ⟨_, rfl⟩
             rw [hqd] at hc0 hqi
             have HQI : Hid (lastId (pds ms) ⟨pid, pep, pl, po⟩ = decide (qid < pid)) := hqi
             have HC0 := Lib.hid hc0
             have HLB : Hid (lb < wi.heap.size) := hlb
             clear hqi hqd hq hc0 hlb
             have hn1 : n1 ≤ 1000000 := by have h1 : 4 * ms.length + b.length ≤ 1048600 + 0 := HLEN.out; have h2 := HLN.out; omega
             have hi4 : IntKind.i64.wrap (n1 : Int) = (n1 : Int) := IntWalk.i64_in _ (by omega)
             have hi5 : (0 : Int) ≤ (n1 : Int) := by omega
             have hi6 : (n1 : Int) < (n1 : Int) + 1 := by omega
             by_cases hlt : qid < pid
             · have HLI : Hid (lastId (pds ms) ⟨pid, pep, pl, po⟩ = true) := by show _ = _; rw [HQI.out]; exact decide_eq_true hlt
               have hd3 : decide (pid ≤ qid) = false := decide_eq_false (by omega)
               go_upto_region 13 with fail
               clear q1
               have KS : Hid (∀ V, Below wi.heap.size wi V → (fun (V : World) => V.cell? ⟨P, 0, none⟩ = some (.int .i64 pid) ∧ V.cell? ⟨P, 1, none⟩ = some (.int .i64 pep) ∧ V.cell? ⟨P, 2, none⟩ = some (.slice pa pn pc) ∧ V.cell? ⟨P, 3, none⟩ = some (.int .i64 po) ∧ V.cell? ⟨lb, loff + n1 * 4, none⟩ = some (.int .i64 qid)) V) := fun V hV => ⟨(HP.out.on hV).c0, (HP.out.on hV).c1, (HP.out.on hV).c2, (HP.out.on hV).c3, (hV.cell HLB.out).trans HC0.out⟩
               have hdrw : Below wi.heap.size wi wi.drew := (Below.refl _ wi).drew
               refine wp_region_noPanic ?_
               refine wp_region_z [] (fun (V : World) => V.cell? ⟨P, 0, none⟩ = some (.int .i64 pid) ∧ V.cell? ⟨P, 1, none⟩ = some (.int .i64 pep) ∧ V.cell? ⟨P, 2, none⟩ = some (.slice pa pn pc) ∧ V.cell? ⟨P, 3, none⟩ = some (.int .i64 po) ∧ V.cell? ⟨lb, loff + n1 * 4, none⟩ = some (.int .i64 qid)) (by kernel_rfl) ?_
               have hHeld := KS.out _ hdrw
               obtain ⟨ue_0, hu⟩ : ∃ u, u = wi.drew := ⟨_, rfl⟩
               rw [← hu] at hHeld hdrw
               rw [← hu]
               clear hu
               have HU := Lib.hid hdrw
               clear hdrw
               refine zt 0 ?_
               refine zr 1 (fun C hC => ?_)
               go_simp
               refine (prRefRight_any ue_0 pid pep po pl pa pn pc (HLR.out.keep HU.out) hpnl true HRR.out).mono ?_
               rintro e ue_1 ⟨rfl, hb⟩
               replace HU := Lib.hid (HU.out.trans (hb.mono HU.out.size))
               clear hb
               have hHeld := KS.out _ HU.out
               refine zc hC hHeld ?_
               clear hC C
               refine zt 2 ?_
               refine zt 3 ?_
               refine zt 4 ?_
               refine zt 5 ?_
               refine zt 6 ?_
               refine zt 7 ?_
               refine zt 8 ?_
               refine zt 9 ?_
               refine zt 10 ?_
               refine zt 11 ?_
               refine zt 12 ?_
               refine zt 13 ?_
               refine zt 14 ?_
               refine zt 15 ?_
               refine zt 16 ?_
               refine zt 17 ?_
               refine zt 18 ?_
               refine zt 19 ?_
               refine wpAnyZ_done (by kernel_rfl) ?_ _
               refine NoPanic.normal ?_
               clear hHeld KS
               have HPx := Lib.hid (HP.out.on HU.out)
               have p0 := HPx.out.c0
               have p1 := HPx.out.c1
               have p2 := HPx.out.c2
               have p3 := HPx.out.c3
               have HRx := Lib.hid (HRE.out.on HU.out)
               have HBx : Hid (Below w.heap.size w (ue_1.alloc (.cells #[.int .i64 pid, .int .i64 pep, .slice pa pn pc, .int .i64 po] 78))) := (HBi.out.trans (HU.out.mono HBi.out.size)).alloc (HBi.out.trans (HU.out.mono HBi.out.size)).size _
               have hba : Below ue_1.heap.size ue_1 (ue_1.alloc (.cells #[.int .i64 pid, .int .i64 pep, .slice pa pn pc, .int .i64 po] 78)) := (Below.refl _ _).alloc (Nat.le_refl _) _
               have HAx := Lib.hid ((HAi.out.on HU.out).on hba)
               have HLx : Hid (LastAt (ue_1.alloc (.cells #[.int .i64 pid, .int .i64 pep, .slice pa pn pc, .int .i64 po] 78)) ⟨⟨pid, pep, pl, po⟩, pa, pc⟩) := by
                have h1 := (HLR.out.keep HU.out).keep hba
                rw [← HPN.out] at h1 ⊢
                exact h1
               have HQx : Hid (RowAt pdK (ue_1.alloc (.cells #[.int .i64 pid, .int .i64 pep, .slice pa pn pc, .int .i64 po] 78)) (some ⟨ue_1.heap.size, 0, none⟩) 1 1 [⟨⟨pid, pep, pl, po⟩, pa, pc⟩]) := rowAt_lit pdK_ok ue_1 [⟨⟨pid, pep, pl, po⟩, pa, pc⟩] (by simp) _ (by rw [← HPN.out]; rfl) 1 rfl
               have HRy := Lib.hid (HRx.out.on hba)
               have hks : k + 1 ≤ (ue_1.alloc (.cells #[.int .i64 pid, .int .i64 pep, .slice pa pn pc, .int .i64 po] 78)).heap.size := HRy.out.lt
               have hms : ms.length ≤ 1000000 := by have h1 : 4 * ms.length + b.length ≤ 1048600 + 0 := HLEN.out; omega
               go_wp2_with (at_builtin; refine list_row (by rfl) pdK_ok (.tmp 90) (.tmp 92) rfl (k + 1) ms [⟨⟨pid, pep, pl, po⟩, pa, pc⟩] _ rfl HAx.out.own hks (some ⟨ue_1.heap.size, 0, none⟩) 1 1 rfl HQx.out (by omega) ?_)
               intro v4 w4 hap
               have HAz := Lib.hid (HAx.out.snoc HLx.out (fun a ha => by obtain ⟨h1, h2, h3⟩ := HAK.out a ha; exact ⟨h1, Nat.lt_of_lt_of_le (Nat.lt_of_lt_of_le h2 HU.out.size) hba.size, h3⟩) hap)
               have HRz : Hid (RdAt w1 w4 k c5 g5) := HRy.out.grown hap.2.1 (fun j hj => (HAx.out.own.lt j hj).1)
               have HBz : Hid (Below w.heap.size w w4) := HBx.out.grown hap.2.1 HBx.out.size (fun j hj => Nat.le_trans HWK.out (Nat.le_of_lt (HAx.out.own.lt j hj).1))
               have HCz : Hid (AccOk (pds (ms ++ [⟨⟨pid, pep, pl, po⟩, pa, pc⟩]))) := by
                show AccOk _
                rw [pds_snoc]
                have h1 := rdPd_id b false
                rw [HPD.out] at h1
                exact HAC.out.snoc ((okP_iff _).1 HRT.out) h1 HLI.out
               have HTz : Hid (rdPds (z - 1).toNat (pds (ms ++ [⟨⟨pid, pep, pl, po⟩, pa, pc⟩])) c5 g5 = TOT) := by
                show _ = _
                have h1 : (z - 1).toNat = m := by have := HM.out; omega
                rw [h1, pds_snoc, ← HTM.out, rdPds_yes HPD.out HRT.out HLI.out]
               have HLz : Hid (4 * (ms ++ [(⟨⟨pid, pep, pl, po⟩, pa, pc⟩ : PM)]).length + c5.length ≤ 1048600 + (if g5 then 4 else 0)) := by
                show _ ≤ _
                have h1 := rdPd_left b false
                rw [HPD.out] at h1
                have h2 : 4 * ms.length + b.length ≤ 1048600 + 0 := HLEN.out
                rw [List.length_append, List.length_singleton]
                revert h1
                cases g5
                · intro h1
                  have h1 : c5.length + 4 ≤ b.length := h1
                  show _ ≤ 1048600 + 0
                  omega
                · intro h1
                  have h1 : c5.length + 0 ≤ b.length := h1
                  show _ ≤ 1048600 + 4
                  omega
               obtain ⟨hz1, hz2⟩ := hz
               have hwz : wrap64 (z - 1) = z - 1 := by unfold wrap64; omega
               clear hap hba HAx HLx HQx HRx HRy HBx p0 p1 p2 p3
               go_wp2
               go_roundw
               case rel => exact ⟨z - 1, c5, g5, ms ++ [(⟨⟨pid, pep, pl, po⟩, pa, pc⟩ : PM)], by first | rfl | rw [hwz], ⟨by omega, by omega⟩, HAz.out, HRz.out, HCz.out, HTz.out, HLz.out, HBz.out⟩
               case measure => simp [intOf]; first | omega | (rw [hwz]; omega)
             · have HNO : Hid (∀ l n, ¬ IsSnap bs l n) := by
                have h1 := HTM.out
                rw [rdPds_no HPD.out (Or.inr (by rw [HQI.out]; exact decide_eq_false hlt))] at h1
                have h2 := HALL.out
                rw [← h1] at h2
                exact SnapMath.rd_none h2 HBL.out
               have hd3 : decide (pid ≤ qid) = true := decide_eq_true (by omega)
               go_upto_region 13 with fail
               clear q1
               have KS : Hid (∀ V, Below wi.heap.size wi V → (fun (V : World) => V.cell? ⟨P, 0, none⟩ = some (.int .i64 pid) ∧ V.cell? ⟨P, 1, none⟩ = some (.int .i64 pep) ∧ V.cell? ⟨P, 2, none⟩ = some (.slice pa pn pc) ∧ V.cell? ⟨P, 3, none⟩ = some (.int .i64 po) ∧ V.cell? ⟨lb, loff + n1 * 4, none⟩ = some (.int .i64 qid)) V) := fun V hV => ⟨(HP.out.on hV).c0, (HP.out.on hV).c1, (HP.out.on hV).c2, (HP.out.on hV).c3, (hV.cell HLB.out).trans HC0.out⟩
               have hdrw : Below wi.heap.size wi wi.drew := (Below.refl _ wi).drew
               refine wp_region_noPanic ?_
               refine wp_region_z [] (fun (V : World) => V.cell? ⟨P, 0, none⟩ = some (.int .i64 pid) ∧ V.cell? ⟨P, 1, none⟩ = some (.int .i64 pep) ∧ V.cell? ⟨P, 2, none⟩ = some (.slice pa pn pc) ∧ V.cell? ⟨P, 3, none⟩ = some (.int .i64 po) ∧ V.cell? ⟨lb, loff + n1 * 4, none⟩ = some (.int .i64 qid)) (by kernel_rfl) ?_
               have hHeld := KS.out _ hdrw
               obtain ⟨ue_0, hu⟩ : ∃ u, u = wi.drew := ⟨_, rfl⟩
               rw [← hu] at hHeld hdrw
               rw [← hu]
               clear hu
               have HU := Lib.hid hdrw
               clear hdrw
               refine zt 0 ?_
               refine zr 1 (fun C hC => ?_)
               go_simp
               refine (prRefRight_any ue_0 pid pep po pl pa pn pc (HLR.out.keep HU.out) hpnl true HRR.out).mono ?_
               rintro e ue_1 ⟨rfl, hb⟩
               replace HU := Lib.hid (HU.out.trans (hb.mono HU.out.size))
               clear hb
               have hHeld := KS.out _ HU.out
               refine zc hC hHeld ?_
               clear hC C
               refine zt 2 ?_
               refine zt 3 ?_
               refine zt 4 ?_
               refine zt 5 ?_
               refine zt 6 ?_
               refine zt 7 ?_
               refine zt 8 ?_
               refine zt 9 ?_
               refine zt 10 ?_
               refine zt 11 ?_
               refine zt 12 ?_
               refine zt 13 ?_
               refine zt 14 ?_
               refine zt 15 ?_
               refine zt 16 ?_
               refine zt 17 ?_
               refine zt 18 ?_
               refine zt 19 ?_
               refine wpAnyZ_done (by kernel_rfl) ?_ _
               refine NoPanic.normal ?_
               clear hHeld KS
               go_wp2
               go_ret3
               exact snap_none (HBi.out.trans (HU.out.mono HBi.out.size)) HNO.out
  · have hd : decide (0 < z) = false := decide_eq_false hz0
    have h0 : z.toNat = 0 := by omega
    have HTF : Hid (TOT = some (pds ms, b, f)) := by show _ = _; rw [← HTO.out, h0]; rfl
    have hall := HALL.out
    rw [HTF.out] at hall
    have HAF : Hid (rdAll bs = (n0, some (pds ms, b, f))) := hall
    clear hall
    obtain ⟨s2, hs2⟩ : ∃ s2, s2 = str bs := ⟨_, rfl⟩
    have KS : Hid (∀ V, Below wo.heap.size wo V → (fun (V : World) => (convert 31 9 (.slice ad len cap)).run Tryz.prog V = .ok (.string s2) V) V) := fun V hV => run_str_at (H.out.keep (HB.out.trans (hV.mono HB.out.size)) (Nat.le_refl _)) hs2
    have HS2 := Lib.hid hs2
    clear hs2
    have hdrw : Below wo.heap.size wo wo.drew := (Below.refl _ wo).drew
    obtain ⟨q, hq⟩ : ∃ q, (!f && b.isEmpty) = q := ⟨_, rfl⟩
    have HQ := Lib.hid hq
    clear hq
    cases q with
    | false =>
      have HNO : Hid (∀ l n, ¬ IsSnap bs l n) := SnapMath.rd_no HAF.out HBL.out (fun h => by
       have h1 := HQ.out
       rw [h.1, h.2.1] at h1
       cases h1)
      go_upto_region 16 with fail
      refine wp_region_noPanic ?_
      refine wp_region_z [] (fun (V : World) => (convert 31 9 (.slice ad len cap)).run Tryz.prog V = .ok (.string s2) V) (by kernel_rfl) ?_
      have hHeld := KS.out _ hdrw
      obtain ⟨uf_0, hu⟩ : ∃ u, u = wo.drew := ⟨_, rfl⟩
      rw [← hu] at hHeld hdrw
      rw [← hu]
      clear hu
      have HU := Lib.hid hdrw
      clear hdrw
      refine zt 0 ?_
      refine zr 1 (fun C hC => ?_)
      go_simp
      refine (done_any w1 uf_0 k b f (HRD.out.on HU.out)).mono ?_
      rintro e uf_1 ⟨rfl, hb⟩
      rw [HQ.out]
      replace HU := Lib.hid (HU.out.trans (hb.mono HU.out.size))
      clear hb
      have hHeld := KS.out _ HU.out
      refine zc hC hHeld ?_
      clear hC C
      refine zt 2 ?_
      refine zt 3 ?_
      refine zt 4 ?_
      refine zt 5 ?_
      refine zt 6 ?_
      refine zt 7 ?_
      refine zt 8 ?_
      refine zt 9 ?_
      refine zt 10 ?_
      refine zt 11 ?_
      refine zt 12 ?_
      refine zt 13 ?_
      refine zt 14 ?_
      refine zt 15 ?_
      refine zt 16 ?_
      refine zt 17 ?_
      refine zt 18 ?_
      refine zt 19 ?_
      refine wpAnyZ_done (by kernel_rfl) ?_ _
      refine NoPanic.normal ?_
      clear hHeld KS
      go_wp2
      go_ret3
      exact snap_none (HB.out.trans (HU.out.mono HB.out.size)) HNO.out
    | true =>
      by_cases hn1 : n0 < 0
      · have HNO : Hid (∀ l n, ¬ IsSnap bs l n) := SnapMath.rd_no HAF.out HBL.out (fun h => by have h1 := h.2.2.1; omega)
        have hd4 : decide (n0 < 0) = true := decide_eq_true hn1
        go_upto_region 16 with fail
        refine wp_region_noPanic ?_
        refine wp_region_z [] (fun (V : World) => (convert 31 9 (.slice ad len cap)).run Tryz.prog V = .ok (.string s2) V) (by kernel_rfl) ?_
        have hHeld := KS.out _ hdrw
        obtain ⟨uf_0, hu⟩ : ∃ u, u = wo.drew := ⟨_, rfl⟩
        rw [← hu] at hHeld hdrw
        rw [← hu]
        clear hu
        have HU := Lib.hid hdrw
        clear hdrw
        refine zt 0 ?_
        refine zr 1 (fun C hC => ?_)
        go_simp
        refine (done_any w1 uf_0 k b f (HRD.out.on HU.out)).mono ?_
        rintro e uf_1 ⟨rfl, hb⟩
        rw [HQ.out]
        replace HU := Lib.hid (HU.out.trans (hb.mono HU.out.size))
        clear hb
        have hHeld := KS.out _ HU.out
        refine zc hC hHeld ?_
        clear hC C
        refine zt 2 ?_
        refine zt 3 ?_
        refine zt 4 ?_
        refine zt 5 ?_
        refine zt 6 ?_
        refine zt 7 ?_
        refine zt 8 ?_
        refine zt 9 ?_
        refine zt 10 ?_
        refine zt 11 ?_
        refine zt 12 ?_
        refine zt 13 ?_
        refine zt 14 ?_
        refine zt 15 ?_
        refine zt 16 ?_
        refine zt 17 ?_
        refine zt 18 ?_
        refine zt 19 ?_
        refine wpAnyZ_done (by kernel_rfl) ?_ _
        refine NoPanic.normal ?_
        clear hHeld KS
        go_wp2
        go_ret3
        exact snap_none (HB.out.trans (HU.out.mono HB.out.size)) HNO.out
      · have hd4 : decide (n0 < 0) = false := decide_eq_false hn1
        by_cases hn2 : 1099511627776 < n0
        · have HNO : Hid (∀ l n, ¬ IsSnap bs l n) := SnapMath.rd_no HAF.out HBL.out (fun h => by have h1 := h.2.2.2.1; omega)
          have hd5 : decide (1099511627776 < n0) = true := decide_eq_true hn2
          go_upto_region 16 with fail
          refine wp_region_noPanic ?_
          refine wp_region_z [] (fun (V : World) => (convert 31 9 (.slice ad len cap)).run Tryz.prog V = .ok (.string s2) V) (by kernel_rfl) ?_
          have hHeld := KS.out _ hdrw
          obtain ⟨uf_0, hu⟩ : ∃ u, u = wo.drew := ⟨_, rfl⟩
          rw [← hu] at hHeld hdrw
          rw [← hu]
          clear hu
          have HU := Lib.hid hdrw
          clear hdrw
          refine zt 0 ?_
          refine zr 1 (fun C hC => ?_)
          go_simp
          refine (done_any w1 uf_0 k b f (HRD.out.on HU.out)).mono ?_
          rintro e uf_1 ⟨rfl, hb⟩
          rw [HQ.out]
          replace HU := Lib.hid (HU.out.trans (hb.mono HU.out.size))
          clear hb
          have hHeld := KS.out _ HU.out
          refine zc hC hHeld ?_
          clear hC C
          refine zt 2 ?_
          refine zt 3 ?_
          refine zt 4 ?_
          refine zt 5 ?_
          refine zt 6 ?_
          refine zt 7 ?_
          refine zt 8 ?_
          refine zt 9 ?_
          refine zt 10 ?_
          refine zt 11 ?_
          refine zt 12 ?_
          refine zt 13 ?_
          refine zt 14 ?_
          refine zt 15 ?_
          refine zt 16 ?_
          refine zt 17 ?_
          refine zt 18 ?_
          refine zt 19 ?_
          refine wpAnyZ_done (by kernel_rfl) ?_ _
          refine NoPanic.normal ?_
          clear hHeld KS
          go_wp2
          go_ret3
          exact snap_none (HB.out.trans (HU.out.mono HB.out.size)) HNO.out
        · have hd5 : decide (1099511627776 < n0) = false := decide_eq_false hn2
          have HPI : Hid (PdsIn (pds ms)) := ⟨by have h1 := HLEN.out; unfold pds; rw [List.length_map]; revert h1; cases f <;> intro h1 <;> simp at h1 <;> omega, HAC.out.pdIn⟩
          have HN64 : Hid (In64 n0) := ⟨by omega, by omega⟩
          obtain ⟨s1, hs1⟩ : ∃ s1, s1 = str (snapS (pds ms) n0) := ⟨_, rfl⟩
          have HS1 := Lib.hid hs1
          clear hs1
          by_cases heq : snapS (pds ms) n0 = bs
          · have hse : (s1.toList == s2.toList) = true := by rw [HS1.out, HS2.out, heq]; exact str_same _
            have HYES : Hid (IsSnap bs (pds ms) n0) := rd_yes HAF.out (by omega) (by omega) heq
            clear heq
            go_upto_region 16 with fail
            refine wp_region_noPanic ?_
            refine wp_region_z [] (fun (V : World) => (convert 31 9 (.slice ad len cap)).run Tryz.prog V = .ok (.string s2) V) (by kernel_rfl) ?_
            have hHeld := KS.out _ hdrw
            obtain ⟨uf_0, hu⟩ : ∃ u, u = wo.drew := ⟨_, rfl⟩
            rw [← hu] at hHeld hdrw
            rw [← hu]
            clear hu
            have HU := Lib.hid hdrw
            clear hdrw
            refine zt 0 ?_
            refine zr 1 (fun C hC => ?_)
            go_simp
            refine (done_any w1 uf_0 k b f (HRD.out.on HU.out)).mono ?_
            rintro e uf_1 ⟨rfl, hb⟩
            rw [HQ.out]
            replace HU := Lib.hid (HU.out.trans (hb.mono HU.out.size))
            clear hb
            have hHeld := KS.out _ HU.out
            refine zc hC hHeld ?_
            clear hC C
            refine zt 2 ?_
            refine zt 3 ?_
            refine zt 4 ?_
            refine zt 5 ?_
            refine zt 6 ?_
            refine zt 7 ?_
            refine zt 8 ?_
            refine zt 9 ?_
            refine zt 10 ?_
            refine zt 11 ?_
            refine zt 12 ?_
            refine zt 13 ?_
            refine zt 16 ?_
            refine zt 17 ?_
            refine zr 14 (fun C hC => ?_)
            go_simp
            refine (snBytes_any uf_1 la ln lc ms ((HA.out.on HU.out).row.1) HPI.out (fun p hp => HAC.out.few p hp) n0 HN64.out).mono ?_
            rintro e uf_2 ⟨v, rfl, g, cg, rfl, hcg, hg, hpre, hb⟩
            replace HU := Lib.hid (HU.out.trans (hb.mono HU.out.size))
            have hcv := run_str_at (hpre.byt (CrcMath.sealB_all (bodyS_all HPI.out HN64.out)) cg hcg) HS1.out
            obtain ⟨L, hL⟩ : ∃ L, L = (snapS (pds ms) n0).length := ⟨_, rfl⟩
            rw [← hL] at hcv ⊢
            clear hb hcg hg hpre hL
            have hHeld := KS.out _ HU.out
            refine zc hC hHeld ?_
            clear hC C
            refine zr 15 (fun C hC => ?_)
            go_simp
            have hHeld := KS.out _ HU.out
            refine zc hC hHeld ?_
            clear hC C
            clear hcv
            refine zt 18 ?_
            refine zt 19 ?_
            refine wpAnyZ_done (by kernel_rfl) ?_ _
            refine NoPanic.normal ?_
            clear hHeld KS
            have HAE := Lib.hid ((HA.out.on HU.out).row.1)
            have HBE := Lib.hid (HB.out.trans (HU.out.mono HB.out.size))
            go_wp2
            go_ret3
            exact ⟨HBE.out, .inl ⟨_, _, _, ms, n0, rfl, HAE.out, HYES.out⟩⟩
          · have hse : (s1.toList == s2.toList) = false := by
             rw [HS1.out, HS2.out]
             exact str_differ (CrcMath.sealB_all (bodyS_all HPI.out HN64.out)) H.out.all heq
            have HNO : Hid (∀ l n, ¬ IsSnap bs l n) := SnapMath.rd_no HAF.out HBL.out (fun h => heq h.2.2.2.2)
            clear heq
            go_upto_region 16 with fail
            refine wp_region_noPanic ?_
            refine wp_region_z [] (fun (V : World) => (convert 31 9 (.slice ad len cap)).run Tryz.prog V = .ok (.string s2) V) (by kernel_rfl) ?_
            have hHeld := KS.out _ hdrw
            obtain ⟨uf_0, hu⟩ : ∃ u, u = wo.drew := ⟨_, rfl⟩
            rw [← hu] at hHeld hdrw
            rw [← hu]
            clear hu
            have HU := Lib.hid hdrw
            clear hdrw
            refine zt 0 ?_
            refine zr 1 (fun C hC => ?_)
            go_simp
            refine (done_any w1 uf_0 k b f (HRD.out.on HU.out)).mono ?_
            rintro e uf_1 ⟨rfl, hb⟩
            rw [HQ.out]
            replace HU := Lib.hid (HU.out.trans (hb.mono HU.out.size))
            clear hb
            have hHeld := KS.out _ HU.out
            refine zc hC hHeld ?_
            clear hC C
            refine zt 2 ?_
            refine zt 3 ?_
            refine zt 4 ?_
            refine zt 5 ?_
            refine zt 6 ?_
            refine zt 7 ?_
            refine zt 8 ?_
            refine zt 9 ?_
            refine zt 10 ?_
            refine zt 11 ?_
            refine zt 12 ?_
            refine zt 13 ?_
            refine zt 16 ?_
            refine zt 17 ?_
            refine zr 14 (fun C hC => ?_)
            go_simp
            refine (snBytes_any uf_1 la ln lc ms ((HA.out.on HU.out).row.1) HPI.out (fun p hp => HAC.out.few p hp) n0 HN64.out).mono ?_
            rintro e uf_2 ⟨v, rfl, g, cg, rfl, hcg, hg, hpre, hb⟩
            replace HU := Lib.hid (HU.out.trans (hb.mono HU.out.size))
            have hcv := run_str_at (hpre.byt (CrcMath.sealB_all (bodyS_all HPI.out HN64.out)) cg hcg) HS1.out
            obtain ⟨L, hL⟩ : ∃ L, L = (snapS (pds ms) n0).length := ⟨_, rfl⟩
            rw [← hL] at hcv ⊢
            clear hb hcg hg hpre hL
            have hHeld := KS.out _ HU.out
            refine zc hC hHeld ?_
            clear hC C
            refine zr 15 (fun C hC => ?_)
            go_simp
            have hHeld := KS.out _ HU.out
            refine zc hC hHeld ?_
            clear hC C
            clear hcv
            refine zt 18 ?_
            refine zt 19 ?_
            refine wpAnyZ_done (by kernel_rfl) ?_ _
            refine NoPanic.normal ?_
            clear hHeld KS
            go_wp2
            go_ret3
            exact snap_none (HB.out.trans (HU.out.mono HB.out.size)) HNO.out
end Go.Proofs.YtgohekjkbgfeeaaGreat
namespace Go.Proofs.YtgohekjkbgfeeaaGreat
open Go.RowKit
open Go.SeqMath
open Go.ProdMath
open Go.BatMath hiding AllB take_all
set_option linter.unusedVariables false

set_option maxRecDepth 100000 in
set_option maxHeartbeats 4000000 in
theorem prRefSame_any (w : World) (id ep op : Int) (last : List Tr) (ad : Option Addr) (n cap : Nat) (hl : RowAt trK w ad n cap last) (am : Option Addr) (cm : Nat) (hm : RowAt trK w am n cm last) (hn : n ≤ 100000000000) :
 Calls Tryz.prog 47 #[.agg #[.int .i64 id, .int .i64 ep, .slice ad n cap, .int .i64 op], .agg #[.int .i64 id, .int .i64 ep, .slice am n cm, .int .i64 op]] w (GivesBool w true) := by
 obtain ⟨W0, hW0⟩ : ∃ W0, W0 = ((w.alloc (.cells #[.int .i64 id, .int .i64 ep, .slice ad n cap, .int .i64 op] 78)).alloc (.cells #[.int .i64 id, .int .i64 ep, .slice am n cm, .int .i64 op] 78)) := ⟨_, rfl⟩
 have HB0 : Hid (Below w.heap.size w W0) := by show Below _ _ _; rw [hW0]; exact ((Below.refl _ _).alloc (Nat.le_refl _) _).alloc (by simp) _
 have HP0 : Hid (PBox W0 w.heap.size (id) (ep) (.slice ad n cap) (op)) := by
  show PBox _ w.heap.size (id) (ep) (.slice ad n cap) (op)
  rw [hW0]
  have h1 := pbox_new w (id) (ep) (.slice ad n cap) (op)
  have h2 := h1.on ((Below.refl _ _).alloc (Nat.le_refl _) (.cells #[.int .i64 id, .int .i64 ep, .slice am n cm, .int .i64 op] 78))
  simpa using h2
 have HP1 : Hid (PBox W0 (w.heap.size + 1) (id) (ep) (.slice am n cm) (op)) := by
  show PBox _ (w.heap.size + 1) (id) (ep) (.slice am n cm) (op)
  rw [hW0]
  have h1 := pbox_new (w.alloc (.cells #[.int .i64 id, .int .i64 ep, .slice ad n cap, .int .i64 op] 78)) (id) (ep) (.slice am n cm) (op)
  simpa using h1
 have HW0 := Lib.hid hW0
 clear hW0
 obtain ⟨B1, hB1⟩ : ∃ B, B = w.heap.size := ⟨_, rfl⟩
 obtain ⟨B2, hB2⟩ : ∃ B, B = w.heap.size + 1 := ⟨_, rfl⟩
 rw [← hB1] at HP0
 rw [← hB2] at HP1
 go_enter Tryz.func47, Tryz.ntmps47
 go_upto_region 1 with fail
 rw [← HW0.out, ← hB2, ← hB1]
 clear HW0 hB1 hB2
 have HL0 := Lib.hid (hl.keep HB0.out)
 have HM0 := Lib.hid (hm.keep HB0.out)
 clear hl hm
 have q0 := HP0.out.c0
 have q1 := HP0.out.c1
 have q2 := HP0.out.c2
 have q3 := HP0.out.c3
 have s0 := HP1.out.c0
 have s1 := HP1.out.c1
 have s2 := HP1.out.c2
 have s3 := HP1.out.c3
 have hd1 : (id == id) = true := by simp
 have hd2 : (ep == ep) = true := by simp
 have hd3 : (op == op) = true := by simp
 have hd1n : (id != id) = false := by simp
 have hd2n : (ep != ep) = false := by simp
 have hd3n : (op != op) = false := by simp
 have hd4 : (n == n) = true := by simp
 have hd5 : ((n : Int) == (n : Int)) = true := by simp
 have hgd := guard_three
 go_wp2
 go_loopw [37] (fun v37 wr => ∃ j : Nat, v37 = .int .i64 (j : Int) ∧ j ≤ n ∧ Below W0.heap.size W0 wr) (fun v37 _ => n - (intOf v37).toNat)
 case atStart => exact ⟨0, rfl, Nat.zero_le _, Below.refl _ _⟩
 case round =>
  obtain ⟨j, rfl, hj, hbel⟩ := hrel
  have HB := Lib.hid hbel
  clear hbel q0 q1 q2 q3 s0 s1 s2 s3
  obtain ⟨wo, hwo⟩ : ∃ wo : World, wo = wr := ⟨_, rfl⟩
  subst hwo
  by_cases hlt : j < n
  · have hd6 : decide (j < n) = true := decide_eq_true hlt
    have hjn : (j : Int) < (n : Int) := by omega
    obtain ⟨bk, off, x, rfl, hbk, hx, c0, c1, c2⟩ := tr_get (HL0.out.keep HB.out) hlt
    obtain ⟨bm, om, y, rfl, hbm, hy, d0, d1, d2⟩ := tr_get (HM0.out.keep HB.out) hlt
    have hxy : y = x := by rw [hx] at hy; cases hy; rfl
    subst hxy
    have q2 := (HP0.out.on HB.out).c2
    have s2 := (HP1.out.on HB.out).c2
    clear hx hy hbk hbm
    go_upto_region 6 with fail
    have heq : ∀ W, (binOp .neq 79 (.agg #[.int .i64 y.f, .int .i64 y.l, .int .i64 y.b]) (.agg #[.int .i64 y.f, .int .i64 y.l, .int .i64 y.b])).run Tryz.prog W = .ok (.bool false) W := fun W => neq_three _ _ _ _ _ _ true (by simp) W
    go_quiet (fail)
    have HBU := Lib.hid (below_drewN HB.out nq)
    clear q2 s2 c0 c1 c2 d0 d1 d2 heq
    go_wp2
    go_roundw
    case rel => exact ⟨j + 1, by go_num, by omega, HBU.out⟩
    case measure => simp [intOf]; omega
  · have hd6 : decide (j < n) = false := decide_eq_false hlt
    go_wp2
    go_ret
    exact gives_bool rfl (HB0.out.trans (HB.out.mono HB0.out.size))
end Go.Proofs.YtgohekjkbgfeeaaGreat
namespace Go.Proofs.YtgohekjkbgfeeaaGreat
open Go.RowKit
open Go.SeqMath
open Go.ProdMath
open Go.BatMath hiding AllB take_all
set_option linter.unusedVariables false

set_option maxRecDepth 100000 in
set_option maxHeartbeats 4000000 in
theorem refAllP_any (w : World) (ad1 ad2 : Option Addr) (n1 n2 cap1 cap2 : Nat) (ms1 ms2 : List PM) (h1 : PdsAt w ad1 n1 cap1 ms1) (h2 : PdsAt w ad2 n2 cap2 ms2) (he : pds ms1 = pds ms2) (hL : n1 ≤ 1000000) (hfew : fewP (pds ms1)) :
 Calls Tryz.prog 22 #[.slice ad1 n1 cap1, .slice ad2 n2 cap2] w (GivesBool w true) := by
 have hn : n1 = n2 := by
  have e := congrArg List.length he
  unfold pds at e
  rw [List.length_map, List.length_map, h1.row.length, h2.row.length] at e
  exact e
 subst hn
 have H1 := Lib.hid h1
 have H2 := Lib.hid h2
 have HE := Lib.hid he
 have HF := Lib.hid hfew
 clear h1 h2 he hfew
 go_enter Tryz.func22, Tryz.ntmps22
 go_wp2
 go_loopw [13] (fun v13 wr => ∃ j : Nat, v13 = .int .i64 (j : Int) ∧ j ≤ n1 ∧ Hid (Below w.heap.size w wr)) (fun v13 _ => n1 - (intOf v13).toNat)
 case atStart => exact ⟨0, rfl, Nat.zero_le _, Below.refl _ _⟩
 case round =>
  obtain ⟨j, rfl, hj, HB⟩ := hrel
  obtain ⟨wo, hwo⟩ : ∃ wo : World, wo = wr := ⟨_, rfl⟩
  subst hwo
  by_cases hlt : j < n1
  · have hd : decide (j < n1) = true := decide_eq_true hlt
    have hjl : (j : Int) < (n1 : Int) := by omega
    obtain ⟨bk, off, m, rfl, hbk, hm, hla, c0, c1, c2, c3⟩ := (H1.out.keep HB.out).get hlt
    obtain ⟨bk2, off2, m2, rfl, hbk2, hm2, hla2, d0, d1, d2, d3⟩ := (H2.out.keep HB.out).get hlt
    have hpp : m.p = m2.p := by
     have e := congrArg (fun l : List Pd => l[j]?) HE.out
     unfold pds at e
     simp only [List.getElem?_map, hm, hm2, Option.map_some, Option.some.injEq] at e
     exact e
    have hp5 := HF.out m.p (List.mem_map.2 ⟨m, List.mem_of_getElem? hm, rfl⟩)
    obtain ⟨⟨pid, pep, pl, po⟩, pd, pc⟩ := m
    obtain ⟨p2, qd, qc⟩ := m2
    simp only at hpp
    subst hpp
    simp only at c0 c1 c2 c3 d0 d1 d2 d3 hp5
    have hlb : RowAt trK wo pd pl.length pc pl := hla
    have hlb2 : RowAt trK wo qd pl.length qc pl := hla2
    obtain ⟨pn, hpn⟩ : ∃ n, n = pl.length := ⟨_, rfl⟩
    rw [← hpn] at c2 d2 hp5 hlb hlb2
    have HLA := Lib.hid hlb
    have HLA2 := Lib.hid hlb2
    have KS : Hid (∀ V, Below wo.heap.size wo V → (fun (V : World) => V.cell? ⟨bk, off + j * 4, none⟩ = some (.int .i64 pid) ∧ V.cell? ⟨bk, off + j * 4 + 1, none⟩ = some (.int .i64 pep) ∧ V.cell? ⟨bk, off + j * 4 + 2, none⟩ = some (.slice pd pn pc) ∧ V.cell? ⟨bk, off + j * 4 + 3, none⟩ = some (.int .i64 po) ∧ V.cell? ⟨bk2, off2 + j * 4, none⟩ = some (.int .i64 pid) ∧ V.cell? ⟨bk2, off2 + j * 4 + 1, none⟩ = some (.int .i64 pep) ∧ V.cell? ⟨bk2, off2 + j * 4 + 2, none⟩ = some (.slice qd pn qc) ∧ V.cell? ⟨bk2, off2 + j * 4 + 3, none⟩ = some (.int .i64 po)) V) := fun V hV => ⟨(hV.cell (p := ⟨_, _, none⟩) hbk).trans c0, (hV.cell (p := ⟨_, _, none⟩) hbk).trans c1, (hV.cell (p := ⟨_, _, none⟩) hbk).trans c2, (hV.cell (p := ⟨_, _, none⟩) hbk).trans c3, (hV.cell (p := ⟨_, _, none⟩) hbk2).trans d0, (hV.cell (p := ⟨_, _, none⟩) hbk2).trans d1, (hV.cell (p := ⟨_, _, none⟩) hbk2).trans d2, (hV.cell (p := ⟨_, _, none⟩) hbk2).trans d3⟩
    have hdrw : Below wo.heap.size wo wo.drew := (Below.refl _ wo).drew
    clear hla hla2 hlb hlb2 hpn hm hm2 c0 c1 c2 c3 d0 d1 d2 d3 hbk hbk2
    go_upto_region 6 with fail
    refine wp_region_noPanic ?_
    refine wp_region_z [] (fun (V : World) => V.cell? ⟨bk, off + j * 4, none⟩ = some (.int .i64 pid) ∧ V.cell? ⟨bk, off + j * 4 + 1, none⟩ = some (.int .i64 pep) ∧ V.cell? ⟨bk, off + j * 4 + 2, none⟩ = some (.slice pd pn pc) ∧ V.cell? ⟨bk, off + j * 4 + 3, none⟩ = some (.int .i64 po) ∧ V.cell? ⟨bk2, off2 + j * 4, none⟩ = some (.int .i64 pid) ∧ V.cell? ⟨bk2, off2 + j * 4 + 1, none⟩ = some (.int .i64 pep) ∧ V.cell? ⟨bk2, off2 + j * 4 + 2, none⟩ = some (.slice qd pn qc) ∧ V.cell? ⟨bk2, off2 + j * 4 + 3, none⟩ = some (.int .i64 po)) (by kernel_rfl) ?_
    have hHeld := KS.out _ hdrw
    obtain ⟨u1, hu1⟩ : ∃ u, u = wo.drew := ⟨_, rfl⟩
    rw [← hu1] at hHeld hdrw
    rw [← hu1]
    clear hu1
    have HU1 := Lib.hid hdrw
    clear hdrw
    refine zt 0 ?_
    refine zt 1 ?_
    refine zt 2 ?_
    refine zt 3 ?_
    refine zt 4 ?_
    refine zt 5 ?_
    refine zt 6 ?_
    refine zt 7 ?_
    refine zr 8 (fun C hC => ?_)
    go_simp
    refine (prRefSame_any u1 pid pep po pl pd pn pc (HLA.out.keep HU1.out) qd qc (HLA2.out.keep HU1.out) (by omega)).mono ?_
    rintro e u2 ⟨rfl, hb⟩
    have HU2 := Lib.hid (HU1.out.trans (hb.mono HU1.out.size))
    clear hb
    have hHeld := KS.out _ HU2.out
    refine zc hC hHeld ?_
    clear hC C
    refine zt 9 ?_
    refine wpAnyZ_done (by kernel_rfl) ?_ _
    refine NoPanic.normal ?_
    clear hHeld KS HU1
    have HB3 := Lib.hid (HB.out.trans (HU2.out.mono HB.out.size))
    go_wp2
    go_roundw
    case rel => exact ⟨j + 1, rfl, by omega, HB3.out⟩
    case measure => simp [intOf]; omega
  · have hd : decide (j < n1) = false := decide_eq_false hlt
    go_wp2
    go_ret
    exact ⟨rfl, HB.out⟩
end Go.Proofs.YtgohekjkbgfeeaaGreat
