/- Law 12's lists: the latest and the old ones of some names, given what Parse, Less, Latest, Old do with them. -/
import Derived.Test.YtgohekjkbgfeeaaGreatKn1
import Derived.Test.YtgohekjkbgfeeaaGreatKn13
namespace Go.Proofs.YtgohekjkbgfeeaaGreat
open Go.RowKit
open Go.SnapMath
set_option linter.unusedVariables false
section
variable {P : Program} {ops : Array Oper} {Q : Exit → Act → World → Prop} {md : Region.Mode} {S : World → Prop} {Z : List Nat}
theorem zcl {C : Act → World → Prop} {fuel : Nat} {l l2 : Array Bool} {a a2 : Act} {w : World}
 (hC : Shut (∀ a w, (ZFree Z l → S w) → ((ZFree Z l → S w) → wpAnyZ P md ops Q Z S fuel l a w) → C a w)) (hS : S w) (h : wpAnyZ P md ops Q Z S fuel l2 a2 w)
 (hl : l = l2 := by (try simp only [List.setIfInBounds_toArray, List.set_cons_zero, List.set_cons_succ]); exact rfl)
 (ha : a = a2 := by (try simp only [Act.put, List.setIfInBounds_toArray, List.set_cons_zero, List.set_cons_succ]); exact rfl) : C a w := by
 subst hl ha
 exact hC.out _ _ (fun _ => hS) (fun _ => h)
end

set_option maxRecDepth 100000 in
set_option maxHeartbeats 8000000 in
theorem snLists_any (w : World) (ad : Option Addr) (len cap : Nat) (ns : List ByteArray) (P : ByteArray → Option Int) (h : RowAt nameK w ad len cap ns) (hL : len ≤ 100000) (N : NamesAre ns P) (end0 keep : Int) (hk64 : -9223372036854775808 ≤ keep ∧ keep ≤ 9223372036854775807)
 (hlat : ∀ W, Below w.heap.size w W → Calls Tryz.prog 33 #[.slice ad len cap, .int .i64 end0] W (LatestDoes W P ns end0))
 (hold : ∀ W, Below w.heap.size w W → Calls Tryz.prog 34 #[.slice ad len cap, .int .i64 keep] W (OldDoes W P ns keep))
 (hsame : ∀ W a1 a2 n c1 c2 l, RowAt nameK W a1 n c1 l → RowAt nameK W a2 n c2 l → n ≤ 100000 → Calls Tryz.prog 35 #[.slice a1 n c1, .slice a2 n c2] W (GivesBool W true)) :
 Calls Tryz.prog 14 #[.slice ad len cap, .int .i64 end0, .int .i64 keep] w (GivesBool w true) := by
 have H := Lib.hid h
 have HN := Lib.hid N
 have HLA := Lib.hid hlat
 have HOL := Lib.hid hold
 have HSA := Lib.hid hsame
 have hnl := h.length
 have HNL := Lib.hid hnl
 clear h N hlat hold hsame hnl
 go_enter Tryz.func14, Tryz.ntmps14
 go_wp2
 go_loopw [7, 8, 9, 10, 22] (fun v7 v8 v9 v10 v22 wr => ∃ (j : Nat) (b : Option ByteArray) (all : List ByteArray) (la : Option Addr) (ln lc : Nat), v22 = .int .i64 (j : Int) ∧ j ≤ len ∧ v7 = .string (b.getD ⟨#[]⟩) ∧ v8 = .bool b.isSome ∧ v9 = .int .i64 (bestAt P b) ∧ v10 = .slice la ln lc ∧ Hid (RowAt nameK wr la ln lc all) ∧ Hid (AscK (keyP P) all) ∧ Hid (∀ x, x ∈ all ↔ x ∈ snapsP P (ns.take j)) ∧ Hid (BestK (keyP P) (snapsP P (ns.take j)) end0 b) ∧ ln ≤ j ∧ Hid (Below w.heap.size w wr)) (fun _ _ _ _ v22 _ => len - (intOf v22).toNat)
 case atStart => exact ⟨0, none, [], none, 0, 0, rfl, Nat.zero_le _, rfl, rfl, rfl, rfl, rowAt_nil w, AscK.nil, fun x => Iff.rfl, BestK.nil _, Nat.le_refl _, Below.refl _ _⟩
 case round =>
  obtain ⟨j, b, all, la, ln, lc, rfl, hj, rfl, rfl, rfl, rfl, HR, HA, HM, HBK, hlj, HB⟩ := hrel
  obtain ⟨wo, hwo⟩ : ∃ wo : World, wo = wr := ⟨_, rfl⟩
  subst hwo
  by_cases hlt : j < len
  · have hd : decide (j < len) = true := decide_eq_true hlt
    have hjl : (j : Int) < (len : Int) := by omega
    obtain ⟨bk, off, s, rfl, hbk, hs, hc⟩ := (H.out.keep HB.out).get hlt
    have c0 : wo.cell? ⟨bk, off + j, none⟩ = some (.string s) := by
     have h1 := hc 0 _ rfl
     rwa [show off + (j * nameK.size + 0) = off + j by show off + (j * 1 + 0) = _; omega] at h1
    have hsm : s ∈ ns := List.mem_of_getElem? hs
    have htk : ns.take (j + 1) = ns.take j ++ [s] := by rw [List.take_add_one, hs]; rfl
    have HTK := Lib.hid htk
    have HSM : Hid (s ∈ ns) := hsm
    have CP := Lib.hid (HN.out.parse wo s hsm)
    clear hs hc hsm htk hbk
    go_wp2_with fail
    refine CP.out.mono ?_
    rintro e w2 ⟨hb2, hcs⟩
    have HB2 := Lib.hid (HB.out.trans (hb2.mono HB.out.size))
    have HR2 := Lib.hid (HR.out.keep hb2)
    clear hb2 HB HR c0 CP
    rcases hcs with ⟨n, hn, rfl⟩ | ⟨hn, n, kd, ok, rfl, hk⟩
    · skip
      have hkey : keyP P s = n := by unfold keyP; rw [hn]; rfl
      have HKEY := Lib.hid hkey
      have HPS := Lib.hid hn
      have hpos := HN.out.pos s HSM.out n hn
      have HS : Hid (snapsP P (ns.take (j + 1)) = snapsP P (ns.take j) ++ [s]) := by show _ = _; rw [HTK.out]; exact snapsP_snoc_yes hn
      have hbk := (HBK.out).snoc (s := s)
      rw [← HS.out, hkey] at hbk
      have hbb : ∀ a, b = some a → keyP P a = bestAt P b := fun a ha => by rw [ha]; rfl
      have HIN : Hid (∀ x ∈ all, x ∈ ns ∧ ∃ a, P x = some a ∧ keyP P x = a) := fun x hx => by
       have h1 := (HM.out x).1 hx
       unfold snapsP at h1
       obtain ⟨h2, h3⟩ := List.mem_filter.1 h1
       obtain ⟨a, ha⟩ := Option.isSome_iff_exists.1 h3
       exact ⟨List.mem_of_mem_take h2, a, ha, by unfold keyP; rw [ha]; rfl⟩
      have heq : ((⟨#[115, 110, 97, 112, 115, 104, 111, 116]⟩ : ByteArray).toList == [115, 110, 97, 112, 115, 104, 111, 116]) = true := by first | rfl | kernel_rfl | simp | (rw [beq_iff_eq]; simp [ByteArray.toList])
      unfold snapT
      clear hn hkey HTK HBK
      by_cases he1 : n ≤ end0
      · have hd1 : decide (n ≤ end0) = true := decide_eq_true he1
        by_cases he2 : bestAt P b < n
        · have hd2 : decide (bestAt P b < n) = true := decide_eq_true he2
          rw [if_pos ⟨he1, fun a ha => by rw [hbb a ha]; exact he2⟩] at hbk
          have HBK := Lib.hid hbk
          have HAT : Hid (bestAt P (some s) = n) := HKEY.out
          clear hbk hbb
          go_wp2
          go_loopw [16] (fun v16 wr => ∃ i : Nat, v16 = .int .i64 (i : Int) ∧ i ≤ ln ∧ Hid (∀ q x, i ≤ q → all[q]? = some x → n < keyP P x) ∧ Hid (Below w2.heap.size w2 wr)) (fun v16 _ => (intOf v16).toNat)
          case atStart => exact ⟨ln, rfl, Nat.le_refl _, fun q x hq hx => (by have h1 := (List.getElem?_eq_some_iff.1 hx).1; have h2 := HR2.out.length; omega), Below.refl _ _⟩
          case round =>
           obtain ⟨i, rfl, hi, HGE, HBI⟩ := hrel
           obtain ⟨wi, hwi⟩ : ∃ wi : World, wi = wr := ⟨_, rfl⟩
           subst hwi
           have hRi := HR2.out.keep HBI.out
           rcases Nat.eq_zero_or_pos i with h0 | h0
           · subst h0
             have hile : 0 ≤ ln := Nat.zero_le _
             have HRq : Hid (RowAt nameK wi la ln lc all) := HR2.out.keep HBI.out
             have HBq := HBI
             have HPUT : Hid (AscK (keyP P) (all.take 0 ++ s :: all.drop 0)) := HA.out.put (Nat.zero_le _) (fun q y hq hy => by rw [HKEY.out]; exact HGE.out q y hq hy) (.inl rfl)
             have HMEM : Hid (∀ y, y ∈ all.take 0 ++ s :: all.drop 0 ↔ y ∈ snapsP P (ns.take (j + 1))) := fun y => by
              rw [put_mem, HS.out, List.mem_append, List.mem_singleton, ← HM.out y]
              exact or_comm
             clear hRi
             have HUT := Lib.hid (HRq.out.take (0) hile)
             obtain ⟨fa, fc, hsf0, hfr, _⟩ := row_from nameK_ok HRq.out (0) hile
             have HFR := Lib.hid hfr
             have hsu : ∀ V, (Instr.slice 39 (.slice la ln lc) none (some (.int .i64 (0))) none).run Tryz.prog V = .ok (.slice la (0) lc) V := row_upto nameK_ok _ ln lc (0) (Nat.le_trans hile HRq.out.fits)
             have hsf : ∀ V, (Instr.slice 39 (.slice la ln lc) (some (.int .i64 (0))) none none).run Tryz.prog V = .ok (.slice fa (ln - (0)) fc) V := hsf0
             clear hfr hsf0
             have hdrw : Below wi.heap.size wi wi.drew := (Below.refl _ wi).drew
             go_upto_region 15 with fail
             refine wp_region_noPanic ?_
             refine wp_region_z [] (fun (_ : World) => True) (by kernel_rfl) ?_
             have hHeld : (fun (_ : World) => True) wi.drew := trivial
             obtain ⟨u0, hu⟩ : ∃ u, u = wi.drew := ⟨_, rfl⟩
             rw [← hu] at hHeld hdrw
             rw [← hu]
             clear hu
             have HU := Lib.hid hdrw
             clear hdrw
             refine zt 1 ?_
             refine zt 2 ?_
             refine zt 3 ?_
             refine zt 5 ?_
             refine zt 8 ?_
             refine zt 9 ?_
             refine zt 10 ?_
             refine wpAnyZ_ready (rs := [0, 6]) (by kernel_rfl) (by simp) ?_
             refine AllReadyZ.cons (o := ⟨_, _, _, _, _, _⟩) rfl (fun C hC => ?_) (AllReadyZ.cons (o := ⟨_, _, _, _, _, _⟩) rfl (fun C hC => ?_) AllReadyZ.nil)
             · skip
               go_simp
               obtain ⟨u1, hu⟩ : ∃ z, z = u0.alloc (.cells #[] 9) := ⟨_, rfl⟩
               have hbb : Below u0.heap.size u0 u1 := by rw [hu]; exact (Below.refl _ _).alloc (Nat.le_refl _) _
               obtain ⟨ga, hg⟩ : ∃ z, z = u0.heap.size := ⟨_, rfl⟩
               have HO : Hid (OwnRow nameK u1 wi.heap.size (.slice (some ⟨ga, 0, none⟩) 0 0) []) := by show OwnRow _ _ _ _ _; rw [hu, hg]; exact ownRow_lit nameK_ok u0 _ [] HU.out.size (by simp) _ rfl 0 rfl
               replace HU := Lib.hid (HU.out.trans (hbb.mono HU.out.size))
               rw [← hu, ← hg]
               clear hu hg hbb
               have hHeld : (fun (_ : World) => True) u1 := trivial
               refine zcl hC hHeld ?_
               clear hC C
               refine wpAnyZ_ready (rs := [4, 6]) (by kernel_rfl) (by simp) ?_
               refine AllReadyZ.cons (o := ⟨_, _, _, _, _, _⟩) rfl (fun C hC => ?_) (AllReadyZ.cons (o := ⟨_, _, _, _, _, _⟩) rfl (fun C hC => ?_) AllReadyZ.nil)
               · skip
                 refine held_row (by rfl) nameK_ok (.tmp 74) (.tmp 77) rfl wi.heap.size [] (all.take (0)) _ rfl HO.out HU.out.size la (0) lc rfl (HUT.out.keep HU.out) (by rw [List.length_nil]; omega) ?_
                 rintro v2 u2 hap
                 replace HU := Lib.hid (HU.out.grown hap.2.1 HU.out.size (fun q hq => (HO.out.lt q hq).1))
                 replace HO := Lib.hid hap.1
                 clear hap
                 have hHeld : (fun (_ : World) => True) u2 := trivial
                 refine zcl hC hHeld ?_
                 clear hC C
                 refine zr 6 (fun C hC => ?_)
                 go_simp
                 obtain ⟨u3, hu⟩ : ∃ z, z = u2.alloc (.cells #[.string s] 9) := ⟨_, rfl⟩
                 have hbb : Below u2.heap.size u2 u3 := by rw [hu]; exact (Below.refl _ _).alloc (Nat.le_refl _) _
                 obtain ⟨gx, hg⟩ : ∃ z, z = u2.heap.size := ⟨_, rfl⟩
                 have HX : Hid (RowAt nameK u3 (some ⟨gx, 0, none⟩) 1 1 [s]) := by show RowAt _ _ _ _ _ _; rw [hu, hg]; exact rowAt_lit nameK_ok u2 [s] (by simp) _ rfl 1 rfl
                 have HGX : Hid (gx < u3.heap.size) := by show _ < _; rw [hu, hg]; simp
                 have HNE : Hid (∀ q, (v2 : Value).ownBlock = some q → q ≠ gx) := fun q hq => by have := (HO.out.lt q hq).2; omega
                 replace HO := Lib.hid (HO.out.on hbb)
                 replace HU := Lib.hid (HU.out.trans (hbb.mono HU.out.size))
                 rw [← hu, ← hg]
                 clear hu hg hbb
                 have hHeld : (fun (_ : World) => True) u3 := trivial
                 refine zcl hC hHeld ?_
                 clear hC C
                 refine zr 7 (fun C hC => ?_)
                 refine held_row (by rfl) nameK_ok (.tmp 78) (.tmp 80) rfl wi.heap.size (all.take (0)) [s] _ rfl HO.out HU.out.size (some ⟨gx, 0, none⟩) 1 1 rfl HX.out (by rw [List.length_take]; omega) ?_
                 rintro v4 u4 hap
                 replace HX := Lib.hid (HX.out.grown hap.2.1 (fun a ha e => by cases ha; exact HNE.out _ e.symm rfl))
                 replace HNE : Hid (∀ q, (v4 : Value).ownBlock = some q → q ≠ gx) := fun q hq => by
                  rcases hap.2.2.2 q hq with h | h
                  · exact HNE.out q h
                  · have := HGX.out; omega
                 replace HGX : Hid (gx < u4.heap.size) := Nat.lt_of_lt_of_le HGX.out hap.2.1.size
                 replace HU := Lib.hid (HU.out.grown hap.2.1 HU.out.size (fun q hq => (HO.out.lt q hq).1))
                 replace HO := Lib.hid hap.1
                 clear hap
                 have hHeld : (fun (_ : World) => True) u4 := trivial
                 refine zcl hC hHeld ?_
                 clear hC C
                 refine zr 11 (fun C hC => ?_)
                 refine held_row (by rfl) nameK_ok (.tmp 81) (.tmp 84) rfl wi.heap.size (all.take (0) ++ [s]) (all.drop (0)) _ rfl HO.out HU.out.size fa (ln - (0)) fc rfl (HFR.out.keep HU.out) (by rw [List.length_append, List.length_take, List.length_singleton]; omega) ?_
                 rintro v5 u5 hap
                 have hal := HRq.out.length
                 obtain ⟨za, zc, hz, hzr, _⟩ := OwnRow.row nameK_ok hap.1 (n := ln + 1) (by rw [List.length_append, List.length_append, List.length_take, List.length_drop, List.length_singleton]; omega)
                 subst hz
                 rw [List.append_assoc] at hzr
                 have HZR := Lib.hid hzr
                 replace HU := Lib.hid (HU.out.grown hap.2.1 HU.out.size (fun q hq => (HO.out.lt q hq).1))
                 clear hap hzr hal
                 have hHeld : (fun (_ : World) => True) u5 := trivial
                 refine zcl hC hHeld ?_
                 clear hC C
                 refine zt 12 ?_
                 refine wpAnyZ_done (by kernel_rfl) ?_ _
                 refine NoPanic.normal ?_
                 clear hHeld
                 have HBZ := Lib.hid (HB2.out.trans ((HBq.out.trans (HU.out.mono HBq.out.size)).mono HB2.out.size))
                 go_wp2
                 go_roundw
                 case rel => exact ⟨j + 1, some s, _, za, ln + 1, zc, rfl, by omega, rfl, rfl, by first | rfl | rw [HAT.out], rfl, HZR.out, HPUT.out, HMEM.out, HBK.out, by omega, HBZ.out⟩
                 case measure => simp [intOf]; omega
               · skip
                 go_simp
                 obtain ⟨u2, hu⟩ : ∃ z, z = u1.alloc (.cells #[.string s] 9) := ⟨_, rfl⟩
                 have hbb : Below u1.heap.size u1 u2 := by rw [hu]; exact (Below.refl _ _).alloc (Nat.le_refl _) _
                 obtain ⟨gx, hg⟩ : ∃ z, z = u1.heap.size := ⟨_, rfl⟩
                 have HX : Hid (RowAt nameK u2 (some ⟨gx, 0, none⟩) 1 1 [s]) := by show RowAt _ _ _ _ _ _; rw [hu, hg]; exact rowAt_lit nameK_ok u1 [s] (by simp) _ rfl 1 rfl
                 have HGX : Hid (gx < u2.heap.size) := by show _ < _; rw [hu, hg]; simp
                 have HNE : Hid (∀ q, (Value.slice (some ⟨ga, 0, none⟩) 0 0 : Value).ownBlock = some q → q ≠ gx) := fun q hq => by have := (HO.out.lt q hq).2; omega
                 replace HO := Lib.hid (HO.out.on hbb)
                 replace HU := Lib.hid (HU.out.trans (hbb.mono HU.out.size))
                 rw [← hu, ← hg]
                 clear hu hg hbb
                 have hHeld : (fun (_ : World) => True) u2 := trivial
                 refine zcl hC hHeld ?_
                 clear hC C
                 refine zr 4 (fun C hC => ?_)
                 refine held_row (by rfl) nameK_ok (.tmp 74) (.tmp 77) rfl wi.heap.size [] (all.take (0)) _ rfl HO.out HU.out.size la (0) lc rfl (HUT.out.keep HU.out) (by rw [List.length_nil]; omega) ?_
                 rintro v3 u3 hap
                 replace HX := Lib.hid (HX.out.grown hap.2.1 (fun a ha e => by cases ha; exact HNE.out _ e.symm rfl))
                 replace HNE : Hid (∀ q, (v3 : Value).ownBlock = some q → q ≠ gx) := fun q hq => by
                  rcases hap.2.2.2 q hq with h | h
                  · exact HNE.out q h
                  · have := HGX.out; omega
                 replace HGX : Hid (gx < u3.heap.size) := Nat.lt_of_lt_of_le HGX.out hap.2.1.size
                 replace HU := Lib.hid (HU.out.grown hap.2.1 HU.out.size (fun q hq => (HO.out.lt q hq).1))
                 replace HO := Lib.hid hap.1
                 clear hap
                 have hHeld : (fun (_ : World) => True) u3 := trivial
                 refine zcl hC hHeld ?_
                 clear hC C
                 refine zr 7 (fun C hC => ?_)
                 refine held_row (by rfl) nameK_ok (.tmp 78) (.tmp 80) rfl wi.heap.size (all.take (0)) [s] _ rfl HO.out HU.out.size (some ⟨gx, 0, none⟩) 1 1 rfl HX.out (by rw [List.length_take]; omega) ?_
                 rintro v4 u4 hap
                 replace HX := Lib.hid (HX.out.grown hap.2.1 (fun a ha e => by cases ha; exact HNE.out _ e.symm rfl))
                 replace HNE : Hid (∀ q, (v4 : Value).ownBlock = some q → q ≠ gx) := fun q hq => by
                  rcases hap.2.2.2 q hq with h | h
                  · exact HNE.out q h
                  · have := HGX.out; omega
                 replace HGX : Hid (gx < u4.heap.size) := Nat.lt_of_lt_of_le HGX.out hap.2.1.size
                 replace HU := Lib.hid (HU.out.grown hap.2.1 HU.out.size (fun q hq => (HO.out.lt q hq).1))
                 replace HO := Lib.hid hap.1
                 clear hap
                 have hHeld : (fun (_ : World) => True) u4 := trivial
                 refine zcl hC hHeld ?_
                 clear hC C
                 refine zr 11 (fun C hC => ?_)
                 refine held_row (by rfl) nameK_ok (.tmp 81) (.tmp 84) rfl wi.heap.size (all.take (0) ++ [s]) (all.drop (0)) _ rfl HO.out HU.out.size fa (ln - (0)) fc rfl (HFR.out.keep HU.out) (by rw [List.length_append, List.length_take, List.length_singleton]; omega) ?_
                 rintro v5 u5 hap
                 have hal := HRq.out.length
                 obtain ⟨za, zc, hz, hzr, _⟩ := OwnRow.row nameK_ok hap.1 (n := ln + 1) (by rw [List.length_append, List.length_append, List.length_take, List.length_drop, List.length_singleton]; omega)
                 subst hz
                 rw [List.append_assoc] at hzr
                 have HZR := Lib.hid hzr
                 replace HU := Lib.hid (HU.out.grown hap.2.1 HU.out.size (fun q hq => (HO.out.lt q hq).1))
                 clear hap hzr hal
                 have hHeld : (fun (_ : World) => True) u5 := trivial
                 refine zcl hC hHeld ?_
                 clear hC C
                 refine zt 12 ?_
                 refine wpAnyZ_done (by kernel_rfl) ?_ _
                 refine NoPanic.normal ?_
                 clear hHeld
                 have HBZ := Lib.hid (HB2.out.trans ((HBq.out.trans (HU.out.mono HBq.out.size)).mono HB2.out.size))
                 go_wp2
                 go_roundw
                 case rel => exact ⟨j + 1, some s, _, za, ln + 1, zc, rfl, by omega, rfl, rfl, by first | rfl | rw [HAT.out], rfl, HZR.out, HPUT.out, HMEM.out, HBK.out, by omega, HBZ.out⟩
                 case measure => simp [intOf]; omega
             · skip
               go_simp
               obtain ⟨u1, hu⟩ : ∃ z, z = u0.alloc (.cells #[.string s] 9) := ⟨_, rfl⟩
               have hbb : Below u0.heap.size u0 u1 := by rw [hu]; exact (Below.refl _ _).alloc (Nat.le_refl _) _
               obtain ⟨gx, hg⟩ : ∃ z, z = u0.heap.size := ⟨_, rfl⟩
               have HX : Hid (RowAt nameK u1 (some ⟨gx, 0, none⟩) 1 1 [s]) := by show RowAt _ _ _ _ _ _; rw [hu, hg]; exact rowAt_lit nameK_ok u0 [s] (by simp) _ rfl 1 rfl
               have HGX : Hid (gx < u1.heap.size) := by show _ < _; rw [hu, hg]; simp
               replace HU := Lib.hid (HU.out.trans (hbb.mono HU.out.size))
               rw [← hu, ← hg]
               clear hu hg hbb
               have hHeld : (fun (_ : World) => True) u1 := trivial
               refine zcl hC hHeld ?_
               clear hC C
               refine zr 0 (fun C hC => ?_)
               go_simp
               obtain ⟨u2, hu⟩ : ∃ z, z = u1.alloc (.cells #[] 9) := ⟨_, rfl⟩
               have hbb : Below u1.heap.size u1 u2 := by rw [hu]; exact (Below.refl _ _).alloc (Nat.le_refl _) _
               obtain ⟨ga, hg⟩ : ∃ z, z = u1.heap.size := ⟨_, rfl⟩
               have HO : Hid (OwnRow nameK u2 wi.heap.size (.slice (some ⟨ga, 0, none⟩) 0 0) []) := by show OwnRow _ _ _ _ _; rw [hu, hg]; exact ownRow_lit nameK_ok u1 _ [] HU.out.size (by simp) _ rfl 0 rfl
               have HNE : Hid (∀ q, (Value.slice (some ⟨ga, 0, none⟩) 0 0).ownBlock = some q → q ≠ gx) := fun q hq => by have h1 := HGX.out; have h2 : ga = q := Option.some.inj hq; omega
               replace HX := Lib.hid (HX.out.keep hbb)
               replace HGX : Hid (gx < u2.heap.size) := Nat.lt_of_lt_of_le HGX.out hbb.size
               replace HU := Lib.hid (HU.out.trans (hbb.mono HU.out.size))
               rw [← hu, ← hg]
               clear hu hg hbb
               have hHeld : (fun (_ : World) => True) u2 := trivial
               refine zcl hC hHeld ?_
               clear hC C
               refine zr 4 (fun C hC => ?_)
               refine held_row (by rfl) nameK_ok (.tmp 74) (.tmp 77) rfl wi.heap.size [] (all.take (0)) _ rfl HO.out HU.out.size la (0) lc rfl (HUT.out.keep HU.out) (by rw [List.length_nil]; omega) ?_
               rintro v3 u3 hap
               replace HX := Lib.hid (HX.out.grown hap.2.1 (fun a ha e => by cases ha; exact HNE.out _ e.symm rfl))
               replace HNE : Hid (∀ q, (v3 : Value).ownBlock = some q → q ≠ gx) := fun q hq => by
                rcases hap.2.2.2 q hq with h | h
                · exact HNE.out q h
                · have := HGX.out; omega
               replace HGX : Hid (gx < u3.heap.size) := Nat.lt_of_lt_of_le HGX.out hap.2.1.size
               replace HU := Lib.hid (HU.out.grown hap.2.1 HU.out.size (fun q hq => (HO.out.lt q hq).1))
               replace HO := Lib.hid hap.1
               clear hap
               have hHeld : (fun (_ : World) => True) u3 := trivial
               refine zcl hC hHeld ?_
               clear hC C
               refine zr 7 (fun C hC => ?_)
               refine held_row (by rfl) nameK_ok (.tmp 78) (.tmp 80) rfl wi.heap.size (all.take (0)) [s] _ rfl HO.out HU.out.size (some ⟨gx, 0, none⟩) 1 1 rfl HX.out (by rw [List.length_take]; omega) ?_
               rintro v4 u4 hap
               replace HX := Lib.hid (HX.out.grown hap.2.1 (fun a ha e => by cases ha; exact HNE.out _ e.symm rfl))
               replace HNE : Hid (∀ q, (v4 : Value).ownBlock = some q → q ≠ gx) := fun q hq => by
                rcases hap.2.2.2 q hq with h | h
                · exact HNE.out q h
                · have := HGX.out; omega
               replace HGX : Hid (gx < u4.heap.size) := Nat.lt_of_lt_of_le HGX.out hap.2.1.size
               replace HU := Lib.hid (HU.out.grown hap.2.1 HU.out.size (fun q hq => (HO.out.lt q hq).1))
               replace HO := Lib.hid hap.1
               clear hap
               have hHeld : (fun (_ : World) => True) u4 := trivial
               refine zcl hC hHeld ?_
               clear hC C
               refine zr 11 (fun C hC => ?_)
               refine held_row (by rfl) nameK_ok (.tmp 81) (.tmp 84) rfl wi.heap.size (all.take (0) ++ [s]) (all.drop (0)) _ rfl HO.out HU.out.size fa (ln - (0)) fc rfl (HFR.out.keep HU.out) (by rw [List.length_append, List.length_take, List.length_singleton]; omega) ?_
               rintro v5 u5 hap
               have hal := HRq.out.length
               obtain ⟨za, zc, hz, hzr, _⟩ := OwnRow.row nameK_ok hap.1 (n := ln + 1) (by rw [List.length_append, List.length_append, List.length_take, List.length_drop, List.length_singleton]; omega)
               subst hz
               rw [List.append_assoc] at hzr
               have HZR := Lib.hid hzr
               replace HU := Lib.hid (HU.out.grown hap.2.1 HU.out.size (fun q hq => (HO.out.lt q hq).1))
               clear hap hzr hal
               have hHeld : (fun (_ : World) => True) u5 := trivial
               refine zcl hC hHeld ?_
               clear hC C
               refine zt 12 ?_
               refine wpAnyZ_done (by kernel_rfl) ?_ _
               refine NoPanic.normal ?_
               clear hHeld
               have HBZ := Lib.hid (HB2.out.trans ((HBq.out.trans (HU.out.mono HBq.out.size)).mono HB2.out.size))
               go_wp2
               go_roundw
               case rel => exact ⟨j + 1, some s, _, za, ln + 1, zc, rfl, by omega, rfl, rfl, by first | rfl | rw [HAT.out], rfl, HZR.out, HPUT.out, HMEM.out, HBK.out, by omega, HBZ.out⟩
               case measure => simp [intOf]; omega
           · obtain ⟨i1, rfl⟩ : ∃ q, i = q + 1 := ⟨i - 1, by omega⟩
             obtain ⟨bx, ox, x, rfl, hbx, hx, hcx⟩ := hRi.get (i := i1) (by omega)
             have cx : wi.cell? ⟨bx, ox + i1, none⟩ = some (.string x) := by
              have h1 := hcx 0 _ rfl
              rwa [show ox + (i1 * nameK.size + 0) = ox + i1 by show ox + (i1 * 1 + 0) = _; omega] at h1
             obtain ⟨hxn, ax, hax, hkx⟩ := HIN.out x (List.mem_of_getElem? hx)
             have HXX := Lib.hid hx
             have HAX := Lib.hid hax
             have HKX := Lib.hid hkx
             have CL := Lib.hid (HN.out.less wi s x n ax HSM.out hxn HPS.out hax)
             have hi4 : IntKind.i64.wrap (i1 : Int) = (i1 : Int) := IntWalk.i64_in _ (by omega)
             have hi5 : (0 : Int) ≤ (i1 : Int) := by omega
             have hi6 : (i1 : Int) < (ln : Int) := by omega
             have hi7 : decide ((0 : Int) < (i1 : Int) + 1) = true := decide_eq_true (by omega)
             have HBX : Hid (bx < wi.heap.size) := hbx
             clear hRi hbx hx hcx hax hkx
             go_wp2_with fail
             refine CL.out.mono ?_
             rintro e w3 ⟨rfl, hb3⟩
             have HBI3 := Lib.hid (HBI.out.trans (hb3.mono HBI.out.size))
             have HRx := Lib.hid (HR2.out.keep HBI3.out)
             by_cases hna : n < ax
             · have hdn : decide (n < ax) = true := decide_eq_true hna
               clear hb3 HBI
               go_wp2
               go_roundw
               case rel => exact ⟨i1, by go_num, by omega, fun q y hq hy => (by rcases Nat.lt_or_ge i1 q with h | h; exact HGE.out q y h hy; (rw [show q = i1 by omega, HXX.out] at hy; cases hy; rw [HKX.out]; exact hna)), HBI3.out⟩
               case measure => simp [intOf]; try omega
             · have hdn : decide (n < ax) = false := decide_eq_false hna
               have cx3 := (hb3.cell (p := ⟨bx, ox + i1, none⟩) HBX.out).trans cx
               clear hb3 cx HBI
               by_cases hxs : x = s
               · have hxe : (x.toList == s.toList) = true := by rw [hxs]; exact beq_self_eq_true _
                 have HMEM : Hid (∀ y, y ∈ all ↔ y ∈ snapsP P (ns.take (j + 1))) := fun y => by
                  rw [HS.out, List.mem_append, List.mem_singleton, ← HM.out y]
                  exact ⟨fun h => .inl h, fun h => by rcases h with h | h; exact h; (rw [h, ← hxs]; exact List.mem_of_getElem? HXX.out)⟩
                 have HBZ := Lib.hid (HB2.out.trans (HBI3.out.mono HB2.out.size))
                 go_wp2
                 go_roundw
                 case rel => exact ⟨j + 1, some s, all, _, ln, lc, rfl, by omega, rfl, rfl, by first | rfl | rw [HAT.out], rfl, HRx.out, HA.out, HMEM.out, HBK.out, by omega, HBZ.out⟩
                 case measure => simp [intOf]; omega
               · have hxe : (x.toList == s.toList) = false := name_differ hxs
                 have hile : i1 + 1 ≤ ln := hi
                 have HRq := HRx
                 have HBq := HBI3
                 have HPUT : Hid (AscK (keyP P) (all.take (i1 + 1) ++ s :: all.drop (i1 + 1))) := HA.out.put (by have := HRx.out.length; omega) (fun q y hq hy => by rw [HKEY.out]; exact HGE.out q y hq hy) (.inr ⟨x, HXX.out, by
                  rw [HKX.out, HKEY.out]
                  rcases Int.lt_or_le ax n with h | h
                  · exact h
                  · have e : ax = n := by omega
                    exact absurd (HN.out.inj x (HIN.out x (List.mem_of_getElem? HXX.out)).1 s HSM.out n (by rw [HAX.out, e]) HPS.out) hxs⟩)
                 have HMEM : Hid (∀ y, y ∈ all.take (i1 + 1) ++ s :: all.drop (i1 + 1) ↔ y ∈ snapsP P (ns.take (j + 1))) := fun y => by
                  rw [put_mem, HS.out, List.mem_append, List.mem_singleton, ← HM.out y]
                  exact or_comm
                 have HUT := Lib.hid (HRq.out.take (i1 + 1) hile)
                 obtain ⟨fa, fc, hsf0, hfr, _⟩ := row_from nameK_ok HRq.out (i1 + 1) hile
                 have HFR := Lib.hid hfr
                 have hsu : ∀ V, (Instr.slice 39 (.slice (some ⟨bx, ox, none⟩) ln lc) none (some (.int .i64 ((i1 : Int) + 1))) none).run Tryz.prog V = .ok (.slice (some ⟨bx, ox, none⟩) (i1 + 1) lc) V := row_upto nameK_ok _ ln lc (i1 + 1) (Nat.le_trans hile HRq.out.fits)
                 have hsf : ∀ V, (Instr.slice 39 (.slice (some ⟨bx, ox, none⟩) ln lc) (some (.int .i64 ((i1 : Int) + 1))) none none).run Tryz.prog V = .ok (.slice fa (ln - (i1 + 1)) fc) V := hsf0
                 clear hfr hsf0
                 have hdrw : Below w3.heap.size w3 w3.drew := (Below.refl _ w3).drew
                 go_upto_region 15 with fail
                 refine wp_region_noPanic ?_
                 refine wp_region_z [] (fun (_ : World) => True) (by kernel_rfl) ?_
                 have hHeld : (fun (_ : World) => True) w3.drew := trivial
                 obtain ⟨u0, hu⟩ : ∃ u, u = w3.drew := ⟨_, rfl⟩
                 rw [← hu] at hHeld hdrw
                 rw [← hu]
                 clear hu
                 have HU := Lib.hid hdrw
                 clear hdrw
                 refine zt 1 ?_
                 refine zt 2 ?_
                 refine zt 3 ?_
                 refine zt 5 ?_
                 refine zt 8 ?_
                 refine zt 9 ?_
                 refine zt 10 ?_
                 refine wpAnyZ_ready (rs := [0, 6]) (by kernel_rfl) (by simp) ?_
                 refine AllReadyZ.cons (o := ⟨_, _, _, _, _, _⟩) rfl (fun C hC => ?_) (AllReadyZ.cons (o := ⟨_, _, _, _, _, _⟩) rfl (fun C hC => ?_) AllReadyZ.nil)
                 · skip
                   go_simp
                   obtain ⟨u1, hu⟩ : ∃ z, z = u0.alloc (.cells #[] 9) := ⟨_, rfl⟩
                   have hbb : Below u0.heap.size u0 u1 := by rw [hu]; exact (Below.refl _ _).alloc (Nat.le_refl _) _
                   obtain ⟨ga, hg⟩ : ∃ z, z = u0.heap.size := ⟨_, rfl⟩
                   have HO : Hid (OwnRow nameK u1 w3.heap.size (.slice (some ⟨ga, 0, none⟩) 0 0) []) := by show OwnRow _ _ _ _ _; rw [hu, hg]; exact ownRow_lit nameK_ok u0 _ [] HU.out.size (by simp) _ rfl 0 rfl
                   replace HU := Lib.hid (HU.out.trans (hbb.mono HU.out.size))
                   rw [← hu, ← hg]
                   clear hu hg hbb
                   have hHeld : (fun (_ : World) => True) u1 := trivial
                   refine zcl hC hHeld ?_
                   clear hC C
                   refine wpAnyZ_ready (rs := [4, 6]) (by kernel_rfl) (by simp) ?_
                   refine AllReadyZ.cons (o := ⟨_, _, _, _, _, _⟩) rfl (fun C hC => ?_) (AllReadyZ.cons (o := ⟨_, _, _, _, _, _⟩) rfl (fun C hC => ?_) AllReadyZ.nil)
                   · skip
                     refine held_row (by rfl) nameK_ok (.tmp 74) (.tmp 77) rfl w3.heap.size [] (all.take (i1 + 1)) _ rfl HO.out HU.out.size (some ⟨bx, ox, none⟩) (i1 + 1) lc rfl (HUT.out.keep HU.out) (by rw [List.length_nil]; omega) ?_
                     rintro v2 u2 hap
                     replace HU := Lib.hid (HU.out.grown hap.2.1 HU.out.size (fun q hq => (HO.out.lt q hq).1))
                     replace HO := Lib.hid hap.1
                     clear hap
                     have hHeld : (fun (_ : World) => True) u2 := trivial
                     refine zcl hC hHeld ?_
                     clear hC C
                     refine zr 6 (fun C hC => ?_)
                     go_simp
                     obtain ⟨u3, hu⟩ : ∃ z, z = u2.alloc (.cells #[.string s] 9) := ⟨_, rfl⟩
                     have hbb : Below u2.heap.size u2 u3 := by rw [hu]; exact (Below.refl _ _).alloc (Nat.le_refl _) _
                     obtain ⟨gx, hg⟩ : ∃ z, z = u2.heap.size := ⟨_, rfl⟩
                     have HX : Hid (RowAt nameK u3 (some ⟨gx, 0, none⟩) 1 1 [s]) := by show RowAt _ _ _ _ _ _; rw [hu, hg]; exact rowAt_lit nameK_ok u2 [s] (by simp) _ rfl 1 rfl
                     have HGX : Hid (gx < u3.heap.size) := by show _ < _; rw [hu, hg]; simp
                     have HNE : Hid (∀ q, (v2 : Value).ownBlock = some q → q ≠ gx) := fun q hq => by have := (HO.out.lt q hq).2; omega
                     replace HO := Lib.hid (HO.out.on hbb)
                     replace HU := Lib.hid (HU.out.trans (hbb.mono HU.out.size))
                     rw [← hu, ← hg]
                     clear hu hg hbb
                     have hHeld : (fun (_ : World) => True) u3 := trivial
                     refine zcl hC hHeld ?_
                     clear hC C
                     refine zr 7 (fun C hC => ?_)
                     refine held_row (by rfl) nameK_ok (.tmp 78) (.tmp 80) rfl w3.heap.size (all.take (i1 + 1)) [s] _ rfl HO.out HU.out.size (some ⟨gx, 0, none⟩) 1 1 rfl HX.out (by rw [List.length_take]; omega) ?_
                     rintro v4 u4 hap
                     replace HX := Lib.hid (HX.out.grown hap.2.1 (fun a ha e => by cases ha; exact HNE.out _ e.symm rfl))
                     replace HNE : Hid (∀ q, (v4 : Value).ownBlock = some q → q ≠ gx) := fun q hq => by
                      rcases hap.2.2.2 q hq with h | h
                      · exact HNE.out q h
                      · have := HGX.out; omega
                     replace HGX : Hid (gx < u4.heap.size) := Nat.lt_of_lt_of_le HGX.out hap.2.1.size
                     replace HU := Lib.hid (HU.out.grown hap.2.1 HU.out.size (fun q hq => (HO.out.lt q hq).1))
                     replace HO := Lib.hid hap.1
                     clear hap
                     have hHeld : (fun (_ : World) => True) u4 := trivial
                     refine zcl hC hHeld ?_
                     clear hC C
                     refine zr 11 (fun C hC => ?_)
                     refine held_row (by rfl) nameK_ok (.tmp 81) (.tmp 84) rfl w3.heap.size (all.take (i1 + 1) ++ [s]) (all.drop (i1 + 1)) _ rfl HO.out HU.out.size fa (ln - (i1 + 1)) fc rfl (HFR.out.keep HU.out) (by rw [List.length_append, List.length_take, List.length_singleton]; omega) ?_
                     rintro v5 u5 hap
                     have hal := HRq.out.length
                     obtain ⟨za, zc, hz, hzr, _⟩ := OwnRow.row nameK_ok hap.1 (n := ln + 1) (by rw [List.length_append, List.length_append, List.length_take, List.length_drop, List.length_singleton]; omega)
                     subst hz
                     rw [List.append_assoc] at hzr
                     have HZR := Lib.hid hzr
                     replace HU := Lib.hid (HU.out.grown hap.2.1 HU.out.size (fun q hq => (HO.out.lt q hq).1))
                     clear hap hzr hal
                     have hHeld : (fun (_ : World) => True) u5 := trivial
                     refine zcl hC hHeld ?_
                     clear hC C
                     refine zt 12 ?_
                     refine wpAnyZ_done (by kernel_rfl) ?_ _
                     refine NoPanic.normal ?_
                     clear hHeld
                     have HBZ := Lib.hid (HB2.out.trans ((HBq.out.trans (HU.out.mono HBq.out.size)).mono HB2.out.size))
                     go_wp2
                     go_roundw
                     case rel => exact ⟨j + 1, some s, _, za, ln + 1, zc, rfl, by omega, rfl, rfl, by first | rfl | rw [HAT.out], rfl, HZR.out, HPUT.out, HMEM.out, HBK.out, by omega, HBZ.out⟩
                     case measure => simp [intOf]; omega
                   · skip
                     go_simp
                     obtain ⟨u2, hu⟩ : ∃ z, z = u1.alloc (.cells #[.string s] 9) := ⟨_, rfl⟩
                     have hbb : Below u1.heap.size u1 u2 := by rw [hu]; exact (Below.refl _ _).alloc (Nat.le_refl _) _
                     obtain ⟨gx, hg⟩ : ∃ z, z = u1.heap.size := ⟨_, rfl⟩
                     have HX : Hid (RowAt nameK u2 (some ⟨gx, 0, none⟩) 1 1 [s]) := by show RowAt _ _ _ _ _ _; rw [hu, hg]; exact rowAt_lit nameK_ok u1 [s] (by simp) _ rfl 1 rfl
                     have HGX : Hid (gx < u2.heap.size) := by show _ < _; rw [hu, hg]; simp
                     have HNE : Hid (∀ q, (Value.slice (some ⟨ga, 0, none⟩) 0 0 : Value).ownBlock = some q → q ≠ gx) := fun q hq => by have := (HO.out.lt q hq).2; omega
                     replace HO := Lib.hid (HO.out.on hbb)
                     replace HU := Lib.hid (HU.out.trans (hbb.mono HU.out.size))
                     rw [← hu, ← hg]
                     clear hu hg hbb
                     have hHeld : (fun (_ : World) => True) u2 := trivial
                     refine zcl hC hHeld ?_
                     clear hC C
                     refine zr 4 (fun C hC => ?_)
                     refine held_row (by rfl) nameK_ok (.tmp 74) (.tmp 77) rfl w3.heap.size [] (all.take (i1 + 1)) _ rfl HO.out HU.out.size (some ⟨bx, ox, none⟩) (i1 + 1) lc rfl (HUT.out.keep HU.out) (by rw [List.length_nil]; omega) ?_
                     rintro v3 u3 hap
                     replace HX := Lib.hid (HX.out.grown hap.2.1 (fun a ha e => by cases ha; exact HNE.out _ e.symm rfl))
                     replace HNE : Hid (∀ q, (v3 : Value).ownBlock = some q → q ≠ gx) := fun q hq => by
                      rcases hap.2.2.2 q hq with h | h
                      · exact HNE.out q h
                      · have := HGX.out; omega
                     replace HGX : Hid (gx < u3.heap.size) := Nat.lt_of_lt_of_le HGX.out hap.2.1.size
                     replace HU := Lib.hid (HU.out.grown hap.2.1 HU.out.size (fun q hq => (HO.out.lt q hq).1))
                     replace HO := Lib.hid hap.1
                     clear hap
                     have hHeld : (fun (_ : World) => True) u3 := trivial
                     refine zcl hC hHeld ?_
                     clear hC C
                     refine zr 7 (fun C hC => ?_)
                     refine held_row (by rfl) nameK_ok (.tmp 78) (.tmp 80) rfl w3.heap.size (all.take (i1 + 1)) [s] _ rfl HO.out HU.out.size (some ⟨gx, 0, none⟩) 1 1 rfl HX.out (by rw [List.length_take]; omega) ?_
                     rintro v4 u4 hap
                     replace HX := Lib.hid (HX.out.grown hap.2.1 (fun a ha e => by cases ha; exact HNE.out _ e.symm rfl))
                     replace HNE : Hid (∀ q, (v4 : Value).ownBlock = some q → q ≠ gx) := fun q hq => by
                      rcases hap.2.2.2 q hq with h | h
                      · exact HNE.out q h
                      · have := HGX.out; omega
                     replace HGX : Hid (gx < u4.heap.size) := Nat.lt_of_lt_of_le HGX.out hap.2.1.size
                     replace HU := Lib.hid (HU.out.grown hap.2.1 HU.out.size (fun q hq => (HO.out.lt q hq).1))
                     replace HO := Lib.hid hap.1
                     clear hap
                     have hHeld : (fun (_ : World) => True) u4 := trivial
                     refine zcl hC hHeld ?_
                     clear hC C
                     refine zr 11 (fun C hC => ?_)
                     refine held_row (by rfl) nameK_ok (.tmp 81) (.tmp 84) rfl w3.heap.size (all.take (i1 + 1) ++ [s]) (all.drop (i1 + 1)) _ rfl HO.out HU.out.size fa (ln - (i1 + 1)) fc rfl (HFR.out.keep HU.out) (by rw [List.length_append, List.length_take, List.length_singleton]; omega) ?_
                     rintro v5 u5 hap
                     have hal := HRq.out.length
                     obtain ⟨za, zc, hz, hzr, _⟩ := OwnRow.row nameK_ok hap.1 (n := ln + 1) (by rw [List.length_append, List.length_append, List.length_take, List.length_drop, List.length_singleton]; omega)
                     subst hz
                     rw [List.append_assoc] at hzr
                     have HZR := Lib.hid hzr
                     replace HU := Lib.hid (HU.out.grown hap.2.1 HU.out.size (fun q hq => (HO.out.lt q hq).1))
                     clear hap hzr hal
                     have hHeld : (fun (_ : World) => True) u5 := trivial
                     refine zcl hC hHeld ?_
                     clear hC C
                     refine zt 12 ?_
                     refine wpAnyZ_done (by kernel_rfl) ?_ _
                     refine NoPanic.normal ?_
                     clear hHeld
                     have HBZ := Lib.hid (HB2.out.trans ((HBq.out.trans (HU.out.mono HBq.out.size)).mono HB2.out.size))
                     go_wp2
                     go_roundw
                     case rel => exact ⟨j + 1, some s, _, za, ln + 1, zc, rfl, by omega, rfl, rfl, by first | rfl | rw [HAT.out], rfl, HZR.out, HPUT.out, HMEM.out, HBK.out, by omega, HBZ.out⟩
                     case measure => simp [intOf]; omega
                 · skip
                   go_simp
                   obtain ⟨u1, hu⟩ : ∃ z, z = u0.alloc (.cells #[.string s] 9) := ⟨_, rfl⟩
                   have hbb : Below u0.heap.size u0 u1 := by rw [hu]; exact (Below.refl _ _).alloc (Nat.le_refl _) _
                   obtain ⟨gx, hg⟩ : ∃ z, z = u0.heap.size := ⟨_, rfl⟩
                   have HX : Hid (RowAt nameK u1 (some ⟨gx, 0, none⟩) 1 1 [s]) := by show RowAt _ _ _ _ _ _; rw [hu, hg]; exact rowAt_lit nameK_ok u0 [s] (by simp) _ rfl 1 rfl
                   have HGX : Hid (gx < u1.heap.size) := by show _ < _; rw [hu, hg]; simp
                   replace HU := Lib.hid (HU.out.trans (hbb.mono HU.out.size))
                   rw [← hu, ← hg]
                   clear hu hg hbb
                   have hHeld : (fun (_ : World) => True) u1 := trivial
                   refine zcl hC hHeld ?_
                   clear hC C
                   refine zr 0 (fun C hC => ?_)
                   go_simp
                   obtain ⟨u2, hu⟩ : ∃ z, z = u1.alloc (.cells #[] 9) := ⟨_, rfl⟩
                   have hbb : Below u1.heap.size u1 u2 := by rw [hu]; exact (Below.refl _ _).alloc (Nat.le_refl _) _
                   obtain ⟨ga, hg⟩ : ∃ z, z = u1.heap.size := ⟨_, rfl⟩
                   have HO : Hid (OwnRow nameK u2 w3.heap.size (.slice (some ⟨ga, 0, none⟩) 0 0) []) := by show OwnRow _ _ _ _ _; rw [hu, hg]; exact ownRow_lit nameK_ok u1 _ [] HU.out.size (by simp) _ rfl 0 rfl
                   have HNE : Hid (∀ q, (Value.slice (some ⟨ga, 0, none⟩) 0 0).ownBlock = some q → q ≠ gx) := fun q hq => by have h1 := HGX.out; have h2 : ga = q := Option.some.inj hq; omega
                   replace HX := Lib.hid (HX.out.keep hbb)
                   replace HGX : Hid (gx < u2.heap.size) := Nat.lt_of_lt_of_le HGX.out hbb.size
                   replace HU := Lib.hid (HU.out.trans (hbb.mono HU.out.size))
                   rw [← hu, ← hg]
                   clear hu hg hbb
                   have hHeld : (fun (_ : World) => True) u2 := trivial
                   refine zcl hC hHeld ?_
                   clear hC C
                   refine zr 4 (fun C hC => ?_)
                   refine held_row (by rfl) nameK_ok (.tmp 74) (.tmp 77) rfl w3.heap.size [] (all.take (i1 + 1)) _ rfl HO.out HU.out.size (some ⟨bx, ox, none⟩) (i1 + 1) lc rfl (HUT.out.keep HU.out) (by rw [List.length_nil]; omega) ?_
                   rintro v3 u3 hap
                   replace HX := Lib.hid (HX.out.grown hap.2.1 (fun a ha e => by cases ha; exact HNE.out _ e.symm rfl))
                   replace HNE : Hid (∀ q, (v3 : Value).ownBlock = some q → q ≠ gx) := fun q hq => by
                    rcases hap.2.2.2 q hq with h | h
                    · exact HNE.out q h
                    · have := HGX.out; omega
                   replace HGX : Hid (gx < u3.heap.size) := Nat.lt_of_lt_of_le HGX.out hap.2.1.size
                   replace HU := Lib.hid (HU.out.grown hap.2.1 HU.out.size (fun q hq => (HO.out.lt q hq).1))
                   replace HO := Lib.hid hap.1
                   clear hap
                   have hHeld : (fun (_ : World) => True) u3 := trivial
                   refine zcl hC hHeld ?_
                   clear hC C
                   refine zr 7 (fun C hC => ?_)
                   refine held_row (by rfl) nameK_ok (.tmp 78) (.tmp 80) rfl w3.heap.size (all.take (i1 + 1)) [s] _ rfl HO.out HU.out.size (some ⟨gx, 0, none⟩) 1 1 rfl HX.out (by rw [List.length_take]; omega) ?_
                   rintro v4 u4 hap
                   replace HX := Lib.hid (HX.out.grown hap.2.1 (fun a ha e => by cases ha; exact HNE.out _ e.symm rfl))
                   replace HNE : Hid (∀ q, (v4 : Value).ownBlock = some q → q ≠ gx) := fun q hq => by
                    rcases hap.2.2.2 q hq with h | h
                    · exact HNE.out q h
                    · have := HGX.out; omega
                   replace HGX : Hid (gx < u4.heap.size) := Nat.lt_of_lt_of_le HGX.out hap.2.1.size
                   replace HU := Lib.hid (HU.out.grown hap.2.1 HU.out.size (fun q hq => (HO.out.lt q hq).1))
                   replace HO := Lib.hid hap.1
                   clear hap
                   have hHeld : (fun (_ : World) => True) u4 := trivial
                   refine zcl hC hHeld ?_
                   clear hC C
                   refine zr 11 (fun C hC => ?_)
                   refine held_row (by rfl) nameK_ok (.tmp 81) (.tmp 84) rfl w3.heap.size (all.take (i1 + 1) ++ [s]) (all.drop (i1 + 1)) _ rfl HO.out HU.out.size fa (ln - (i1 + 1)) fc rfl (HFR.out.keep HU.out) (by rw [List.length_append, List.length_take, List.length_singleton]; omega) ?_
                   rintro v5 u5 hap
                   have hal := HRq.out.length
                   obtain ⟨za, zc, hz, hzr, _⟩ := OwnRow.row nameK_ok hap.1 (n := ln + 1) (by rw [List.length_append, List.length_append, List.length_take, List.length_drop, List.length_singleton]; omega)
                   subst hz
                   rw [List.append_assoc] at hzr
                   have HZR := Lib.hid hzr
                   replace HU := Lib.hid (HU.out.grown hap.2.1 HU.out.size (fun q hq => (HO.out.lt q hq).1))
                   clear hap hzr hal
                   have hHeld : (fun (_ : World) => True) u5 := trivial
                   refine zcl hC hHeld ?_
                   clear hC C
                   refine zt 12 ?_
                   refine wpAnyZ_done (by kernel_rfl) ?_ _
                   refine NoPanic.normal ?_
                   clear hHeld
                   have HBZ := Lib.hid (HB2.out.trans ((HBq.out.trans (HU.out.mono HBq.out.size)).mono HB2.out.size))
                   go_wp2
                   go_roundw
                   case rel => exact ⟨j + 1, some s, _, za, ln + 1, zc, rfl, by omega, rfl, rfl, by first | rfl | rw [HAT.out], rfl, HZR.out, HPUT.out, HMEM.out, HBK.out, by omega, HBZ.out⟩
                   case measure => simp [intOf]; omega
        · have hd2 : decide (bestAt P b < n) = false := decide_eq_false he2
          have hno : ¬ (n ≤ end0 ∧ ∀ a, b = some a → keyP P a < n) := fun h => he2 (by
           cases b with
           | none => show (-1 : Int) < n; omega
           | some a => exact h.2 a rfl)
          rw [if_neg hno] at hbk
          have HBK := Lib.hid hbk
          clear hbk hbb hno
          go_wp2
          go_loopw [16] (fun v16 wr => ∃ i : Nat, v16 = .int .i64 (i : Int) ∧ i ≤ ln ∧ Hid (∀ q x, i ≤ q → all[q]? = some x → n < keyP P x) ∧ Hid (Below w2.heap.size w2 wr)) (fun v16 _ => (intOf v16).toNat)
          case atStart => exact ⟨ln, rfl, Nat.le_refl _, fun q x hq hx => (by have h1 := (List.getElem?_eq_some_iff.1 hx).1; have h2 := HR2.out.length; omega), Below.refl _ _⟩
          case round =>
           obtain ⟨i, rfl, hi, HGE, HBI⟩ := hrel
           obtain ⟨wi, hwi⟩ : ∃ wi : World, wi = wr := ⟨_, rfl⟩
           subst hwi
           have hRi := HR2.out.keep HBI.out
           rcases Nat.eq_zero_or_pos i with h0 | h0
           · subst h0
             have hile : 0 ≤ ln := Nat.zero_le _
             have HRq : Hid (RowAt nameK wi la ln lc all) := HR2.out.keep HBI.out
             have HBq := HBI
             have HPUT : Hid (AscK (keyP P) (all.take 0 ++ s :: all.drop 0)) := HA.out.put (Nat.zero_le _) (fun q y hq hy => by rw [HKEY.out]; exact HGE.out q y hq hy) (.inl rfl)
             have HMEM : Hid (∀ y, y ∈ all.take 0 ++ s :: all.drop 0 ↔ y ∈ snapsP P (ns.take (j + 1))) := fun y => by
              rw [put_mem, HS.out, List.mem_append, List.mem_singleton, ← HM.out y]
              exact or_comm
             clear hRi
             have HUT := Lib.hid (HRq.out.take (0) hile)
             obtain ⟨fa, fc, hsf0, hfr, _⟩ := row_from nameK_ok HRq.out (0) hile
             have HFR := Lib.hid hfr
             have hsu : ∀ V, (Instr.slice 39 (.slice la ln lc) none (some (.int .i64 (0))) none).run Tryz.prog V = .ok (.slice la (0) lc) V := row_upto nameK_ok _ ln lc (0) (Nat.le_trans hile HRq.out.fits)
             have hsf : ∀ V, (Instr.slice 39 (.slice la ln lc) (some (.int .i64 (0))) none none).run Tryz.prog V = .ok (.slice fa (ln - (0)) fc) V := hsf0
             clear hfr hsf0
             have hdrw : Below wi.heap.size wi wi.drew := (Below.refl _ wi).drew
             go_upto_region 15 with fail
             refine wp_region_noPanic ?_
             refine wp_region_z [] (fun (_ : World) => True) (by kernel_rfl) ?_
             have hHeld : (fun (_ : World) => True) wi.drew := trivial
             obtain ⟨u0, hu⟩ : ∃ u, u = wi.drew := ⟨_, rfl⟩
             rw [← hu] at hHeld hdrw
             rw [← hu]
             clear hu
             have HU := Lib.hid hdrw
             clear hdrw
             refine zt 1 ?_
             refine zt 2 ?_
             refine zt 3 ?_
             refine zt 5 ?_
             refine zt 8 ?_
             refine zt 9 ?_
             refine zt 10 ?_
             refine wpAnyZ_ready (rs := [0, 6]) (by kernel_rfl) (by simp) ?_
             refine AllReadyZ.cons (o := ⟨_, _, _, _, _, _⟩) rfl (fun C hC => ?_) (AllReadyZ.cons (o := ⟨_, _, _, _, _, _⟩) rfl (fun C hC => ?_) AllReadyZ.nil)
             · skip
               go_simp
               obtain ⟨u1, hu⟩ : ∃ z, z = u0.alloc (.cells #[] 9) := ⟨_, rfl⟩
               have hbb : Below u0.heap.size u0 u1 := by rw [hu]; exact (Below.refl _ _).alloc (Nat.le_refl _) _
               obtain ⟨ga, hg⟩ : ∃ z, z = u0.heap.size := ⟨_, rfl⟩
               have HO : Hid (OwnRow nameK u1 wi.heap.size (.slice (some ⟨ga, 0, none⟩) 0 0) []) := by show OwnRow _ _ _ _ _; rw [hu, hg]; exact ownRow_lit nameK_ok u0 _ [] HU.out.size (by simp) _ rfl 0 rfl
               replace HU := Lib.hid (HU.out.trans (hbb.mono HU.out.size))
               rw [← hu, ← hg]
               clear hu hg hbb
               have hHeld : (fun (_ : World) => True) u1 := trivial
               refine zcl hC hHeld ?_
               clear hC C
               refine wpAnyZ_ready (rs := [4, 6]) (by kernel_rfl) (by simp) ?_
               refine AllReadyZ.cons (o := ⟨_, _, _, _, _, _⟩) rfl (fun C hC => ?_) (AllReadyZ.cons (o := ⟨_, _, _, _, _, _⟩) rfl (fun C hC => ?_) AllReadyZ.nil)
               · skip
                 refine held_row (by rfl) nameK_ok (.tmp 74) (.tmp 77) rfl wi.heap.size [] (all.take (0)) _ rfl HO.out HU.out.size la (0) lc rfl (HUT.out.keep HU.out) (by rw [List.length_nil]; omega) ?_
                 rintro v2 u2 hap
                 replace HU := Lib.hid (HU.out.grown hap.2.1 HU.out.size (fun q hq => (HO.out.lt q hq).1))
                 replace HO := Lib.hid hap.1
                 clear hap
                 have hHeld : (fun (_ : World) => True) u2 := trivial
                 refine zcl hC hHeld ?_
                 clear hC C
                 refine zr 6 (fun C hC => ?_)
                 go_simp
                 obtain ⟨u3, hu⟩ : ∃ z, z = u2.alloc (.cells #[.string s] 9) := ⟨_, rfl⟩
                 have hbb : Below u2.heap.size u2 u3 := by rw [hu]; exact (Below.refl _ _).alloc (Nat.le_refl _) _
                 obtain ⟨gx, hg⟩ : ∃ z, z = u2.heap.size := ⟨_, rfl⟩
                 have HX : Hid (RowAt nameK u3 (some ⟨gx, 0, none⟩) 1 1 [s]) := by show RowAt _ _ _ _ _ _; rw [hu, hg]; exact rowAt_lit nameK_ok u2 [s] (by simp) _ rfl 1 rfl
                 have HGX : Hid (gx < u3.heap.size) := by show _ < _; rw [hu, hg]; simp
                 have HNE : Hid (∀ q, (v2 : Value).ownBlock = some q → q ≠ gx) := fun q hq => by have := (HO.out.lt q hq).2; omega
                 replace HO := Lib.hid (HO.out.on hbb)
                 replace HU := Lib.hid (HU.out.trans (hbb.mono HU.out.size))
                 rw [← hu, ← hg]
                 clear hu hg hbb
                 have hHeld : (fun (_ : World) => True) u3 := trivial
                 refine zcl hC hHeld ?_
                 clear hC C
                 refine zr 7 (fun C hC => ?_)
                 refine held_row (by rfl) nameK_ok (.tmp 78) (.tmp 80) rfl wi.heap.size (all.take (0)) [s] _ rfl HO.out HU.out.size (some ⟨gx, 0, none⟩) 1 1 rfl HX.out (by rw [List.length_take]; omega) ?_
                 rintro v4 u4 hap
                 replace HX := Lib.hid (HX.out.grown hap.2.1 (fun a ha e => by cases ha; exact HNE.out _ e.symm rfl))
                 replace HNE : Hid (∀ q, (v4 : Value).ownBlock = some q → q ≠ gx) := fun q hq => by
                  rcases hap.2.2.2 q hq with h | h
                  · exact HNE.out q h
                  · have := HGX.out; omega
                 replace HGX : Hid (gx < u4.heap.size) := Nat.lt_of_lt_of_le HGX.out hap.2.1.size
                 replace HU := Lib.hid (HU.out.grown hap.2.1 HU.out.size (fun q hq => (HO.out.lt q hq).1))
                 replace HO := Lib.hid hap.1
                 clear hap
                 have hHeld : (fun (_ : World) => True) u4 := trivial
                 refine zcl hC hHeld ?_
                 clear hC C
                 refine zr 11 (fun C hC => ?_)
                 refine held_row (by rfl) nameK_ok (.tmp 81) (.tmp 84) rfl wi.heap.size (all.take (0) ++ [s]) (all.drop (0)) _ rfl HO.out HU.out.size fa (ln - (0)) fc rfl (HFR.out.keep HU.out) (by rw [List.length_append, List.length_take, List.length_singleton]; omega) ?_
                 rintro v5 u5 hap
                 have hal := HRq.out.length
                 obtain ⟨za, zc, hz, hzr, _⟩ := OwnRow.row nameK_ok hap.1 (n := ln + 1) (by rw [List.length_append, List.length_append, List.length_take, List.length_drop, List.length_singleton]; omega)
                 subst hz
                 rw [List.append_assoc] at hzr
                 have HZR := Lib.hid hzr
                 replace HU := Lib.hid (HU.out.grown hap.2.1 HU.out.size (fun q hq => (HO.out.lt q hq).1))
                 clear hap hzr hal
                 have hHeld : (fun (_ : World) => True) u5 := trivial
                 refine zcl hC hHeld ?_
                 clear hC C
                 refine zt 12 ?_
                 refine wpAnyZ_done (by kernel_rfl) ?_ _
                 refine NoPanic.normal ?_
                 clear hHeld
                 have HBZ := Lib.hid (HB2.out.trans ((HBq.out.trans (HU.out.mono HBq.out.size)).mono HB2.out.size))
                 go_wp2
                 go_roundw
                 case rel => exact ⟨j + 1, b, _, za, ln + 1, zc, rfl, by omega, rfl, rfl, by first | rfl | rw [HAT.out], rfl, HZR.out, HPUT.out, HMEM.out, HBK.out, by omega, HBZ.out⟩
                 case measure => simp [intOf]; omega
               · skip
                 go_simp
                 obtain ⟨u2, hu⟩ : ∃ z, z = u1.alloc (.cells #[.string s] 9) := ⟨_, rfl⟩
                 have hbb : Below u1.heap.size u1 u2 := by rw [hu]; exact (Below.refl _ _).alloc (Nat.le_refl _) _
                 obtain ⟨gx, hg⟩ : ∃ z, z = u1.heap.size := ⟨_, rfl⟩
                 have HX : Hid (RowAt nameK u2 (some ⟨gx, 0, none⟩) 1 1 [s]) := by show RowAt _ _ _ _ _ _; rw [hu, hg]; exact rowAt_lit nameK_ok u1 [s] (by simp) _ rfl 1 rfl
                 have HGX : Hid (gx < u2.heap.size) := by show _ < _; rw [hu, hg]; simp
                 have HNE : Hid (∀ q, (Value.slice (some ⟨ga, 0, none⟩) 0 0 : Value).ownBlock = some q → q ≠ gx) := fun q hq => by have := (HO.out.lt q hq).2; omega
                 replace HO := Lib.hid (HO.out.on hbb)
                 replace HU := Lib.hid (HU.out.trans (hbb.mono HU.out.size))
                 rw [← hu, ← hg]
                 clear hu hg hbb
                 have hHeld : (fun (_ : World) => True) u2 := trivial
                 refine zcl hC hHeld ?_
                 clear hC C
                 refine zr 4 (fun C hC => ?_)
                 refine held_row (by rfl) nameK_ok (.tmp 74) (.tmp 77) rfl wi.heap.size [] (all.take (0)) _ rfl HO.out HU.out.size la (0) lc rfl (HUT.out.keep HU.out) (by rw [List.length_nil]; omega) ?_
                 rintro v3 u3 hap
                 replace HX := Lib.hid (HX.out.grown hap.2.1 (fun a ha e => by cases ha; exact HNE.out _ e.symm rfl))
                 replace HNE : Hid (∀ q, (v3 : Value).ownBlock = some q → q ≠ gx) := fun q hq => by
                  rcases hap.2.2.2 q hq with h | h
                  · exact HNE.out q h
                  · have := HGX.out; omega
                 replace HGX : Hid (gx < u3.heap.size) := Nat.lt_of_lt_of_le HGX.out hap.2.1.size
                 replace HU := Lib.hid (HU.out.grown hap.2.1 HU.out.size (fun q hq => (HO.out.lt q hq).1))
                 replace HO := Lib.hid hap.1
                 clear hap
                 have hHeld : (fun (_ : World) => True) u3 := trivial
                 refine zcl hC hHeld ?_
                 clear hC C
                 refine zr 7 (fun C hC => ?_)
                 refine held_row (by rfl) nameK_ok (.tmp 78) (.tmp 80) rfl wi.heap.size (all.take (0)) [s] _ rfl HO.out HU.out.size (some ⟨gx, 0, none⟩) 1 1 rfl HX.out (by rw [List.length_take]; omega) ?_
                 rintro v4 u4 hap
                 replace HX := Lib.hid (HX.out.grown hap.2.1 (fun a ha e => by cases ha; exact HNE.out _ e.symm rfl))
                 replace HNE : Hid (∀ q, (v4 : Value).ownBlock = some q → q ≠ gx) := fun q hq => by
                  rcases hap.2.2.2 q hq with h | h
                  · exact HNE.out q h
                  · have := HGX.out; omega
                 replace HGX : Hid (gx < u4.heap.size) := Nat.lt_of_lt_of_le HGX.out hap.2.1.size
                 replace HU := Lib.hid (HU.out.grown hap.2.1 HU.out.size (fun q hq => (HO.out.lt q hq).1))
                 replace HO := Lib.hid hap.1
                 clear hap
                 have hHeld : (fun (_ : World) => True) u4 := trivial
                 refine zcl hC hHeld ?_
                 clear hC C
                 refine zr 11 (fun C hC => ?_)
                 refine held_row (by rfl) nameK_ok (.tmp 81) (.tmp 84) rfl wi.heap.size (all.take (0) ++ [s]) (all.drop (0)) _ rfl HO.out HU.out.size fa (ln - (0)) fc rfl (HFR.out.keep HU.out) (by rw [List.length_append, List.length_take, List.length_singleton]; omega) ?_
                 rintro v5 u5 hap
                 have hal := HRq.out.length
                 obtain ⟨za, zc, hz, hzr, _⟩ := OwnRow.row nameK_ok hap.1 (n := ln + 1) (by rw [List.length_append, List.length_append, List.length_take, List.length_drop, List.length_singleton]; omega)
                 subst hz
                 rw [List.append_assoc] at hzr
                 have HZR := Lib.hid hzr
                 replace HU := Lib.hid (HU.out.grown hap.2.1 HU.out.size (fun q hq => (HO.out.lt q hq).1))
                 clear hap hzr hal
                 have hHeld : (fun (_ : World) => True) u5 := trivial
                 refine zcl hC hHeld ?_
                 clear hC C
                 refine zt 12 ?_
                 refine wpAnyZ_done (by kernel_rfl) ?_ _
                 refine NoPanic.normal ?_
                 clear hHeld
                 have HBZ := Lib.hid (HB2.out.trans ((HBq.out.trans (HU.out.mono HBq.out.size)).mono HB2.out.size))
                 go_wp2
                 go_roundw
                 case rel => exact ⟨j + 1, b, _, za, ln + 1, zc, rfl, by omega, rfl, rfl, by first | rfl | rw [HAT.out], rfl, HZR.out, HPUT.out, HMEM.out, HBK.out, by omega, HBZ.out⟩
                 case measure => simp [intOf]; omega
             · skip
               go_simp
               obtain ⟨u1, hu⟩ : ∃ z, z = u0.alloc (.cells #[.string s] 9) := ⟨_, rfl⟩
               have hbb : Below u0.heap.size u0 u1 := by rw [hu]; exact (Below.refl _ _).alloc (Nat.le_refl _) _
               obtain ⟨gx, hg⟩ : ∃ z, z = u0.heap.size := ⟨_, rfl⟩
               have HX : Hid (RowAt nameK u1 (some ⟨gx, 0, none⟩) 1 1 [s]) := by show RowAt _ _ _ _ _ _; rw [hu, hg]; exact rowAt_lit nameK_ok u0 [s] (by simp) _ rfl 1 rfl
               have HGX : Hid (gx < u1.heap.size) := by show _ < _; rw [hu, hg]; simp
               replace HU := Lib.hid (HU.out.trans (hbb.mono HU.out.size))
               rw [← hu, ← hg]
               clear hu hg hbb
               have hHeld : (fun (_ : World) => True) u1 := trivial
               refine zcl hC hHeld ?_
               clear hC C
               refine zr 0 (fun C hC => ?_)
               go_simp
               obtain ⟨u2, hu⟩ : ∃ z, z = u1.alloc (.cells #[] 9) := ⟨_, rfl⟩
               have hbb : Below u1.heap.size u1 u2 := by rw [hu]; exact (Below.refl _ _).alloc (Nat.le_refl _) _
               obtain ⟨ga, hg⟩ : ∃ z, z = u1.heap.size := ⟨_, rfl⟩
               have HO : Hid (OwnRow nameK u2 wi.heap.size (.slice (some ⟨ga, 0, none⟩) 0 0) []) := by show OwnRow _ _ _ _ _; rw [hu, hg]; exact ownRow_lit nameK_ok u1 _ [] HU.out.size (by simp) _ rfl 0 rfl
               have HNE : Hid (∀ q, (Value.slice (some ⟨ga, 0, none⟩) 0 0).ownBlock = some q → q ≠ gx) := fun q hq => by have h1 := HGX.out; have h2 : ga = q := Option.some.inj hq; omega
               replace HX := Lib.hid (HX.out.keep hbb)
               replace HGX : Hid (gx < u2.heap.size) := Nat.lt_of_lt_of_le HGX.out hbb.size
               replace HU := Lib.hid (HU.out.trans (hbb.mono HU.out.size))
               rw [← hu, ← hg]
               clear hu hg hbb
               have hHeld : (fun (_ : World) => True) u2 := trivial
               refine zcl hC hHeld ?_
               clear hC C
               refine zr 4 (fun C hC => ?_)
               refine held_row (by rfl) nameK_ok (.tmp 74) (.tmp 77) rfl wi.heap.size [] (all.take (0)) _ rfl HO.out HU.out.size la (0) lc rfl (HUT.out.keep HU.out) (by rw [List.length_nil]; omega) ?_
               rintro v3 u3 hap
               replace HX := Lib.hid (HX.out.grown hap.2.1 (fun a ha e => by cases ha; exact HNE.out _ e.symm rfl))
               replace HNE : Hid (∀ q, (v3 : Value).ownBlock = some q → q ≠ gx) := fun q hq => by
                rcases hap.2.2.2 q hq with h | h
                · exact HNE.out q h
                · have := HGX.out; omega
               replace HGX : Hid (gx < u3.heap.size) := Nat.lt_of_lt_of_le HGX.out hap.2.1.size
               replace HU := Lib.hid (HU.out.grown hap.2.1 HU.out.size (fun q hq => (HO.out.lt q hq).1))
               replace HO := Lib.hid hap.1
               clear hap
               have hHeld : (fun (_ : World) => True) u3 := trivial
               refine zcl hC hHeld ?_
               clear hC C
               refine zr 7 (fun C hC => ?_)
               refine held_row (by rfl) nameK_ok (.tmp 78) (.tmp 80) rfl wi.heap.size (all.take (0)) [s] _ rfl HO.out HU.out.size (some ⟨gx, 0, none⟩) 1 1 rfl HX.out (by rw [List.length_take]; omega) ?_
               rintro v4 u4 hap
               replace HX := Lib.hid (HX.out.grown hap.2.1 (fun a ha e => by cases ha; exact HNE.out _ e.symm rfl))
               replace HNE : Hid (∀ q, (v4 : Value).ownBlock = some q → q ≠ gx) := fun q hq => by
                rcases hap.2.2.2 q hq with h | h
                · exact HNE.out q h
                · have := HGX.out; omega
               replace HGX : Hid (gx < u4.heap.size) := Nat.lt_of_lt_of_le HGX.out hap.2.1.size
               replace HU := Lib.hid (HU.out.grown hap.2.1 HU.out.size (fun q hq => (HO.out.lt q hq).1))
               replace HO := Lib.hid hap.1
               clear hap
               have hHeld : (fun (_ : World) => True) u4 := trivial
               refine zcl hC hHeld ?_
               clear hC C
               refine zr 11 (fun C hC => ?_)
               refine held_row (by rfl) nameK_ok (.tmp 81) (.tmp 84) rfl wi.heap.size (all.take (0) ++ [s]) (all.drop (0)) _ rfl HO.out HU.out.size fa (ln - (0)) fc rfl (HFR.out.keep HU.out) (by rw [List.length_append, List.length_take, List.length_singleton]; omega) ?_
               rintro v5 u5 hap
               have hal := HRq.out.length
               obtain ⟨za, zc, hz, hzr, _⟩ := OwnRow.row nameK_ok hap.1 (n := ln + 1) (by rw [List.length_append, List.length_append, List.length_take, List.length_drop, List.length_singleton]; omega)
               subst hz
               rw [List.append_assoc] at hzr
               have HZR := Lib.hid hzr
               replace HU := Lib.hid (HU.out.grown hap.2.1 HU.out.size (fun q hq => (HO.out.lt q hq).1))
               clear hap hzr hal
               have hHeld : (fun (_ : World) => True) u5 := trivial
               refine zcl hC hHeld ?_
               clear hC C
               refine zt 12 ?_
               refine wpAnyZ_done (by kernel_rfl) ?_ _
               refine NoPanic.normal ?_
               clear hHeld
               have HBZ := Lib.hid (HB2.out.trans ((HBq.out.trans (HU.out.mono HBq.out.size)).mono HB2.out.size))
               go_wp2
               go_roundw
               case rel => exact ⟨j + 1, b, _, za, ln + 1, zc, rfl, by omega, rfl, rfl, by first | rfl | rw [HAT.out], rfl, HZR.out, HPUT.out, HMEM.out, HBK.out, by omega, HBZ.out⟩
               case measure => simp [intOf]; omega
           · obtain ⟨i1, rfl⟩ : ∃ q, i = q + 1 := ⟨i - 1, by omega⟩
             obtain ⟨bx, ox, x, rfl, hbx, hx, hcx⟩ := hRi.get (i := i1) (by omega)
             have cx : wi.cell? ⟨bx, ox + i1, none⟩ = some (.string x) := by
              have h1 := hcx 0 _ rfl
              rwa [show ox + (i1 * nameK.size + 0) = ox + i1 by show ox + (i1 * 1 + 0) = _; omega] at h1
             obtain ⟨hxn, ax, hax, hkx⟩ := HIN.out x (List.mem_of_getElem? hx)
             have HXX := Lib.hid hx
             have HAX := Lib.hid hax
             have HKX := Lib.hid hkx
             have CL := Lib.hid (HN.out.less wi s x n ax HSM.out hxn HPS.out hax)
             have hi4 : IntKind.i64.wrap (i1 : Int) = (i1 : Int) := IntWalk.i64_in _ (by omega)
             have hi5 : (0 : Int) ≤ (i1 : Int) := by omega
             have hi6 : (i1 : Int) < (ln : Int) := by omega
             have hi7 : decide ((0 : Int) < (i1 : Int) + 1) = true := decide_eq_true (by omega)
             have HBX : Hid (bx < wi.heap.size) := hbx
             clear hRi hbx hx hcx hax hkx
             go_wp2_with fail
             refine CL.out.mono ?_
             rintro e w3 ⟨rfl, hb3⟩
             have HBI3 := Lib.hid (HBI.out.trans (hb3.mono HBI.out.size))
             have HRx := Lib.hid (HR2.out.keep HBI3.out)
             by_cases hna : n < ax
             · have hdn : decide (n < ax) = true := decide_eq_true hna
               clear hb3 HBI
               go_wp2
               go_roundw
               case rel => exact ⟨i1, by go_num, by omega, fun q y hq hy => (by rcases Nat.lt_or_ge i1 q with h | h; exact HGE.out q y h hy; (rw [show q = i1 by omega, HXX.out] at hy; cases hy; rw [HKX.out]; exact hna)), HBI3.out⟩
               case measure => simp [intOf]; try omega
             · have hdn : decide (n < ax) = false := decide_eq_false hna
               have cx3 := (hb3.cell (p := ⟨bx, ox + i1, none⟩) HBX.out).trans cx
               clear hb3 cx HBI
               by_cases hxs : x = s
               · have hxe : (x.toList == s.toList) = true := by rw [hxs]; exact beq_self_eq_true _
                 have HMEM : Hid (∀ y, y ∈ all ↔ y ∈ snapsP P (ns.take (j + 1))) := fun y => by
                  rw [HS.out, List.mem_append, List.mem_singleton, ← HM.out y]
                  exact ⟨fun h => .inl h, fun h => by rcases h with h | h; exact h; (rw [h, ← hxs]; exact List.mem_of_getElem? HXX.out)⟩
                 have HBZ := Lib.hid (HB2.out.trans (HBI3.out.mono HB2.out.size))
                 go_wp2
                 go_roundw
                 case rel => exact ⟨j + 1, b, all, _, ln, lc, rfl, by omega, rfl, rfl, by first | rfl | rw [HAT.out], rfl, HRx.out, HA.out, HMEM.out, HBK.out, by omega, HBZ.out⟩
                 case measure => simp [intOf]; omega
               · have hxe : (x.toList == s.toList) = false := name_differ hxs
                 have hile : i1 + 1 ≤ ln := hi
                 have HRq := HRx
                 have HBq := HBI3
                 have HPUT : Hid (AscK (keyP P) (all.take (i1 + 1) ++ s :: all.drop (i1 + 1))) := HA.out.put (by have := HRx.out.length; omega) (fun q y hq hy => by rw [HKEY.out]; exact HGE.out q y hq hy) (.inr ⟨x, HXX.out, by
                  rw [HKX.out, HKEY.out]
                  rcases Int.lt_or_le ax n with h | h
                  · exact h
                  · have e : ax = n := by omega
                    exact absurd (HN.out.inj x (HIN.out x (List.mem_of_getElem? HXX.out)).1 s HSM.out n (by rw [HAX.out, e]) HPS.out) hxs⟩)
                 have HMEM : Hid (∀ y, y ∈ all.take (i1 + 1) ++ s :: all.drop (i1 + 1) ↔ y ∈ snapsP P (ns.take (j + 1))) := fun y => by
                  rw [put_mem, HS.out, List.mem_append, List.mem_singleton, ← HM.out y]
                  exact or_comm
                 have HUT := Lib.hid (HRq.out.take (i1 + 1) hile)
                 obtain ⟨fa, fc, hsf0, hfr, _⟩ := row_from nameK_ok HRq.out (i1 + 1) hile
                 have HFR := Lib.hid hfr
                 have hsu : ∀ V, (Instr.slice 39 (.slice (some ⟨bx, ox, none⟩) ln lc) none (some (.int .i64 ((i1 : Int) + 1))) none).run Tryz.prog V = .ok (.slice (some ⟨bx, ox, none⟩) (i1 + 1) lc) V := row_upto nameK_ok _ ln lc (i1 + 1) (Nat.le_trans hile HRq.out.fits)
                 have hsf : ∀ V, (Instr.slice 39 (.slice (some ⟨bx, ox, none⟩) ln lc) (some (.int .i64 ((i1 : Int) + 1))) none none).run Tryz.prog V = .ok (.slice fa (ln - (i1 + 1)) fc) V := hsf0
                 clear hfr hsf0
                 have hdrw : Below w3.heap.size w3 w3.drew := (Below.refl _ w3).drew
                 go_upto_region 15 with fail
                 refine wp_region_noPanic ?_
                 refine wp_region_z [] (fun (_ : World) => True) (by kernel_rfl) ?_
                 have hHeld : (fun (_ : World) => True) w3.drew := trivial
                 obtain ⟨u0, hu⟩ : ∃ u, u = w3.drew := ⟨_, rfl⟩
                 rw [← hu] at hHeld hdrw
                 rw [← hu]
                 clear hu
                 have HU := Lib.hid hdrw
                 clear hdrw
                 refine zt 1 ?_
                 refine zt 2 ?_
                 refine zt 3 ?_
                 refine zt 5 ?_
                 refine zt 8 ?_
                 refine zt 9 ?_
                 refine zt 10 ?_
                 refine wpAnyZ_ready (rs := [0, 6]) (by kernel_rfl) (by simp) ?_
                 refine AllReadyZ.cons (o := ⟨_, _, _, _, _, _⟩) rfl (fun C hC => ?_) (AllReadyZ.cons (o := ⟨_, _, _, _, _, _⟩) rfl (fun C hC => ?_) AllReadyZ.nil)
                 · skip
                   go_simp
                   obtain ⟨u1, hu⟩ : ∃ z, z = u0.alloc (.cells #[] 9) := ⟨_, rfl⟩
                   have hbb : Below u0.heap.size u0 u1 := by rw [hu]; exact (Below.refl _ _).alloc (Nat.le_refl _) _
                   obtain ⟨ga, hg⟩ : ∃ z, z = u0.heap.size := ⟨_, rfl⟩
                   have HO : Hid (OwnRow nameK u1 w3.heap.size (.slice (some ⟨ga, 0, none⟩) 0 0) []) := by show OwnRow _ _ _ _ _; rw [hu, hg]; exact ownRow_lit nameK_ok u0 _ [] HU.out.size (by simp) _ rfl 0 rfl
                   replace HU := Lib.hid (HU.out.trans (hbb.mono HU.out.size))
                   rw [← hu, ← hg]
                   clear hu hg hbb
                   have hHeld : (fun (_ : World) => True) u1 := trivial
                   refine zcl hC hHeld ?_
                   clear hC C
                   refine wpAnyZ_ready (rs := [4, 6]) (by kernel_rfl) (by simp) ?_
                   refine AllReadyZ.cons (o := ⟨_, _, _, _, _, _⟩) rfl (fun C hC => ?_) (AllReadyZ.cons (o := ⟨_, _, _, _, _, _⟩) rfl (fun C hC => ?_) AllReadyZ.nil)
                   · skip
                     refine held_row (by rfl) nameK_ok (.tmp 74) (.tmp 77) rfl w3.heap.size [] (all.take (i1 + 1)) _ rfl HO.out HU.out.size (some ⟨bx, ox, none⟩) (i1 + 1) lc rfl (HUT.out.keep HU.out) (by rw [List.length_nil]; omega) ?_
                     rintro v2 u2 hap
                     replace HU := Lib.hid (HU.out.grown hap.2.1 HU.out.size (fun q hq => (HO.out.lt q hq).1))
                     replace HO := Lib.hid hap.1
                     clear hap
                     have hHeld : (fun (_ : World) => True) u2 := trivial
                     refine zcl hC hHeld ?_
                     clear hC C
                     refine zr 6 (fun C hC => ?_)
                     go_simp
                     obtain ⟨u3, hu⟩ : ∃ z, z = u2.alloc (.cells #[.string s] 9) := ⟨_, rfl⟩
                     have hbb : Below u2.heap.size u2 u3 := by rw [hu]; exact (Below.refl _ _).alloc (Nat.le_refl _) _
                     obtain ⟨gx, hg⟩ : ∃ z, z = u2.heap.size := ⟨_, rfl⟩
                     have HX : Hid (RowAt nameK u3 (some ⟨gx, 0, none⟩) 1 1 [s]) := by show RowAt _ _ _ _ _ _; rw [hu, hg]; exact rowAt_lit nameK_ok u2 [s] (by simp) _ rfl 1 rfl
                     have HGX : Hid (gx < u3.heap.size) := by show _ < _; rw [hu, hg]; simp
                     have HNE : Hid (∀ q, (v2 : Value).ownBlock = some q → q ≠ gx) := fun q hq => by have := (HO.out.lt q hq).2; omega
                     replace HO := Lib.hid (HO.out.on hbb)
                     replace HU := Lib.hid (HU.out.trans (hbb.mono HU.out.size))
                     rw [← hu, ← hg]
                     clear hu hg hbb
                     have hHeld : (fun (_ : World) => True) u3 := trivial
                     refine zcl hC hHeld ?_
                     clear hC C
                     refine zr 7 (fun C hC => ?_)
                     refine held_row (by rfl) nameK_ok (.tmp 78) (.tmp 80) rfl w3.heap.size (all.take (i1 + 1)) [s] _ rfl HO.out HU.out.size (some ⟨gx, 0, none⟩) 1 1 rfl HX.out (by rw [List.length_take]; omega) ?_
                     rintro v4 u4 hap
                     replace HX := Lib.hid (HX.out.grown hap.2.1 (fun a ha e => by cases ha; exact HNE.out _ e.symm rfl))
                     replace HNE : Hid (∀ q, (v4 : Value).ownBlock = some q → q ≠ gx) := fun q hq => by
                      rcases hap.2.2.2 q hq with h | h
                      · exact HNE.out q h
                      · have := HGX.out; omega
                     replace HGX : Hid (gx < u4.heap.size) := Nat.lt_of_lt_of_le HGX.out hap.2.1.size
                     replace HU := Lib.hid (HU.out.grown hap.2.1 HU.out.size (fun q hq => (HO.out.lt q hq).1))
                     replace HO := Lib.hid hap.1
                     clear hap
                     have hHeld : (fun (_ : World) => True) u4 := trivial
                     refine zcl hC hHeld ?_
                     clear hC C
                     refine zr 11 (fun C hC => ?_)
                     refine held_row (by rfl) nameK_ok (.tmp 81) (.tmp 84) rfl w3.heap.size (all.take (i1 + 1) ++ [s]) (all.drop (i1 + 1)) _ rfl HO.out HU.out.size fa (ln - (i1 + 1)) fc rfl (HFR.out.keep HU.out) (by rw [List.length_append, List.length_take, List.length_singleton]; omega) ?_
                     rintro v5 u5 hap
                     have hal := HRq.out.length
                     obtain ⟨za, zc, hz, hzr, _⟩ := OwnRow.row nameK_ok hap.1 (n := ln + 1) (by rw [List.length_append, List.length_append, List.length_take, List.length_drop, List.length_singleton]; omega)
                     subst hz
                     rw [List.append_assoc] at hzr
                     have HZR := Lib.hid hzr
                     replace HU := Lib.hid (HU.out.grown hap.2.1 HU.out.size (fun q hq => (HO.out.lt q hq).1))
                     clear hap hzr hal
                     have hHeld : (fun (_ : World) => True) u5 := trivial
                     refine zcl hC hHeld ?_
                     clear hC C
                     refine zt 12 ?_
                     refine wpAnyZ_done (by kernel_rfl) ?_ _
                     refine NoPanic.normal ?_
                     clear hHeld
                     have HBZ := Lib.hid (HB2.out.trans ((HBq.out.trans (HU.out.mono HBq.out.size)).mono HB2.out.size))
                     go_wp2
                     go_roundw
                     case rel => exact ⟨j + 1, b, _, za, ln + 1, zc, rfl, by omega, rfl, rfl, by first | rfl | rw [HAT.out], rfl, HZR.out, HPUT.out, HMEM.out, HBK.out, by omega, HBZ.out⟩
                     case measure => simp [intOf]; omega
                   · skip
                     go_simp
                     obtain ⟨u2, hu⟩ : ∃ z, z = u1.alloc (.cells #[.string s] 9) := ⟨_, rfl⟩
                     have hbb : Below u1.heap.size u1 u2 := by rw [hu]; exact (Below.refl _ _).alloc (Nat.le_refl _) _
                     obtain ⟨gx, hg⟩ : ∃ z, z = u1.heap.size := ⟨_, rfl⟩
                     have HX : Hid (RowAt nameK u2 (some ⟨gx, 0, none⟩) 1 1 [s]) := by show RowAt _ _ _ _ _ _; rw [hu, hg]; exact rowAt_lit nameK_ok u1 [s] (by simp) _ rfl 1 rfl
                     have HGX : Hid (gx < u2.heap.size) := by show _ < _; rw [hu, hg]; simp
                     have HNE : Hid (∀ q, (Value.slice (some ⟨ga, 0, none⟩) 0 0 : Value).ownBlock = some q → q ≠ gx) := fun q hq => by have := (HO.out.lt q hq).2; omega
                     replace HO := Lib.hid (HO.out.on hbb)
                     replace HU := Lib.hid (HU.out.trans (hbb.mono HU.out.size))
                     rw [← hu, ← hg]
                     clear hu hg hbb
                     have hHeld : (fun (_ : World) => True) u2 := trivial
                     refine zcl hC hHeld ?_
                     clear hC C
                     refine zr 4 (fun C hC => ?_)
                     refine held_row (by rfl) nameK_ok (.tmp 74) (.tmp 77) rfl w3.heap.size [] (all.take (i1 + 1)) _ rfl HO.out HU.out.size (some ⟨bx, ox, none⟩) (i1 + 1) lc rfl (HUT.out.keep HU.out) (by rw [List.length_nil]; omega) ?_
                     rintro v3 u3 hap
                     replace HX := Lib.hid (HX.out.grown hap.2.1 (fun a ha e => by cases ha; exact HNE.out _ e.symm rfl))
                     replace HNE : Hid (∀ q, (v3 : Value).ownBlock = some q → q ≠ gx) := fun q hq => by
                      rcases hap.2.2.2 q hq with h | h
                      · exact HNE.out q h
                      · have := HGX.out; omega
                     replace HGX : Hid (gx < u3.heap.size) := Nat.lt_of_lt_of_le HGX.out hap.2.1.size
                     replace HU := Lib.hid (HU.out.grown hap.2.1 HU.out.size (fun q hq => (HO.out.lt q hq).1))
                     replace HO := Lib.hid hap.1
                     clear hap
                     have hHeld : (fun (_ : World) => True) u3 := trivial
                     refine zcl hC hHeld ?_
                     clear hC C
                     refine zr 7 (fun C hC => ?_)
                     refine held_row (by rfl) nameK_ok (.tmp 78) (.tmp 80) rfl w3.heap.size (all.take (i1 + 1)) [s] _ rfl HO.out HU.out.size (some ⟨gx, 0, none⟩) 1 1 rfl HX.out (by rw [List.length_take]; omega) ?_
                     rintro v4 u4 hap
                     replace HX := Lib.hid (HX.out.grown hap.2.1 (fun a ha e => by cases ha; exact HNE.out _ e.symm rfl))
                     replace HNE : Hid (∀ q, (v4 : Value).ownBlock = some q → q ≠ gx) := fun q hq => by
                      rcases hap.2.2.2 q hq with h | h
                      · exact HNE.out q h
                      · have := HGX.out; omega
                     replace HGX : Hid (gx < u4.heap.size) := Nat.lt_of_lt_of_le HGX.out hap.2.1.size
                     replace HU := Lib.hid (HU.out.grown hap.2.1 HU.out.size (fun q hq => (HO.out.lt q hq).1))
                     replace HO := Lib.hid hap.1
                     clear hap
                     have hHeld : (fun (_ : World) => True) u4 := trivial
                     refine zcl hC hHeld ?_
                     clear hC C
                     refine zr 11 (fun C hC => ?_)
                     refine held_row (by rfl) nameK_ok (.tmp 81) (.tmp 84) rfl w3.heap.size (all.take (i1 + 1) ++ [s]) (all.drop (i1 + 1)) _ rfl HO.out HU.out.size fa (ln - (i1 + 1)) fc rfl (HFR.out.keep HU.out) (by rw [List.length_append, List.length_take, List.length_singleton]; omega) ?_
                     rintro v5 u5 hap
                     have hal := HRq.out.length
                     obtain ⟨za, zc, hz, hzr, _⟩ := OwnRow.row nameK_ok hap.1 (n := ln + 1) (by rw [List.length_append, List.length_append, List.length_take, List.length_drop, List.length_singleton]; omega)
                     subst hz
                     rw [List.append_assoc] at hzr
                     have HZR := Lib.hid hzr
                     replace HU := Lib.hid (HU.out.grown hap.2.1 HU.out.size (fun q hq => (HO.out.lt q hq).1))
                     clear hap hzr hal
                     have hHeld : (fun (_ : World) => True) u5 := trivial
                     refine zcl hC hHeld ?_
                     clear hC C
                     refine zt 12 ?_
                     refine wpAnyZ_done (by kernel_rfl) ?_ _
                     refine NoPanic.normal ?_
                     clear hHeld
                     have HBZ := Lib.hid (HB2.out.trans ((HBq.out.trans (HU.out.mono HBq.out.size)).mono HB2.out.size))
                     go_wp2
                     go_roundw
                     case rel => exact ⟨j + 1, b, _, za, ln + 1, zc, rfl, by omega, rfl, rfl, by first | rfl | rw [HAT.out], rfl, HZR.out, HPUT.out, HMEM.out, HBK.out, by omega, HBZ.out⟩
                     case measure => simp [intOf]; omega
                 · skip
                   go_simp
                   obtain ⟨u1, hu⟩ : ∃ z, z = u0.alloc (.cells #[.string s] 9) := ⟨_, rfl⟩
                   have hbb : Below u0.heap.size u0 u1 := by rw [hu]; exact (Below.refl _ _).alloc (Nat.le_refl _) _
                   obtain ⟨gx, hg⟩ : ∃ z, z = u0.heap.size := ⟨_, rfl⟩
                   have HX : Hid (RowAt nameK u1 (some ⟨gx, 0, none⟩) 1 1 [s]) := by show RowAt _ _ _ _ _ _; rw [hu, hg]; exact rowAt_lit nameK_ok u0 [s] (by simp) _ rfl 1 rfl
                   have HGX : Hid (gx < u1.heap.size) := by show _ < _; rw [hu, hg]; simp
                   replace HU := Lib.hid (HU.out.trans (hbb.mono HU.out.size))
                   rw [← hu, ← hg]
                   clear hu hg hbb
                   have hHeld : (fun (_ : World) => True) u1 := trivial
                   refine zcl hC hHeld ?_
                   clear hC C
                   refine zr 0 (fun C hC => ?_)
                   go_simp
                   obtain ⟨u2, hu⟩ : ∃ z, z = u1.alloc (.cells #[] 9) := ⟨_, rfl⟩
                   have hbb : Below u1.heap.size u1 u2 := by rw [hu]; exact (Below.refl _ _).alloc (Nat.le_refl _) _
                   obtain ⟨ga, hg⟩ : ∃ z, z = u1.heap.size := ⟨_, rfl⟩
                   have HO : Hid (OwnRow nameK u2 w3.heap.size (.slice (some ⟨ga, 0, none⟩) 0 0) []) := by show OwnRow _ _ _ _ _; rw [hu, hg]; exact ownRow_lit nameK_ok u1 _ [] HU.out.size (by simp) _ rfl 0 rfl
                   have HNE : Hid (∀ q, (Value.slice (some ⟨ga, 0, none⟩) 0 0).ownBlock = some q → q ≠ gx) := fun q hq => by have h1 := HGX.out; have h2 : ga = q := Option.some.inj hq; omega
                   replace HX := Lib.hid (HX.out.keep hbb)
                   replace HGX : Hid (gx < u2.heap.size) := Nat.lt_of_lt_of_le HGX.out hbb.size
                   replace HU := Lib.hid (HU.out.trans (hbb.mono HU.out.size))
                   rw [← hu, ← hg]
                   clear hu hg hbb
                   have hHeld : (fun (_ : World) => True) u2 := trivial
                   refine zcl hC hHeld ?_
                   clear hC C
                   refine zr 4 (fun C hC => ?_)
                   refine held_row (by rfl) nameK_ok (.tmp 74) (.tmp 77) rfl w3.heap.size [] (all.take (i1 + 1)) _ rfl HO.out HU.out.size (some ⟨bx, ox, none⟩) (i1 + 1) lc rfl (HUT.out.keep HU.out) (by rw [List.length_nil]; omega) ?_
                   rintro v3 u3 hap
                   replace HX := Lib.hid (HX.out.grown hap.2.1 (fun a ha e => by cases ha; exact HNE.out _ e.symm rfl))
                   replace HNE : Hid (∀ q, (v3 : Value).ownBlock = some q → q ≠ gx) := fun q hq => by
                    rcases hap.2.2.2 q hq with h | h
                    · exact HNE.out q h
                    · have := HGX.out; omega
                   replace HGX : Hid (gx < u3.heap.size) := Nat.lt_of_lt_of_le HGX.out hap.2.1.size
                   replace HU := Lib.hid (HU.out.grown hap.2.1 HU.out.size (fun q hq => (HO.out.lt q hq).1))
                   replace HO := Lib.hid hap.1
                   clear hap
                   have hHeld : (fun (_ : World) => True) u3 := trivial
                   refine zcl hC hHeld ?_
                   clear hC C
                   refine zr 7 (fun C hC => ?_)
                   refine held_row (by rfl) nameK_ok (.tmp 78) (.tmp 80) rfl w3.heap.size (all.take (i1 + 1)) [s] _ rfl HO.out HU.out.size (some ⟨gx, 0, none⟩) 1 1 rfl HX.out (by rw [List.length_take]; omega) ?_
                   rintro v4 u4 hap
                   replace HX := Lib.hid (HX.out.grown hap.2.1 (fun a ha e => by cases ha; exact HNE.out _ e.symm rfl))
                   replace HNE : Hid (∀ q, (v4 : Value).ownBlock = some q → q ≠ gx) := fun q hq => by
                    rcases hap.2.2.2 q hq with h | h
                    · exact HNE.out q h
                    · have := HGX.out; omega
                   replace HGX : Hid (gx < u4.heap.size) := Nat.lt_of_lt_of_le HGX.out hap.2.1.size
                   replace HU := Lib.hid (HU.out.grown hap.2.1 HU.out.size (fun q hq => (HO.out.lt q hq).1))
                   replace HO := Lib.hid hap.1
                   clear hap
                   have hHeld : (fun (_ : World) => True) u4 := trivial
                   refine zcl hC hHeld ?_
                   clear hC C
                   refine zr 11 (fun C hC => ?_)
                   refine held_row (by rfl) nameK_ok (.tmp 81) (.tmp 84) rfl w3.heap.size (all.take (i1 + 1) ++ [s]) (all.drop (i1 + 1)) _ rfl HO.out HU.out.size fa (ln - (i1 + 1)) fc rfl (HFR.out.keep HU.out) (by rw [List.length_append, List.length_take, List.length_singleton]; omega) ?_
                   rintro v5 u5 hap
                   have hal := HRq.out.length
                   obtain ⟨za, zc, hz, hzr, _⟩ := OwnRow.row nameK_ok hap.1 (n := ln + 1) (by rw [List.length_append, List.length_append, List.length_take, List.length_drop, List.length_singleton]; omega)
                   subst hz
                   rw [List.append_assoc] at hzr
                   have HZR := Lib.hid hzr
                   replace HU := Lib.hid (HU.out.grown hap.2.1 HU.out.size (fun q hq => (HO.out.lt q hq).1))
                   clear hap hzr hal
                   have hHeld : (fun (_ : World) => True) u5 := trivial
                   refine zcl hC hHeld ?_
                   clear hC C
                   refine zt 12 ?_
                   refine wpAnyZ_done (by kernel_rfl) ?_ _
                   refine NoPanic.normal ?_
                   clear hHeld
                   have HBZ := Lib.hid (HB2.out.trans ((HBq.out.trans (HU.out.mono HBq.out.size)).mono HB2.out.size))
                   go_wp2
                   go_roundw
                   case rel => exact ⟨j + 1, b, _, za, ln + 1, zc, rfl, by omega, rfl, rfl, by first | rfl | rw [HAT.out], rfl, HZR.out, HPUT.out, HMEM.out, HBK.out, by omega, HBZ.out⟩
                   case measure => simp [intOf]; omega
      · have hd1 : decide (n ≤ end0) = false := decide_eq_false he1
        rw [if_neg (fun h => he1 h.1)] at hbk
        have HBK := Lib.hid hbk
        clear hbk hbb
        go_wp2
        go_loopw [16] (fun v16 wr => ∃ i : Nat, v16 = .int .i64 (i : Int) ∧ i ≤ ln ∧ Hid (∀ q x, i ≤ q → all[q]? = some x → n < keyP P x) ∧ Hid (Below w2.heap.size w2 wr)) (fun v16 _ => (intOf v16).toNat)
        case atStart => exact ⟨ln, rfl, Nat.le_refl _, fun q x hq hx => (by have h1 := (List.getElem?_eq_some_iff.1 hx).1; have h2 := HR2.out.length; omega), Below.refl _ _⟩
        case round =>
         obtain ⟨i, rfl, hi, HGE, HBI⟩ := hrel
         obtain ⟨wi, hwi⟩ : ∃ wi : World, wi = wr := ⟨_, rfl⟩
         subst hwi
         have hRi := HR2.out.keep HBI.out
         rcases Nat.eq_zero_or_pos i with h0 | h0
         · subst h0
           have hile : 0 ≤ ln := Nat.zero_le _
           have HRq : Hid (RowAt nameK wi la ln lc all) := HR2.out.keep HBI.out
           have HBq := HBI
           have HPUT : Hid (AscK (keyP P) (all.take 0 ++ s :: all.drop 0)) := HA.out.put (Nat.zero_le _) (fun q y hq hy => by rw [HKEY.out]; exact HGE.out q y hq hy) (.inl rfl)
           have HMEM : Hid (∀ y, y ∈ all.take 0 ++ s :: all.drop 0 ↔ y ∈ snapsP P (ns.take (j + 1))) := fun y => by
            rw [put_mem, HS.out, List.mem_append, List.mem_singleton, ← HM.out y]
            exact or_comm
           clear hRi
           have HUT := Lib.hid (HRq.out.take (0) hile)
           obtain ⟨fa, fc, hsf0, hfr, _⟩ := row_from nameK_ok HRq.out (0) hile
           have HFR := Lib.hid hfr
           have hsu : ∀ V, (Instr.slice 39 (.slice la ln lc) none (some (.int .i64 (0))) none).run Tryz.prog V = .ok (.slice la (0) lc) V := row_upto nameK_ok _ ln lc (0) (Nat.le_trans hile HRq.out.fits)
           have hsf : ∀ V, (Instr.slice 39 (.slice la ln lc) (some (.int .i64 (0))) none none).run Tryz.prog V = .ok (.slice fa (ln - (0)) fc) V := hsf0
           clear hfr hsf0
           have hdrw : Below wi.heap.size wi wi.drew := (Below.refl _ wi).drew
           go_upto_region 15 with fail
           refine wp_region_noPanic ?_
           refine wp_region_z [] (fun (_ : World) => True) (by kernel_rfl) ?_
           have hHeld : (fun (_ : World) => True) wi.drew := trivial
           obtain ⟨u0, hu⟩ : ∃ u, u = wi.drew := ⟨_, rfl⟩
           rw [← hu] at hHeld hdrw
           rw [← hu]
           clear hu
           have HU := Lib.hid hdrw
           clear hdrw
           refine zt 1 ?_
           refine zt 2 ?_
           refine zt 3 ?_
           refine zt 5 ?_
           refine zt 8 ?_
           refine zt 9 ?_
           refine zt 10 ?_
           refine wpAnyZ_ready (rs := [0, 6]) (by kernel_rfl) (by simp) ?_
           refine AllReadyZ.cons (o := ⟨_, _, _, _, _, _⟩) rfl (fun C hC => ?_) (AllReadyZ.cons (o := ⟨_, _, _, _, _, _⟩) rfl (fun C hC => ?_) AllReadyZ.nil)
           · skip
             go_simp
             obtain ⟨u1, hu⟩ : ∃ z, z = u0.alloc (.cells #[] 9) := ⟨_, rfl⟩
             have hbb : Below u0.heap.size u0 u1 := by rw [hu]; exact (Below.refl _ _).alloc (Nat.le_refl _) _
             obtain ⟨ga, hg⟩ : ∃ z, z = u0.heap.size := ⟨_, rfl⟩
             have HO : Hid (OwnRow nameK u1 wi.heap.size (.slice (some ⟨ga, 0, none⟩) 0 0) []) := by show OwnRow _ _ _ _ _; rw [hu, hg]; exact ownRow_lit nameK_ok u0 _ [] HU.out.size (by simp) _ rfl 0 rfl
             replace HU := Lib.hid (HU.out.trans (hbb.mono HU.out.size))
             rw [← hu, ← hg]
             clear hu hg hbb
             have hHeld : (fun (_ : World) => True) u1 := trivial
             refine zcl hC hHeld ?_
             clear hC C
             refine wpAnyZ_ready (rs := [4, 6]) (by kernel_rfl) (by simp) ?_
             refine AllReadyZ.cons (o := ⟨_, _, _, _, _, _⟩) rfl (fun C hC => ?_) (AllReadyZ.cons (o := ⟨_, _, _, _, _, _⟩) rfl (fun C hC => ?_) AllReadyZ.nil)
             · skip
               refine held_row (by rfl) nameK_ok (.tmp 74) (.tmp 77) rfl wi.heap.size [] (all.take (0)) _ rfl HO.out HU.out.size la (0) lc rfl (HUT.out.keep HU.out) (by rw [List.length_nil]; omega) ?_
               rintro v2 u2 hap
               replace HU := Lib.hid (HU.out.grown hap.2.1 HU.out.size (fun q hq => (HO.out.lt q hq).1))
               replace HO := Lib.hid hap.1
               clear hap
               have hHeld : (fun (_ : World) => True) u2 := trivial
               refine zcl hC hHeld ?_
               clear hC C
               refine zr 6 (fun C hC => ?_)
               go_simp
               obtain ⟨u3, hu⟩ : ∃ z, z = u2.alloc (.cells #[.string s] 9) := ⟨_, rfl⟩
               have hbb : Below u2.heap.size u2 u3 := by rw [hu]; exact (Below.refl _ _).alloc (Nat.le_refl _) _
               obtain ⟨gx, hg⟩ : ∃ z, z = u2.heap.size := ⟨_, rfl⟩
               have HX : Hid (RowAt nameK u3 (some ⟨gx, 0, none⟩) 1 1 [s]) := by show RowAt _ _ _ _ _ _; rw [hu, hg]; exact rowAt_lit nameK_ok u2 [s] (by simp) _ rfl 1 rfl
               have HGX : Hid (gx < u3.heap.size) := by show _ < _; rw [hu, hg]; simp
               have HNE : Hid (∀ q, (v2 : Value).ownBlock = some q → q ≠ gx) := fun q hq => by have := (HO.out.lt q hq).2; omega
               replace HO := Lib.hid (HO.out.on hbb)
               replace HU := Lib.hid (HU.out.trans (hbb.mono HU.out.size))
               rw [← hu, ← hg]
               clear hu hg hbb
               have hHeld : (fun (_ : World) => True) u3 := trivial
               refine zcl hC hHeld ?_
               clear hC C
               refine zr 7 (fun C hC => ?_)
               refine held_row (by rfl) nameK_ok (.tmp 78) (.tmp 80) rfl wi.heap.size (all.take (0)) [s] _ rfl HO.out HU.out.size (some ⟨gx, 0, none⟩) 1 1 rfl HX.out (by rw [List.length_take]; omega) ?_
               rintro v4 u4 hap
               replace HX := Lib.hid (HX.out.grown hap.2.1 (fun a ha e => by cases ha; exact HNE.out _ e.symm rfl))
               replace HNE : Hid (∀ q, (v4 : Value).ownBlock = some q → q ≠ gx) := fun q hq => by
                rcases hap.2.2.2 q hq with h | h
                · exact HNE.out q h
                · have := HGX.out; omega
               replace HGX : Hid (gx < u4.heap.size) := Nat.lt_of_lt_of_le HGX.out hap.2.1.size
               replace HU := Lib.hid (HU.out.grown hap.2.1 HU.out.size (fun q hq => (HO.out.lt q hq).1))
               replace HO := Lib.hid hap.1
               clear hap
               have hHeld : (fun (_ : World) => True) u4 := trivial
               refine zcl hC hHeld ?_
               clear hC C
               refine zr 11 (fun C hC => ?_)
               refine held_row (by rfl) nameK_ok (.tmp 81) (.tmp 84) rfl wi.heap.size (all.take (0) ++ [s]) (all.drop (0)) _ rfl HO.out HU.out.size fa (ln - (0)) fc rfl (HFR.out.keep HU.out) (by rw [List.length_append, List.length_take, List.length_singleton]; omega) ?_
               rintro v5 u5 hap
               have hal := HRq.out.length
               obtain ⟨za, zc, hz, hzr, _⟩ := OwnRow.row nameK_ok hap.1 (n := ln + 1) (by rw [List.length_append, List.length_append, List.length_take, List.length_drop, List.length_singleton]; omega)
               subst hz
               rw [List.append_assoc] at hzr
               have HZR := Lib.hid hzr
               replace HU := Lib.hid (HU.out.grown hap.2.1 HU.out.size (fun q hq => (HO.out.lt q hq).1))
               clear hap hzr hal
               have hHeld : (fun (_ : World) => True) u5 := trivial
               refine zcl hC hHeld ?_
               clear hC C
               refine zt 12 ?_
               refine wpAnyZ_done (by kernel_rfl) ?_ _
               refine NoPanic.normal ?_
               clear hHeld
               have HBZ := Lib.hid (HB2.out.trans ((HBq.out.trans (HU.out.mono HBq.out.size)).mono HB2.out.size))
               go_wp2
               go_roundw
               case rel => exact ⟨j + 1, b, _, za, ln + 1, zc, rfl, by omega, rfl, rfl, by first | rfl | rw [HAT.out], rfl, HZR.out, HPUT.out, HMEM.out, HBK.out, by omega, HBZ.out⟩
               case measure => simp [intOf]; omega
             · skip
               go_simp
               obtain ⟨u2, hu⟩ : ∃ z, z = u1.alloc (.cells #[.string s] 9) := ⟨_, rfl⟩
               have hbb : Below u1.heap.size u1 u2 := by rw [hu]; exact (Below.refl _ _).alloc (Nat.le_refl _) _
               obtain ⟨gx, hg⟩ : ∃ z, z = u1.heap.size := ⟨_, rfl⟩
               have HX : Hid (RowAt nameK u2 (some ⟨gx, 0, none⟩) 1 1 [s]) := by show RowAt _ _ _ _ _ _; rw [hu, hg]; exact rowAt_lit nameK_ok u1 [s] (by simp) _ rfl 1 rfl
               have HGX : Hid (gx < u2.heap.size) := by show _ < _; rw [hu, hg]; simp
               have HNE : Hid (∀ q, (Value.slice (some ⟨ga, 0, none⟩) 0 0 : Value).ownBlock = some q → q ≠ gx) := fun q hq => by have := (HO.out.lt q hq).2; omega
               replace HO := Lib.hid (HO.out.on hbb)
               replace HU := Lib.hid (HU.out.trans (hbb.mono HU.out.size))
               rw [← hu, ← hg]
               clear hu hg hbb
               have hHeld : (fun (_ : World) => True) u2 := trivial
               refine zcl hC hHeld ?_
               clear hC C
               refine zr 4 (fun C hC => ?_)
               refine held_row (by rfl) nameK_ok (.tmp 74) (.tmp 77) rfl wi.heap.size [] (all.take (0)) _ rfl HO.out HU.out.size la (0) lc rfl (HUT.out.keep HU.out) (by rw [List.length_nil]; omega) ?_
               rintro v3 u3 hap
               replace HX := Lib.hid (HX.out.grown hap.2.1 (fun a ha e => by cases ha; exact HNE.out _ e.symm rfl))
               replace HNE : Hid (∀ q, (v3 : Value).ownBlock = some q → q ≠ gx) := fun q hq => by
                rcases hap.2.2.2 q hq with h | h
                · exact HNE.out q h
                · have := HGX.out; omega
               replace HGX : Hid (gx < u3.heap.size) := Nat.lt_of_lt_of_le HGX.out hap.2.1.size
               replace HU := Lib.hid (HU.out.grown hap.2.1 HU.out.size (fun q hq => (HO.out.lt q hq).1))
               replace HO := Lib.hid hap.1
               clear hap
               have hHeld : (fun (_ : World) => True) u3 := trivial
               refine zcl hC hHeld ?_
               clear hC C
               refine zr 7 (fun C hC => ?_)
               refine held_row (by rfl) nameK_ok (.tmp 78) (.tmp 80) rfl wi.heap.size (all.take (0)) [s] _ rfl HO.out HU.out.size (some ⟨gx, 0, none⟩) 1 1 rfl HX.out (by rw [List.length_take]; omega) ?_
               rintro v4 u4 hap
               replace HX := Lib.hid (HX.out.grown hap.2.1 (fun a ha e => by cases ha; exact HNE.out _ e.symm rfl))
               replace HNE : Hid (∀ q, (v4 : Value).ownBlock = some q → q ≠ gx) := fun q hq => by
                rcases hap.2.2.2 q hq with h | h
                · exact HNE.out q h
                · have := HGX.out; omega
               replace HGX : Hid (gx < u4.heap.size) := Nat.lt_of_lt_of_le HGX.out hap.2.1.size
               replace HU := Lib.hid (HU.out.grown hap.2.1 HU.out.size (fun q hq => (HO.out.lt q hq).1))
               replace HO := Lib.hid hap.1
               clear hap
               have hHeld : (fun (_ : World) => True) u4 := trivial
               refine zcl hC hHeld ?_
               clear hC C
               refine zr 11 (fun C hC => ?_)
               refine held_row (by rfl) nameK_ok (.tmp 81) (.tmp 84) rfl wi.heap.size (all.take (0) ++ [s]) (all.drop (0)) _ rfl HO.out HU.out.size fa (ln - (0)) fc rfl (HFR.out.keep HU.out) (by rw [List.length_append, List.length_take, List.length_singleton]; omega) ?_
               rintro v5 u5 hap
               have hal := HRq.out.length
               obtain ⟨za, zc, hz, hzr, _⟩ := OwnRow.row nameK_ok hap.1 (n := ln + 1) (by rw [List.length_append, List.length_append, List.length_take, List.length_drop, List.length_singleton]; omega)
               subst hz
               rw [List.append_assoc] at hzr
               have HZR := Lib.hid hzr
               replace HU := Lib.hid (HU.out.grown hap.2.1 HU.out.size (fun q hq => (HO.out.lt q hq).1))
               clear hap hzr hal
               have hHeld : (fun (_ : World) => True) u5 := trivial
               refine zcl hC hHeld ?_
               clear hC C
               refine zt 12 ?_
               refine wpAnyZ_done (by kernel_rfl) ?_ _
               refine NoPanic.normal ?_
               clear hHeld
               have HBZ := Lib.hid (HB2.out.trans ((HBq.out.trans (HU.out.mono HBq.out.size)).mono HB2.out.size))
               go_wp2
               go_roundw
               case rel => exact ⟨j + 1, b, _, za, ln + 1, zc, rfl, by omega, rfl, rfl, by first | rfl | rw [HAT.out], rfl, HZR.out, HPUT.out, HMEM.out, HBK.out, by omega, HBZ.out⟩
               case measure => simp [intOf]; omega
           · skip
             go_simp
             obtain ⟨u1, hu⟩ : ∃ z, z = u0.alloc (.cells #[.string s] 9) := ⟨_, rfl⟩
             have hbb : Below u0.heap.size u0 u1 := by rw [hu]; exact (Below.refl _ _).alloc (Nat.le_refl _) _
             obtain ⟨gx, hg⟩ : ∃ z, z = u0.heap.size := ⟨_, rfl⟩
             have HX : Hid (RowAt nameK u1 (some ⟨gx, 0, none⟩) 1 1 [s]) := by show RowAt _ _ _ _ _ _; rw [hu, hg]; exact rowAt_lit nameK_ok u0 [s] (by simp) _ rfl 1 rfl
             have HGX : Hid (gx < u1.heap.size) := by show _ < _; rw [hu, hg]; simp
             replace HU := Lib.hid (HU.out.trans (hbb.mono HU.out.size))
             rw [← hu, ← hg]
             clear hu hg hbb
             have hHeld : (fun (_ : World) => True) u1 := trivial
             refine zcl hC hHeld ?_
             clear hC C
             refine zr 0 (fun C hC => ?_)
             go_simp
             obtain ⟨u2, hu⟩ : ∃ z, z = u1.alloc (.cells #[] 9) := ⟨_, rfl⟩
             have hbb : Below u1.heap.size u1 u2 := by rw [hu]; exact (Below.refl _ _).alloc (Nat.le_refl _) _
             obtain ⟨ga, hg⟩ : ∃ z, z = u1.heap.size := ⟨_, rfl⟩
             have HO : Hid (OwnRow nameK u2 wi.heap.size (.slice (some ⟨ga, 0, none⟩) 0 0) []) := by show OwnRow _ _ _ _ _; rw [hu, hg]; exact ownRow_lit nameK_ok u1 _ [] HU.out.size (by simp) _ rfl 0 rfl
             have HNE : Hid (∀ q, (Value.slice (some ⟨ga, 0, none⟩) 0 0).ownBlock = some q → q ≠ gx) := fun q hq => by have h1 := HGX.out; have h2 : ga = q := Option.some.inj hq; omega
             replace HX := Lib.hid (HX.out.keep hbb)
             replace HGX : Hid (gx < u2.heap.size) := Nat.lt_of_lt_of_le HGX.out hbb.size
             replace HU := Lib.hid (HU.out.trans (hbb.mono HU.out.size))
             rw [← hu, ← hg]
             clear hu hg hbb
             have hHeld : (fun (_ : World) => True) u2 := trivial
             refine zcl hC hHeld ?_
             clear hC C
             refine zr 4 (fun C hC => ?_)
             refine held_row (by rfl) nameK_ok (.tmp 74) (.tmp 77) rfl wi.heap.size [] (all.take (0)) _ rfl HO.out HU.out.size la (0) lc rfl (HUT.out.keep HU.out) (by rw [List.length_nil]; omega) ?_
             rintro v3 u3 hap
             replace HX := Lib.hid (HX.out.grown hap.2.1 (fun a ha e => by cases ha; exact HNE.out _ e.symm rfl))
             replace HNE : Hid (∀ q, (v3 : Value).ownBlock = some q → q ≠ gx) := fun q hq => by
              rcases hap.2.2.2 q hq with h | h
              · exact HNE.out q h
              · have := HGX.out; omega
             replace HGX : Hid (gx < u3.heap.size) := Nat.lt_of_lt_of_le HGX.out hap.2.1.size
             replace HU := Lib.hid (HU.out.grown hap.2.1 HU.out.size (fun q hq => (HO.out.lt q hq).1))
             replace HO := Lib.hid hap.1
             clear hap
             have hHeld : (fun (_ : World) => True) u3 := trivial
             refine zcl hC hHeld ?_
             clear hC C
             refine zr 7 (fun C hC => ?_)
             refine held_row (by rfl) nameK_ok (.tmp 78) (.tmp 80) rfl wi.heap.size (all.take (0)) [s] _ rfl HO.out HU.out.size (some ⟨gx, 0, none⟩) 1 1 rfl HX.out (by rw [List.length_take]; omega) ?_
             rintro v4 u4 hap
             replace HX := Lib.hid (HX.out.grown hap.2.1 (fun a ha e => by cases ha; exact HNE.out _ e.symm rfl))
             replace HNE : Hid (∀ q, (v4 : Value).ownBlock = some q → q ≠ gx) := fun q hq => by
              rcases hap.2.2.2 q hq with h | h
              · exact HNE.out q h
              · have := HGX.out; omega
             replace HGX : Hid (gx < u4.heap.size) := Nat.lt_of_lt_of_le HGX.out hap.2.1.size
             replace HU := Lib.hid (HU.out.grown hap.2.1 HU.out.size (fun q hq => (HO.out.lt q hq).1))
             replace HO := Lib.hid hap.1
             clear hap
             have hHeld : (fun (_ : World) => True) u4 := trivial
             refine zcl hC hHeld ?_
             clear hC C
             refine zr 11 (fun C hC => ?_)
             refine held_row (by rfl) nameK_ok (.tmp 81) (.tmp 84) rfl wi.heap.size (all.take (0) ++ [s]) (all.drop (0)) _ rfl HO.out HU.out.size fa (ln - (0)) fc rfl (HFR.out.keep HU.out) (by rw [List.length_append, List.length_take, List.length_singleton]; omega) ?_
             rintro v5 u5 hap
             have hal := HRq.out.length
             obtain ⟨za, zc, hz, hzr, _⟩ := OwnRow.row nameK_ok hap.1 (n := ln + 1) (by rw [List.length_append, List.length_append, List.length_take, List.length_drop, List.length_singleton]; omega)
             subst hz
             rw [List.append_assoc] at hzr
             have HZR := Lib.hid hzr
             replace HU := Lib.hid (HU.out.grown hap.2.1 HU.out.size (fun q hq => (HO.out.lt q hq).1))
             clear hap hzr hal
             have hHeld : (fun (_ : World) => True) u5 := trivial
             refine zcl hC hHeld ?_
             clear hC C
             refine zt 12 ?_
             refine wpAnyZ_done (by kernel_rfl) ?_ _
             refine NoPanic.normal ?_
             clear hHeld
             have HBZ := Lib.hid (HB2.out.trans ((HBq.out.trans (HU.out.mono HBq.out.size)).mono HB2.out.size))
             go_wp2
             go_roundw
             case rel => exact ⟨j + 1, b, _, za, ln + 1, zc, rfl, by omega, rfl, rfl, by first | rfl | rw [HAT.out], rfl, HZR.out, HPUT.out, HMEM.out, HBK.out, by omega, HBZ.out⟩
             case measure => simp [intOf]; omega
         · obtain ⟨i1, rfl⟩ : ∃ q, i = q + 1 := ⟨i - 1, by omega⟩
           obtain ⟨bx, ox, x, rfl, hbx, hx, hcx⟩ := hRi.get (i := i1) (by omega)
           have cx : wi.cell? ⟨bx, ox + i1, none⟩ = some (.string x) := by
            have h1 := hcx 0 _ rfl
            rwa [show ox + (i1 * nameK.size + 0) = ox + i1 by show ox + (i1 * 1 + 0) = _; omega] at h1
           obtain ⟨hxn, ax, hax, hkx⟩ := HIN.out x (List.mem_of_getElem? hx)
           have HXX := Lib.hid hx
           have HAX := Lib.hid hax
           have HKX := Lib.hid hkx
           have CL := Lib.hid (HN.out.less wi s x n ax HSM.out hxn HPS.out hax)
           have hi4 : IntKind.i64.wrap (i1 : Int) = (i1 : Int) := IntWalk.i64_in _ (by omega)
           have hi5 : (0 : Int) ≤ (i1 : Int) := by omega
           have hi6 : (i1 : Int) < (ln : Int) := by omega
           have hi7 : decide ((0 : Int) < (i1 : Int) + 1) = true := decide_eq_true (by omega)
           have HBX : Hid (bx < wi.heap.size) := hbx
           clear hRi hbx hx hcx hax hkx
           go_wp2_with fail
           refine CL.out.mono ?_
           rintro e w3 ⟨rfl, hb3⟩
           have HBI3 := Lib.hid (HBI.out.trans (hb3.mono HBI.out.size))
           have HRx := Lib.hid (HR2.out.keep HBI3.out)
           by_cases hna : n < ax
           · have hdn : decide (n < ax) = true := decide_eq_true hna
             clear hb3 HBI
             go_wp2
             go_roundw
             case rel => exact ⟨i1, by go_num, by omega, fun q y hq hy => (by rcases Nat.lt_or_ge i1 q with h | h; exact HGE.out q y h hy; (rw [show q = i1 by omega, HXX.out] at hy; cases hy; rw [HKX.out]; exact hna)), HBI3.out⟩
             case measure => simp [intOf]; try omega
           · have hdn : decide (n < ax) = false := decide_eq_false hna
             have cx3 := (hb3.cell (p := ⟨bx, ox + i1, none⟩) HBX.out).trans cx
             clear hb3 cx HBI
             by_cases hxs : x = s
             · have hxe : (x.toList == s.toList) = true := by rw [hxs]; exact beq_self_eq_true _
               have HMEM : Hid (∀ y, y ∈ all ↔ y ∈ snapsP P (ns.take (j + 1))) := fun y => by
                rw [HS.out, List.mem_append, List.mem_singleton, ← HM.out y]
                exact ⟨fun h => .inl h, fun h => by rcases h with h | h; exact h; (rw [h, ← hxs]; exact List.mem_of_getElem? HXX.out)⟩
               have HBZ := Lib.hid (HB2.out.trans (HBI3.out.mono HB2.out.size))
               go_wp2
               go_roundw
               case rel => exact ⟨j + 1, b, all, _, ln, lc, rfl, by omega, rfl, rfl, by first | rfl | rw [HAT.out], rfl, HRx.out, HA.out, HMEM.out, HBK.out, by omega, HBZ.out⟩
               case measure => simp [intOf]; omega
             · have hxe : (x.toList == s.toList) = false := name_differ hxs
               have hile : i1 + 1 ≤ ln := hi
               have HRq := HRx
               have HBq := HBI3
               have HPUT : Hid (AscK (keyP P) (all.take (i1 + 1) ++ s :: all.drop (i1 + 1))) := HA.out.put (by have := HRx.out.length; omega) (fun q y hq hy => by rw [HKEY.out]; exact HGE.out q y hq hy) (.inr ⟨x, HXX.out, by
                rw [HKX.out, HKEY.out]
                rcases Int.lt_or_le ax n with h | h
                · exact h
                · have e : ax = n := by omega
                  exact absurd (HN.out.inj x (HIN.out x (List.mem_of_getElem? HXX.out)).1 s HSM.out n (by rw [HAX.out, e]) HPS.out) hxs⟩)
               have HMEM : Hid (∀ y, y ∈ all.take (i1 + 1) ++ s :: all.drop (i1 + 1) ↔ y ∈ snapsP P (ns.take (j + 1))) := fun y => by
                rw [put_mem, HS.out, List.mem_append, List.mem_singleton, ← HM.out y]
                exact or_comm
               have HUT := Lib.hid (HRq.out.take (i1 + 1) hile)
               obtain ⟨fa, fc, hsf0, hfr, _⟩ := row_from nameK_ok HRq.out (i1 + 1) hile
               have HFR := Lib.hid hfr
               have hsu : ∀ V, (Instr.slice 39 (.slice (some ⟨bx, ox, none⟩) ln lc) none (some (.int .i64 ((i1 : Int) + 1))) none).run Tryz.prog V = .ok (.slice (some ⟨bx, ox, none⟩) (i1 + 1) lc) V := row_upto nameK_ok _ ln lc (i1 + 1) (Nat.le_trans hile HRq.out.fits)
               have hsf : ∀ V, (Instr.slice 39 (.slice (some ⟨bx, ox, none⟩) ln lc) (some (.int .i64 ((i1 : Int) + 1))) none none).run Tryz.prog V = .ok (.slice fa (ln - (i1 + 1)) fc) V := hsf0
               clear hfr hsf0
               have hdrw : Below w3.heap.size w3 w3.drew := (Below.refl _ w3).drew
               go_upto_region 15 with fail
               refine wp_region_noPanic ?_
               refine wp_region_z [] (fun (_ : World) => True) (by kernel_rfl) ?_
               have hHeld : (fun (_ : World) => True) w3.drew := trivial
               obtain ⟨u0, hu⟩ : ∃ u, u = w3.drew := ⟨_, rfl⟩
               rw [← hu] at hHeld hdrw
               rw [← hu]
               clear hu
               have HU := Lib.hid hdrw
               clear hdrw
               refine zt 1 ?_
               refine zt 2 ?_
               refine zt 3 ?_
               refine zt 5 ?_
               refine zt 8 ?_
               refine zt 9 ?_
               refine zt 10 ?_
               refine wpAnyZ_ready (rs := [0, 6]) (by kernel_rfl) (by simp) ?_
               refine AllReadyZ.cons (o := ⟨_, _, _, _, _, _⟩) rfl (fun C hC => ?_) (AllReadyZ.cons (o := ⟨_, _, _, _, _, _⟩) rfl (fun C hC => ?_) AllReadyZ.nil)
               · skip
                 go_simp
                 obtain ⟨u1, hu⟩ : ∃ z, z = u0.alloc (.cells #[] 9) := ⟨_, rfl⟩
                 have hbb : Below u0.heap.size u0 u1 := by rw [hu]; exact (Below.refl _ _).alloc (Nat.le_refl _) _
                 obtain ⟨ga, hg⟩ : ∃ z, z = u0.heap.size := ⟨_, rfl⟩
                 have HO : Hid (OwnRow nameK u1 w3.heap.size (.slice (some ⟨ga, 0, none⟩) 0 0) []) := by show OwnRow _ _ _ _ _; rw [hu, hg]; exact ownRow_lit nameK_ok u0 _ [] HU.out.size (by simp) _ rfl 0 rfl
                 replace HU := Lib.hid (HU.out.trans (hbb.mono HU.out.size))
                 rw [← hu, ← hg]
                 clear hu hg hbb
                 have hHeld : (fun (_ : World) => True) u1 := trivial
                 refine zcl hC hHeld ?_
                 clear hC C
                 refine wpAnyZ_ready (rs := [4, 6]) (by kernel_rfl) (by simp) ?_
                 refine AllReadyZ.cons (o := ⟨_, _, _, _, _, _⟩) rfl (fun C hC => ?_) (AllReadyZ.cons (o := ⟨_, _, _, _, _, _⟩) rfl (fun C hC => ?_) AllReadyZ.nil)
                 · skip
                   refine held_row (by rfl) nameK_ok (.tmp 74) (.tmp 77) rfl w3.heap.size [] (all.take (i1 + 1)) _ rfl HO.out HU.out.size (some ⟨bx, ox, none⟩) (i1 + 1) lc rfl (HUT.out.keep HU.out) (by rw [List.length_nil]; omega) ?_
                   rintro v2 u2 hap
                   replace HU := Lib.hid (HU.out.grown hap.2.1 HU.out.size (fun q hq => (HO.out.lt q hq).1))
                   replace HO := Lib.hid hap.1
                   clear hap
                   have hHeld : (fun (_ : World) => True) u2 := trivial
                   refine zcl hC hHeld ?_
                   clear hC C
                   refine zr 6 (fun C hC => ?_)
                   go_simp
                   obtain ⟨u3, hu⟩ : ∃ z, z = u2.alloc (.cells #[.string s] 9) := ⟨_, rfl⟩
                   have hbb : Below u2.heap.size u2 u3 := by rw [hu]; exact (Below.refl _ _).alloc (Nat.le_refl _) _
                   obtain ⟨gx, hg⟩ : ∃ z, z = u2.heap.size := ⟨_, rfl⟩
                   have HX : Hid (RowAt nameK u3 (some ⟨gx, 0, none⟩) 1 1 [s]) := by show RowAt _ _ _ _ _ _; rw [hu, hg]; exact rowAt_lit nameK_ok u2 [s] (by simp) _ rfl 1 rfl
                   have HGX : Hid (gx < u3.heap.size) := by show _ < _; rw [hu, hg]; simp
                   have HNE : Hid (∀ q, (v2 : Value).ownBlock = some q → q ≠ gx) := fun q hq => by have := (HO.out.lt q hq).2; omega
                   replace HO := Lib.hid (HO.out.on hbb)
                   replace HU := Lib.hid (HU.out.trans (hbb.mono HU.out.size))
                   rw [← hu, ← hg]
                   clear hu hg hbb
                   have hHeld : (fun (_ : World) => True) u3 := trivial
                   refine zcl hC hHeld ?_
                   clear hC C
                   refine zr 7 (fun C hC => ?_)
                   refine held_row (by rfl) nameK_ok (.tmp 78) (.tmp 80) rfl w3.heap.size (all.take (i1 + 1)) [s] _ rfl HO.out HU.out.size (some ⟨gx, 0, none⟩) 1 1 rfl HX.out (by rw [List.length_take]; omega) ?_
                   rintro v4 u4 hap
                   replace HX := Lib.hid (HX.out.grown hap.2.1 (fun a ha e => by cases ha; exact HNE.out _ e.symm rfl))
                   replace HNE : Hid (∀ q, (v4 : Value).ownBlock = some q → q ≠ gx) := fun q hq => by
                    rcases hap.2.2.2 q hq with h | h
                    · exact HNE.out q h
                    · have := HGX.out; omega
                   replace HGX : Hid (gx < u4.heap.size) := Nat.lt_of_lt_of_le HGX.out hap.2.1.size
                   replace HU := Lib.hid (HU.out.grown hap.2.1 HU.out.size (fun q hq => (HO.out.lt q hq).1))
                   replace HO := Lib.hid hap.1
                   clear hap
                   have hHeld : (fun (_ : World) => True) u4 := trivial
                   refine zcl hC hHeld ?_
                   clear hC C
                   refine zr 11 (fun C hC => ?_)
                   refine held_row (by rfl) nameK_ok (.tmp 81) (.tmp 84) rfl w3.heap.size (all.take (i1 + 1) ++ [s]) (all.drop (i1 + 1)) _ rfl HO.out HU.out.size fa (ln - (i1 + 1)) fc rfl (HFR.out.keep HU.out) (by rw [List.length_append, List.length_take, List.length_singleton]; omega) ?_
                   rintro v5 u5 hap
                   have hal := HRq.out.length
                   obtain ⟨za, zc, hz, hzr, _⟩ := OwnRow.row nameK_ok hap.1 (n := ln + 1) (by rw [List.length_append, List.length_append, List.length_take, List.length_drop, List.length_singleton]; omega)
                   subst hz
                   rw [List.append_assoc] at hzr
                   have HZR := Lib.hid hzr
                   replace HU := Lib.hid (HU.out.grown hap.2.1 HU.out.size (fun q hq => (HO.out.lt q hq).1))
                   clear hap hzr hal
                   have hHeld : (fun (_ : World) => True) u5 := trivial
                   refine zcl hC hHeld ?_
                   clear hC C
                   refine zt 12 ?_
                   refine wpAnyZ_done (by kernel_rfl) ?_ _
                   refine NoPanic.normal ?_
                   clear hHeld
                   have HBZ := Lib.hid (HB2.out.trans ((HBq.out.trans (HU.out.mono HBq.out.size)).mono HB2.out.size))
                   go_wp2
                   go_roundw
                   case rel => exact ⟨j + 1, b, _, za, ln + 1, zc, rfl, by omega, rfl, rfl, by first | rfl | rw [HAT.out], rfl, HZR.out, HPUT.out, HMEM.out, HBK.out, by omega, HBZ.out⟩
                   case measure => simp [intOf]; omega
                 · skip
                   go_simp
                   obtain ⟨u2, hu⟩ : ∃ z, z = u1.alloc (.cells #[.string s] 9) := ⟨_, rfl⟩
                   have hbb : Below u1.heap.size u1 u2 := by rw [hu]; exact (Below.refl _ _).alloc (Nat.le_refl _) _
                   obtain ⟨gx, hg⟩ : ∃ z, z = u1.heap.size := ⟨_, rfl⟩
                   have HX : Hid (RowAt nameK u2 (some ⟨gx, 0, none⟩) 1 1 [s]) := by show RowAt _ _ _ _ _ _; rw [hu, hg]; exact rowAt_lit nameK_ok u1 [s] (by simp) _ rfl 1 rfl
                   have HGX : Hid (gx < u2.heap.size) := by show _ < _; rw [hu, hg]; simp
                   have HNE : Hid (∀ q, (Value.slice (some ⟨ga, 0, none⟩) 0 0 : Value).ownBlock = some q → q ≠ gx) := fun q hq => by have := (HO.out.lt q hq).2; omega
                   replace HO := Lib.hid (HO.out.on hbb)
                   replace HU := Lib.hid (HU.out.trans (hbb.mono HU.out.size))
                   rw [← hu, ← hg]
                   clear hu hg hbb
                   have hHeld : (fun (_ : World) => True) u2 := trivial
                   refine zcl hC hHeld ?_
                   clear hC C
                   refine zr 4 (fun C hC => ?_)
                   refine held_row (by rfl) nameK_ok (.tmp 74) (.tmp 77) rfl w3.heap.size [] (all.take (i1 + 1)) _ rfl HO.out HU.out.size (some ⟨bx, ox, none⟩) (i1 + 1) lc rfl (HUT.out.keep HU.out) (by rw [List.length_nil]; omega) ?_
                   rintro v3 u3 hap
                   replace HX := Lib.hid (HX.out.grown hap.2.1 (fun a ha e => by cases ha; exact HNE.out _ e.symm rfl))
                   replace HNE : Hid (∀ q, (v3 : Value).ownBlock = some q → q ≠ gx) := fun q hq => by
                    rcases hap.2.2.2 q hq with h | h
                    · exact HNE.out q h
                    · have := HGX.out; omega
                   replace HGX : Hid (gx < u3.heap.size) := Nat.lt_of_lt_of_le HGX.out hap.2.1.size
                   replace HU := Lib.hid (HU.out.grown hap.2.1 HU.out.size (fun q hq => (HO.out.lt q hq).1))
                   replace HO := Lib.hid hap.1
                   clear hap
                   have hHeld : (fun (_ : World) => True) u3 := trivial
                   refine zcl hC hHeld ?_
                   clear hC C
                   refine zr 7 (fun C hC => ?_)
                   refine held_row (by rfl) nameK_ok (.tmp 78) (.tmp 80) rfl w3.heap.size (all.take (i1 + 1)) [s] _ rfl HO.out HU.out.size (some ⟨gx, 0, none⟩) 1 1 rfl HX.out (by rw [List.length_take]; omega) ?_
                   rintro v4 u4 hap
                   replace HX := Lib.hid (HX.out.grown hap.2.1 (fun a ha e => by cases ha; exact HNE.out _ e.symm rfl))
                   replace HNE : Hid (∀ q, (v4 : Value).ownBlock = some q → q ≠ gx) := fun q hq => by
                    rcases hap.2.2.2 q hq with h | h
                    · exact HNE.out q h
                    · have := HGX.out; omega
                   replace HGX : Hid (gx < u4.heap.size) := Nat.lt_of_lt_of_le HGX.out hap.2.1.size
                   replace HU := Lib.hid (HU.out.grown hap.2.1 HU.out.size (fun q hq => (HO.out.lt q hq).1))
                   replace HO := Lib.hid hap.1
                   clear hap
                   have hHeld : (fun (_ : World) => True) u4 := trivial
                   refine zcl hC hHeld ?_
                   clear hC C
                   refine zr 11 (fun C hC => ?_)
                   refine held_row (by rfl) nameK_ok (.tmp 81) (.tmp 84) rfl w3.heap.size (all.take (i1 + 1) ++ [s]) (all.drop (i1 + 1)) _ rfl HO.out HU.out.size fa (ln - (i1 + 1)) fc rfl (HFR.out.keep HU.out) (by rw [List.length_append, List.length_take, List.length_singleton]; omega) ?_
                   rintro v5 u5 hap
                   have hal := HRq.out.length
                   obtain ⟨za, zc, hz, hzr, _⟩ := OwnRow.row nameK_ok hap.1 (n := ln + 1) (by rw [List.length_append, List.length_append, List.length_take, List.length_drop, List.length_singleton]; omega)
                   subst hz
                   rw [List.append_assoc] at hzr
                   have HZR := Lib.hid hzr
                   replace HU := Lib.hid (HU.out.grown hap.2.1 HU.out.size (fun q hq => (HO.out.lt q hq).1))
                   clear hap hzr hal
                   have hHeld : (fun (_ : World) => True) u5 := trivial
                   refine zcl hC hHeld ?_
                   clear hC C
                   refine zt 12 ?_
                   refine wpAnyZ_done (by kernel_rfl) ?_ _
                   refine NoPanic.normal ?_
                   clear hHeld
                   have HBZ := Lib.hid (HB2.out.trans ((HBq.out.trans (HU.out.mono HBq.out.size)).mono HB2.out.size))
                   go_wp2
                   go_roundw
                   case rel => exact ⟨j + 1, b, _, za, ln + 1, zc, rfl, by omega, rfl, rfl, by first | rfl | rw [HAT.out], rfl, HZR.out, HPUT.out, HMEM.out, HBK.out, by omega, HBZ.out⟩
                   case measure => simp [intOf]; omega
               · skip
                 go_simp
                 obtain ⟨u1, hu⟩ : ∃ z, z = u0.alloc (.cells #[.string s] 9) := ⟨_, rfl⟩
                 have hbb : Below u0.heap.size u0 u1 := by rw [hu]; exact (Below.refl _ _).alloc (Nat.le_refl _) _
                 obtain ⟨gx, hg⟩ : ∃ z, z = u0.heap.size := ⟨_, rfl⟩
                 have HX : Hid (RowAt nameK u1 (some ⟨gx, 0, none⟩) 1 1 [s]) := by show RowAt _ _ _ _ _ _; rw [hu, hg]; exact rowAt_lit nameK_ok u0 [s] (by simp) _ rfl 1 rfl
                 have HGX : Hid (gx < u1.heap.size) := by show _ < _; rw [hu, hg]; simp
                 replace HU := Lib.hid (HU.out.trans (hbb.mono HU.out.size))
                 rw [← hu, ← hg]
                 clear hu hg hbb
                 have hHeld : (fun (_ : World) => True) u1 := trivial
                 refine zcl hC hHeld ?_
                 clear hC C
                 refine zr 0 (fun C hC => ?_)
                 go_simp
                 obtain ⟨u2, hu⟩ : ∃ z, z = u1.alloc (.cells #[] 9) := ⟨_, rfl⟩
                 have hbb : Below u1.heap.size u1 u2 := by rw [hu]; exact (Below.refl _ _).alloc (Nat.le_refl _) _
                 obtain ⟨ga, hg⟩ : ∃ z, z = u1.heap.size := ⟨_, rfl⟩
                 have HO : Hid (OwnRow nameK u2 w3.heap.size (.slice (some ⟨ga, 0, none⟩) 0 0) []) := by show OwnRow _ _ _ _ _; rw [hu, hg]; exact ownRow_lit nameK_ok u1 _ [] HU.out.size (by simp) _ rfl 0 rfl
                 have HNE : Hid (∀ q, (Value.slice (some ⟨ga, 0, none⟩) 0 0).ownBlock = some q → q ≠ gx) := fun q hq => by have h1 := HGX.out; have h2 : ga = q := Option.some.inj hq; omega
                 replace HX := Lib.hid (HX.out.keep hbb)
                 replace HGX : Hid (gx < u2.heap.size) := Nat.lt_of_lt_of_le HGX.out hbb.size
                 replace HU := Lib.hid (HU.out.trans (hbb.mono HU.out.size))
                 rw [← hu, ← hg]
                 clear hu hg hbb
                 have hHeld : (fun (_ : World) => True) u2 := trivial
                 refine zcl hC hHeld ?_
                 clear hC C
                 refine zr 4 (fun C hC => ?_)
                 refine held_row (by rfl) nameK_ok (.tmp 74) (.tmp 77) rfl w3.heap.size [] (all.take (i1 + 1)) _ rfl HO.out HU.out.size (some ⟨bx, ox, none⟩) (i1 + 1) lc rfl (HUT.out.keep HU.out) (by rw [List.length_nil]; omega) ?_
                 rintro v3 u3 hap
                 replace HX := Lib.hid (HX.out.grown hap.2.1 (fun a ha e => by cases ha; exact HNE.out _ e.symm rfl))
                 replace HNE : Hid (∀ q, (v3 : Value).ownBlock = some q → q ≠ gx) := fun q hq => by
                  rcases hap.2.2.2 q hq with h | h
                  · exact HNE.out q h
                  · have := HGX.out; omega
                 replace HGX : Hid (gx < u3.heap.size) := Nat.lt_of_lt_of_le HGX.out hap.2.1.size
                 replace HU := Lib.hid (HU.out.grown hap.2.1 HU.out.size (fun q hq => (HO.out.lt q hq).1))
                 replace HO := Lib.hid hap.1
                 clear hap
                 have hHeld : (fun (_ : World) => True) u3 := trivial
                 refine zcl hC hHeld ?_
                 clear hC C
                 refine zr 7 (fun C hC => ?_)
                 refine held_row (by rfl) nameK_ok (.tmp 78) (.tmp 80) rfl w3.heap.size (all.take (i1 + 1)) [s] _ rfl HO.out HU.out.size (some ⟨gx, 0, none⟩) 1 1 rfl HX.out (by rw [List.length_take]; omega) ?_
                 rintro v4 u4 hap
                 replace HX := Lib.hid (HX.out.grown hap.2.1 (fun a ha e => by cases ha; exact HNE.out _ e.symm rfl))
                 replace HNE : Hid (∀ q, (v4 : Value).ownBlock = some q → q ≠ gx) := fun q hq => by
                  rcases hap.2.2.2 q hq with h | h
                  · exact HNE.out q h
                  · have := HGX.out; omega
                 replace HGX : Hid (gx < u4.heap.size) := Nat.lt_of_lt_of_le HGX.out hap.2.1.size
                 replace HU := Lib.hid (HU.out.grown hap.2.1 HU.out.size (fun q hq => (HO.out.lt q hq).1))
                 replace HO := Lib.hid hap.1
                 clear hap
                 have hHeld : (fun (_ : World) => True) u4 := trivial
                 refine zcl hC hHeld ?_
                 clear hC C
                 refine zr 11 (fun C hC => ?_)
                 refine held_row (by rfl) nameK_ok (.tmp 81) (.tmp 84) rfl w3.heap.size (all.take (i1 + 1) ++ [s]) (all.drop (i1 + 1)) _ rfl HO.out HU.out.size fa (ln - (i1 + 1)) fc rfl (HFR.out.keep HU.out) (by rw [List.length_append, List.length_take, List.length_singleton]; omega) ?_
                 rintro v5 u5 hap
                 have hal := HRq.out.length
                 obtain ⟨za, zc, hz, hzr, _⟩ := OwnRow.row nameK_ok hap.1 (n := ln + 1) (by rw [List.length_append, List.length_append, List.length_take, List.length_drop, List.length_singleton]; omega)
                 subst hz
                 rw [List.append_assoc] at hzr
                 have HZR := Lib.hid hzr
                 replace HU := Lib.hid (HU.out.grown hap.2.1 HU.out.size (fun q hq => (HO.out.lt q hq).1))
                 clear hap hzr hal
                 have hHeld : (fun (_ : World) => True) u5 := trivial
                 refine zcl hC hHeld ?_
                 clear hC C
                 refine zt 12 ?_
                 refine wpAnyZ_done (by kernel_rfl) ?_ _
                 refine NoPanic.normal ?_
                 clear hHeld
                 have HBZ := Lib.hid (HB2.out.trans ((HBq.out.trans (HU.out.mono HBq.out.size)).mono HB2.out.size))
                 go_wp2
                 go_roundw
                 case rel => exact ⟨j + 1, b, _, za, ln + 1, zc, rfl, by omega, rfl, rfl, by first | rfl | rw [HAT.out], rfl, HZR.out, HPUT.out, HMEM.out, HBK.out, by omega, HBZ.out⟩
                 case measure => simp [intOf]; omega
    · have HS : Hid (snapsP P (ns.take (j + 1)) = snapsP P (ns.take j)) := by show _ = _; rw [HTK.out]; exact snapsP_snoc_no hn
      have hgo : ok = false ∨ (ok = true ∧ (kd.toList == [115, 110, 97, 112, 115, 104, 111, 116]) = false) := by
       rcases hk with h | h
       · exact .inl h
       · cases ok
         · exact .inl rfl
         · exact .inr ⟨rfl, h⟩
      clear hk
      rcases hgo with rfl | ⟨rfl, hkd⟩
      · go_wp2
        go_roundw
        case rel => exact ⟨j + 1, b, all, la, ln, lc, rfl, by omega, rfl, rfl, rfl, rfl, HR2.out, HA.out, by rw [HS.out]; exact HM.out, by rw [HS.out]; exact HBK.out, by omega, HB2.out⟩
        case measure => simp [intOf]; omega
      · go_wp2
        go_roundw
        case rel => exact ⟨j + 1, b, all, la, ln, lc, rfl, by omega, rfl, rfl, rfl, rfl, HR2.out, HA.out, by rw [HS.out]; exact HM.out, by rw [HS.out]; exact HBK.out, by omega, HB2.out⟩
        case measure => simp [intOf]; omega
  · have hd : decide (j < len) = false := decide_eq_false hlt
    have hjl : j = len := by omega
    have HMF : Hid (∀ x, x ∈ all ↔ x ∈ snapsP P ns) := by
     have h1 := HM.out
     rw [hjl, ← HNL.out, List.take_length] at h1
     exact h1
    have HBF : Hid (BestK (keyP P) (snapsP P ns) end0 b) := by
     have h1 := HBK.out
     rw [hjl, ← HNL.out, List.take_length] at h1
     exact h1
    clear HM HBK hjl
    go_wp2_with fail
    refine (HLA.out wo HB.out).mono ?_
    rintro e w2 ⟨b2, rfl, hb2, hbl⟩
    have hbe : b2 = b := BestK.one (fun x hx y hy e => by
     unfold snapsP at hx hy
     obtain ⟨hx1, hx2⟩ := List.mem_filter.1 hx
     obtain ⟨hy1, hy2⟩ := List.mem_filter.1 hy
     obtain ⟨ax, hax⟩ := Option.isSome_iff_exists.1 hx2
     obtain ⟨ay, hay⟩ := Option.isSome_iff_exists.1 hy2
     unfold keyP at e
     rw [hax, hay] at e
     have e : ax = ay := e
     exact HN.out.inj x hx1 y hy1 ax hax (by rw [hay, e])) hb2 HBF.out
    subst hbe
    have HB2 := Lib.hid (HB.out.trans (hbl.mono HB.out.size))
    have HR2 := Lib.hid (HR.out.keep hbl)
    clear hb2 hbl HB HR HBF
    go_wp2_with fail
    refine (HOL.out w2 HB2.out).mono ?_
    rintro e w3 ⟨oa, on, oc, S, rfl, hro, hso, hmo, hbo⟩
    have hSe : S = all := AscK.one hso HA.out (fun x => (hmo x).trans (HMF.out x).symm)
    subst hSe
    have HB3 := Lib.hid (HB2.out.trans (hbo.mono HB2.out.size))
    have HR3 := Lib.hid (HR2.out.keep hbo)
    have hSl : S.length = ln := HR3.out.length
    obtain ⟨c, hc⟩ : ∃ c, S.length - keep.toNat = c := ⟨_, rfl⟩
    rw [hc] at hro
    have hcl : c ≤ ln := by omega
    have hon : on = c := by
     have h1 := hro.length
     rw [List.length_take] at h1
     omega
    subst hon
    have HRO := Lib.hid hro
    have HRT := Lib.hid (HR3.out.take on hcl)
    obtain ⟨m, hm⟩ : ∃ m : Int, m = max keep 0 := ⟨_, rfl⟩
    have hmx : max keep 0 = m := hm.symm
    have hmx3 : (if keep < 0 then 0 else keep) = m := by rw [hm]; omega
    have hm0 : 0 ≤ m ∧ m ≤ 9223372036854775807 := by omega
    have hln : ln ≤ 100000 := by omega
    have hmx2 : max ((ln : Int) - m) 0 = (on : Int) := by omega
    have hmx4 : (if (ln : Int) - m < 0 then 0 else (ln : Int) - m) = (on : Int) := by omega
    have hb64 : IntKind.i64.wrap ((ln : Int) - m) = (ln : Int) - m := IntWalk.i64_in _ (by omega)
    have hb65 : wrap64 ((ln : Int) - m) = (ln : Int) - m := by unfold wrap64; omega
    have hsu : ∀ V, (Instr.slice 39 (.slice la ln lc) none (some (.int .i64 (on : Int))) none).run Tryz.prog V = .ok (.slice la on lc) V := row_upto nameK_ok _ ln lc on (Nat.le_trans hcl HR3.out.fits)
    have hnn : (b2.getD ⟨#[]⟩).toList == (b2.getD ⟨#[]⟩).toList := beq_self_eq_true _
    obtain ⟨t, ht⟩ : ∃ t, t = b2.getD (⟨#[]⟩ : ByteArray) := ⟨_, rfl⟩
    obtain ⟨q, hq⟩ : ∃ q, q = b2.isSome := ⟨_, rfl⟩
    have htt : (t.toList == t.toList) = true := beq_self_eq_true _
    have hqq : (q == q) = true := beq_self_eq_true _
    rw [← ht, ← hq]
    have hon5 : on ≤ 100000 := by omega
    clear hro hso hmo hbo hnn ht hq HB2 HR2 hm hc hSl hcl hlj hj hd hlt
    go_wp2_with fail
    refine (HSA.out w3 oa la on oc lc (S.take on) HRO.out HRT.out (by omega)).mono ?_
    rintro e w4 ⟨rfl, hb4⟩
    have HB4 := Lib.hid (HB3.out.trans (hb4.mono HB3.out.size))
    clear hb4
    go_wp2
    go_ret
    exact ⟨rfl, HB4.out⟩
end Go.Proofs.YtgohekjkbgfeeaaGreat
