/- Parts of a proof, merged: AbWithin, AbCut. -/
import Derived.Test.YtbejincejbnbaaaKa1
import Derived.Test.YtbejincejbnbaaaKa11
import Derived.Test.YtbejincejbnbaaaKa5
namespace Go.Proofs.Ytbejincejbnbaaa
open Go.RowKit
open Go.AbMath
open Go.ProdMath
open Go.BatMath hiding AllB getD_lt take_all
set_option linter.unusedVariables false

theorem abMask63 (a : Int) : bits .and .i64 a 63 = a % 64 := by
 have h1 : (BitVec.ofInt 64 63).toNat = 2 ^ 6 - 1 := by decide
 have key : (BitVec.ofInt 64 a &&& BitVec.ofInt 64 63).toNat = (a % ((2 ^ 64 : Nat) : Int)).toNat % 2 ^ 6 := by
  rw [BitVec.toNat_and, BitVec.toNat_ofInt, h1, Nat.and_two_pow_sub_one_eq_mod]
 show IntKind.i64.wrap ((BitVec.ofInt 64 a &&& BitVec.ofInt 64 63).toNat : Nat) = _
 rw [key, IntKind.wrap_i64]
 omega
theorem abMask31 (a : Int) : bits .and .i64 a 31 = a % 32 := by
 have h1 : (BitVec.ofInt 64 31).toNat = 2 ^ 5 - 1 := by decide
 have key : (BitVec.ofInt 64 a &&& BitVec.ofInt 64 31).toNat = (a % ((2 ^ 64 : Nat) : Int)).toNat % 2 ^ 5 := by
  rw [BitVec.toNat_and, BitVec.toNat_ofInt, h1, Nat.and_two_pow_sub_one_eq_mod]
 show IntKind.i64.wrap ((BitVec.ofInt 64 a &&& BitVec.ofInt 64 31).toNat : Nat) = _
 rw [key, IntKind.wrap_i64]
 omega
theorem abMask7 (a : Int) : bits .and .i64 a 7 = a % 8 := by
 have h1 : (BitVec.ofInt 64 7).toNat = 2 ^ 3 - 1 := by decide
 have key : (BitVec.ofInt 64 a &&& BitVec.ofInt 64 7).toNat = (a % ((2 ^ 64 : Nat) : Int)).toNat % 2 ^ 3 := by
  rw [BitVec.toNat_and, BitVec.toNat_ofInt, h1, Nat.and_two_pow_sub_one_eq_mod]
 show IntKind.i64.wrap ((BitVec.ofInt 64 a &&& BitVec.ofInt 64 7).toNat : Nat) = _
 rw [key, IntKind.wrap_i64]
 omega
/-- How many of s come up in g, in their order. -/
def eat : List Dr → List Dr → Nat
 | _, [] => 0
 | [], _ => 0
 | a :: s, b :: g => if sameD a b = true then eat s g + 1 else eat (a :: s) g
theorem eat_nil : ∀ g, eat [] g = 0
 | [] => rfl
 | b :: g => rfl
theorem eat_cons (a b : Dr) (s g : List Dr) : eat (a :: s) (b :: g) = if sameD a b = true then eat s g + 1 else eat (a :: s) g := rfl
theorem eat_all : ∀ (g s : List Dr), s.Sublist g → eat s g = s.length
 | [], s, h => by rw [List.sublist_nil.1 h]; rfl
 | b :: g, [], h => eat_nil _
 | b :: g, a :: s, h => by
   rw [eat_cons]
   split
   · rename_i e
     have e := sameD_iff.1 e
     rw [eat_all g s (by rw [e] at h; exact List.cons_sublist_cons.1 h)]
     rfl
   · rename_i e
     rcases List.sublist_cons_iff.1 h with h | ⟨r, hr, h⟩
     · exact eat_all g _ h
     · exact absurd (sameD_iff.2 (List.cons.inj hr).1) e
theorem eat_step {s g : List Dr} {p j : Nat} {x : Dr} (hx : g[j]? = some x) : (s.length ≤ p → eat (s.drop p) (g.drop j) = 0 ∧ eat (s.drop p) (g.drop (j + 1)) = 0) ∧ (∀ y, s[p]? = some y → eat (s.drop p) (g.drop j) = if sameD y x = true then eat (s.drop (p + 1)) (g.drop (j + 1)) + 1 else eat (s.drop p) (g.drop (j + 1))) := by
 have hj := (List.getElem?_eq_some_iff.1 hx).1
 have hg : g.drop j = x :: g.drop (j + 1) := by
  rw [List.drop_eq_getElem_cons hj]
  rw [(List.getElem?_eq_some_iff.1 hx).2]
 refine ⟨fun h => ?_, fun y hy => ?_⟩
 · rw [List.drop_eq_nil_of_le h]
   exact ⟨eat_nil _, eat_nil _⟩
 · have hp := (List.getElem?_eq_some_iff.1 hy).1
   have hs : s.drop p = y :: s.drop (p + 1) := by
    rw [List.drop_eq_getElem_cons hp]
    rw [(List.getElem?_eq_some_iff.1 hy).2]
   rw [hg, hs, eat_cons]
theorem same_test (a b : Dr) : (a.prod == b.prod && (a.first == b.first && a.last == b.last)) = sameD a b := by
 unfold sameD
 by_cases h1 : a.prod = b.prod <;> by_cases h2 : a.first = b.first <;> by_cases h3 : a.last = b.last <;> simp [h1, h2, h3]
set_option maxRecDepth 100000 in
set_option maxHeartbeats 8000000 in
theorem abWithin_any {R : (Nat → Prop) → World → Addr → List Dr → Prop} (C : AbCode R) (K : ∀ W, Calls Try.prog 15 #[] W (GivesBool W true)) (w : World) (tad : Option Addr) (tlen tcap : Nat)
 (hrow : Calls Try.prog 8 #[.slice tad tlen tcap, .int .i64 0, .int .i64 40] w (AbRowDoes w 40)) (a0 b0 c0 d0 : Int) :
 Calls Try.prog 5 #[.slice tad tlen tcap, .int .i64 a0, .int .i64 b0, .int .i64 c0, .int .i64 d0] w (GivesBool w true) := by
 have HC := Lib.hid C
 have HK := Lib.hid K
 have HR := Lib.hid hrow
 clear C K hrow
 go_enter Try.func5, Try.ntmps5
 go_wp2_with fail
 refine HR.out.mono ?_
 rintro e w1 ⟨ad, len, cap, ms, rfl, hba, hok, hrd, hlen, hb1⟩
 have hml := hba.row.length
 have hdl := drops_len (bats ms) []
 have hbl : (bats ms).length = len := by unfold bats; rw [List.length_map]; exact hml
 have HBA := Lib.hid hba
 have HOK := Lib.hid hok
 have HRD := Lib.hid hrd
 have HB1 := Lib.hid hb1
 obtain ⟨l, hl⟩ : ∃ l, l = foldR [] (bats ms) := ⟨_, rfl⟩
 have HDO : Hid (DrsOk l) := by show DrsOk l; rw [hl]; exact (row_drops hrd (by decide) (by decide)).1
 have HLL : Hid (l.length ≤ 40) := by show _ ≤ _; rw [hl]; omega
 have HL := Lib.hid hl
 clear hba hok hrd hb1 hl hml hdl hbl HR
 go_wp2_with fail
 refine (HC.out.of w1 ad len cap ms 0 HBA.out (by omega) HOK.out HRD.out (by decide) (by decide)).mono ?_
 rintro e w2 ⟨a, F, rfl, hra, -, hb2⟩
 rw [← HL.out] at hra
 have HRa := Lib.hid hra
 have HB2 := Lib.hid (HB1.out.trans (hb2.mono HB1.out.size))
 clear hra hb2 HB1 HBA HOK HRD
 have m1 : bits .and .i64 a0 63 = a0 % 64 := abMask63 a0
 have m2 : bits .and .i64 b0 31 = b0 % 32 := abMask31 b0
 have m3 : bits .and .i64 c0 7 = c0 % 8 := abMask7 c0
 have m4 : bits .and .i64 d0 7 = d0 % 8 := abMask7 d0
 obtain ⟨x, hx⟩ : ∃ x : Int, x = a0 % 64 := ⟨_, rfl⟩
 obtain ⟨p, hp⟩ : ∃ x : Int, x = b0 % 32 := ⟨_, rfl⟩
 obtain ⟨c, hc⟩ : ∃ x : Int, x = c0 % 8 := ⟨_, rfl⟩
 obtain ⟨d, hd⟩ : ∃ x : Int, x = d0 % 8 := ⟨_, rfl⟩
 obtain ⟨y, hy⟩ : ∃ y : Int, y = x + p := ⟨_, rfl⟩
 obtain ⟨fx, hfx⟩ : ∃ y : Int, y = x - c := ⟨_, rfl⟩
 obtain ⟨ty, hty⟩ : ∃ z : Int, z = y + d := ⟨_, rfl⟩
 rw [← hx] at m1
 rw [← hp] at m2
 rw [← hc] at m3
 rw [← hd] at m4
 have n1 : wrap64 (x + p) = y := by unfold wrap64; omega
 have n2 : wrap64 (x - c) = fx := by unfold wrap64; omega
 have n3 : wrap64 (y + d) = ty := by unfold wrap64; omega
 have HLE : Hid (fx ≤ x ∧ y ≤ ty) := ⟨by omega, by omega⟩
 clear hx hp hc hd hy hfx hty
 go_wp2_with fail
 refine (HC.out.within F w2 a l x y HRa.out HDO.out (Nat.le_trans HLL.out (by omega))).mono ?_
 rintro e w3 ⟨sa, sn, sc, rfl, hs, hb3⟩
 have HS3 := Lib.hid hs
 have HRa3 := Lib.hid (HC.out.keep HRa.out hb3)
 have HB3 := Lib.hid (HB2.out.trans (hb3.mono HB2.out.size))
 clear hs hb3 HRa HB2
 go_wp2_with fail
 refine (HC.out.within F w3 a l fx ty HRa3.out HDO.out (Nat.le_trans HLL.out (by omega))).mono ?_
 rintro e w4 ⟨ga, gn, gc, rfl, hg, hb4⟩
 have HG4 := Lib.hid hg
 have HS4 := Lib.hid (HS3.out.keep hb4)
 have HRa4 := Lib.hid (HC.out.keep HRa3.out hb4)
 have HB4 := Lib.hid (HB3.out.trans (hb4.mono HB3.out.size))
 clear hg hb4 HRa3 HB3 HS3 m1 m2 m3 m4 n1 n2 n3
 obtain ⟨s, hs⟩ : ∃ s, s = withinD l x y := ⟨_, rfl⟩
 obtain ⟨g, hg⟩ : ∃ s, s = withinD l fx ty := ⟨_, rfl⟩
 have hsn : s.length = sn := by rw [hs]; exact HS4.out.length
 have hgn : g.length = gn := by rw [hg]; exact HG4.out.length
 have hg40 : gn ≤ l.length := by rw [← hgn, hg]; exact within_len _ _ _
 have hs40 : sn ≤ l.length := by rw [← hsn, hs]; exact within_len _ _ _
 have HEAT : Hid (eat s g = sn) := by
  show _ = _
  rw [← hsn, hs, hg]
  exact eat_all _ _ (within_more HLE.out.1 HLE.out.2)
 rw [← hs] at HS4
 rw [← hg] at HG4
 have HSN := Lib.hid hsn
 have HGN := Lib.hid hgn
 have HGL : Hid (gn ≤ l.length) := hg40
 have hsn40 : sn ≤ 40 := Nat.le_trans hs40 HLL.out
 have hgn40 : gn ≤ 40 := Nat.le_trans hg40 HLL.out
 clear hs hg hsn hgn hg40 hs40 HLE
 go_wp2
 go_loopw [16, 46] (fun v16 v46 wr => ∃ (q j : Nat), v16 = .int .i64 (q : Int) ∧ v46 = .int .i64 (j : Int) ∧ q ≤ sn ∧ j ≤ gn ∧ Hid (q + eat (s.drop q) (g.drop j) = sn) ∧ Hid (Below w4.heap.size w4 wr)) (fun _ v46 _ => gn - (intOf v46).toNat)
 case atStart => exact ⟨0, 0, rfl, rfl, Nat.zero_le _, Nat.zero_le _, (by show 0 + eat s g = sn; rw [Nat.zero_add]; exact HEAT.out), Below.refl _ _⟩
 case round =>
  obtain ⟨q, j, rfl, rfl, hq, hj, HEA, HB⟩ := hrel
  obtain ⟨wo, hwo⟩ : ∃ wo : World, wo = wr := ⟨_, rfl⟩
  subst hwo
  by_cases hlt : j < gn
  · have hd : decide (j < gn) = true := decide_eq_true hlt
    have hjl : (j : Int) < (gn : Int) := by omega
    have hj0 : (0 : Int) ≤ (j : Int) := by omega
    obtain ⟨b1, o1, x1, rfl, hb1, hx1, p0, p1, p2⟩ := dr_get (HG4.out.keep HB.out) hlt
    have hst := eat_step (s := s) (p := q) hx1
    obtain ⟨x10, x11, x12⟩ := x1
    simp only at p0 p1 p2
    have hdrw : Below wo.heap.size wo wo.drew := (Below.refl _ wo).drew
    by_cases hqs : q < sn
    · have hd2 : decide (q < sn) = true := decide_eq_true hqs
      have hql : (q : Int) < (sn : Int) := by omega
      have hq0 : (0 : Int) ≤ (q : Int) := by omega
      obtain ⟨b2, o2, x2, rfl, hb2, hx2, q0, q1, q2⟩ := dr_get (HS4.out.keep HB.out) hqs
      have hst2 := hst.2 _ hx2
      obtain ⟨x20, x21, x22⟩ := x2
      simp only at q0 q1 q2
      have HST := Lib.hid hst2
      obtain ⟨r, hr⟩ : ∃ r, sameD ⟨x20, x21, x22⟩ ⟨x10, x11, x12⟩ = r := ⟨_, rfl⟩
      have HRR := Lib.hid hr
      have heq := eql_dr x20 x21 x22 x10 x11 x12 r (by rw [← hr]; exact same_test ⟨x20, x21, x22⟩ ⟨x10, x11, x12⟩)
      have hgd := guard_dr
      have KS : Hid (∀ V, Below wo.heap.size wo V → (fun (V : World) => V.cell? ⟨b1, o1 + j * 3, none⟩ = some (.int .i64 x10) ∧ V.cell? ⟨b1, o1 + j * 3 + 1, none⟩ = some (.int .i64 x11) ∧ V.cell? ⟨b1, o1 + j * 3 + 2, none⟩ = some (.int .i64 x12) ∧ V.cell? ⟨b2, o2 + q * 3, none⟩ = some (.int .i64 x20) ∧ V.cell? ⟨b2, o2 + q * 3 + 1, none⟩ = some (.int .i64 x21) ∧ V.cell? ⟨b2, o2 + q * 3 + 2, none⟩ = some (.int .i64 x22)) V) := fun V hV => ⟨(hV.cell (p := ⟨b1, o1 + j * 3, none⟩) hb1).trans p0, (hV.cell (p := ⟨b1, o1 + j * 3 + 1, none⟩) hb1).trans p1, (hV.cell (p := ⟨b1, o1 + j * 3 + 2, none⟩) hb1).trans p2, (hV.cell (p := ⟨b2, o2 + q * 3, none⟩) hb2).trans q0, (hV.cell (p := ⟨b2, o2 + q * 3 + 1, none⟩) hb2).trans q1, (hV.cell (p := ⟨b2, o2 + q * 3 + 2, none⟩) hb2).trans q2⟩
      clear hst hst2 hx1 hx2 p0 p1 p2 q0 q1 q2 hr
      cases r with
      | true =>
        have HEN : Hid (q + 1 + eat (s.drop (q + 1)) (g.drop (j + 1)) = sn) := by
         show _ = _
         have h1 := HEA.out
         rw [HST.out, if_pos HRR.out] at h1
         omega
        go_upto_region 10 with fail
        refine wp_region_noPanic ?_
        refine wp_region_z [] (fun (V : World) => V.cell? ⟨b1, o1 + j * 3, none⟩ = some (.int .i64 x10) ∧ V.cell? ⟨b1, o1 + j * 3 + 1, none⟩ = some (.int .i64 x11) ∧ V.cell? ⟨b1, o1 + j * 3 + 2, none⟩ = some (.int .i64 x12) ∧ V.cell? ⟨b2, o2 + q * 3, none⟩ = some (.int .i64 x20) ∧ V.cell? ⟨b2, o2 + q * 3 + 1, none⟩ = some (.int .i64 x21) ∧ V.cell? ⟨b2, o2 + q * 3 + 2, none⟩ = some (.int .i64 x22)) (by kernel_rfl) ?_
        have hHeld := KS.out _ hdrw
        obtain ⟨ue_0, hu⟩ : ∃ u, u = wo.drew := ⟨_, rfl⟩
        rw [← hu] at hHeld hdrw
        rw [← hu]
        clear hu
        have HU := Lib.hid hdrw
        clear hdrw
        refine zt 0 ?_
        refine zt 1 ?_
        refine zt 2 ?_
        refine zt 3 ?_
        refine zt 4 ?_
        refine zt 5 ?_
        refine zt 6 ?_
        refine zt 7 ?_
        refine zt 8 ?_
        refine zt 9 ?_
        refine zt 10 ?_
        refine zt 11 ?_
        refine zt 12 ?_
        refine zt 13 ?_
        refine zt 14 ?_
        refine wpAnyZ_done (by kernel_rfl) ?_ _
        refine NoPanic.normal ?_
        clear hHeld
        have HBZ := Lib.hid (HB.out.trans (HU.out.mono HB.out.size))
        clear KS HU hb1 hb2
        go_wp2
        go_roundw
        case rel => exact ⟨q + 1, j + 1, by first | rfl | go_num, rfl, by omega, by omega, HEN.out, HBZ.out⟩
        case measure => simp [intOf]; omega
      | false =>
        have HEN : Hid (q + eat (s.drop q) (g.drop (j + 1)) = sn) := by
         show _ = _
         have h1 := HEA.out
         rw [HST.out, if_neg (by rw [HRR.out]; decide)] at h1
         exact h1
        go_upto_region 10 with fail
        refine wp_region_noPanic ?_
        refine wp_region_z [] (fun (V : World) => V.cell? ⟨b1, o1 + j * 3, none⟩ = some (.int .i64 x10) ∧ V.cell? ⟨b1, o1 + j * 3 + 1, none⟩ = some (.int .i64 x11) ∧ V.cell? ⟨b1, o1 + j * 3 + 2, none⟩ = some (.int .i64 x12) ∧ V.cell? ⟨b2, o2 + q * 3, none⟩ = some (.int .i64 x20) ∧ V.cell? ⟨b2, o2 + q * 3 + 1, none⟩ = some (.int .i64 x21) ∧ V.cell? ⟨b2, o2 + q * 3 + 2, none⟩ = some (.int .i64 x22)) (by kernel_rfl) ?_
        have hHeld := KS.out _ hdrw
        obtain ⟨ue_0, hu⟩ : ∃ u, u = wo.drew := ⟨_, rfl⟩
        rw [← hu] at hHeld hdrw
        rw [← hu]
        clear hu
        have HU := Lib.hid hdrw
        clear hdrw
        refine zt 0 ?_
        refine zt 1 ?_
        refine zt 2 ?_
        refine zt 3 ?_
        refine zt 4 ?_
        refine zt 5 ?_
        refine zt 6 ?_
        refine zt 7 ?_
        refine zt 8 ?_
        refine zt 9 ?_
        refine zt 10 ?_
        refine zt 11 ?_
        refine zt 12 ?_
        refine zt 13 ?_
        refine zt 14 ?_
        refine wpAnyZ_done (by kernel_rfl) ?_ _
        refine NoPanic.normal ?_
        clear hHeld
        have HBZ := Lib.hid (HB.out.trans (HU.out.mono HB.out.size))
        clear KS HU hb1 hb2
        go_wp2
        go_roundw
        case rel => exact ⟨q, j + 1, rfl, rfl, by omega, by omega, HEN.out, HBZ.out⟩
        case measure => simp [intOf]; omega
    · have hd2 : decide (q < sn) = false := decide_eq_false hqs
      have hst1 := hst.1 (by rw [HSN.out]; omega)
      have HEN : Hid (q + eat (s.drop q) (g.drop (j + 1)) = sn) := by
       show _ = _
       have h1 := HEA.out
       rw [hst1.1] at h1
       rw [hst1.2]
       exact h1
      have KS : Hid (∀ V, Below wo.heap.size wo V → (fun (_ : World) => True) V) := fun V hV => trivial
      clear hst hst1 hx1 p0 p1 p2
      go_upto_region 10 with fail
      refine wp_region_noPanic ?_
      refine wp_region_z [] (fun (_ : World) => True) (by kernel_rfl) ?_
      have hHeld := KS.out _ hdrw
      obtain ⟨ue_0, hu⟩ : ∃ u, u = wo.drew := ⟨_, rfl⟩
      rw [← hu] at hHeld hdrw
      rw [← hu]
      clear hu
      have HU := Lib.hid hdrw
      clear hdrw
      refine zt 0 ?_
      refine zt 1 ?_
      refine zt 2 ?_
      refine zt 3 ?_
      refine zt 4 ?_
      refine zt 5 ?_
      refine zt 6 ?_
      refine zt 7 ?_
      refine zt 8 ?_
      refine zt 9 ?_
      refine zt 10 ?_
      refine zt 11 ?_
      refine zt 12 ?_
      refine zt 13 ?_
      refine zt 14 ?_
      refine wpAnyZ_done (by kernel_rfl) ?_ _
      refine NoPanic.normal ?_
      clear hHeld
      have HBZ := Lib.hid (HB.out.trans (HU.out.mono HB.out.size))
      clear KS HU hb1
      go_wp2
      go_roundw
      case rel => exact ⟨q, j + 1, rfl, rfl, by omega, by omega, HEN.out, HBZ.out⟩
      case measure => simp [intOf]; omega
  · have hd : decide (j < gn) = false := decide_eq_false hlt
    have hqe : q = sn := by
     have h1 := HEA.out
     have hje : g.drop j = [] := List.drop_eq_nil_of_le (by rw [HGN.out]; omega)
     rw [hje] at h1
     have h2 : eat (s.drop q) [] = 0 := by cases s.drop q <;> rfl
     rw [h2] at h1
     omega
    subst hqe
    have hqq : ((q : Int) == (q : Int)) = true := beq_self_eq_true _
    have HRo := Lib.hid (HC.out.keep HRa4.out HB.out)
    have HBo := Lib.hid (HB4.out.trans (HB.out.mono HB4.out.size))
    clear HRa4 HB HB4 HS4 HG4 HEA HEAT
    go_wp2_with fail
    refine (HC.out.within F wo a l 0 1099511627776 HRo.out HDO.out (Nat.le_trans HLL.out (by omega))).mono ?_
    rintro e w5 ⟨ua, un, uc, rfl, hu, hb5⟩
    rw [within_all HDO.out] at hu
    have HU5 := Lib.hid hu
    have HR5 := Lib.hid (HC.out.keep HRo.out hb5)
    have HB5 := Lib.hid (HBo.out.trans (hb5.mono HBo.out.size))
    clear hu hb5 HRo HBo
    go_wp2_with fail
    refine (HC.out.all F w5 a l HR5.out HDO.out (Nat.le_trans HLL.out (by omega))).mono ?_
    rintro e w6 ⟨va, vn, vc, rfl, hv, hb6⟩
    have HV6 := Lib.hid hv
    have HU6 := Lib.hid (HU5.out.keep hb6)
    have HR6 := Lib.hid (HC.out.keep HR5.out hb6)
    have HB6 := Lib.hid (HB5.out.trans (hb6.mono HB5.out.size))
    clear hv hb6 HU5 HR5 HB5
    go_wp2_with fail
    refine (drSame2_any w6 ua va un vn uc vc l HU6.out HV6.out (Nat.le_trans HLL.out (by omega))).mono ?_
    rintro e w7 ⟨rfl, hb7⟩
    have HR7 := Lib.hid (HC.out.keep HR6.out hb7)
    have HB7 := Lib.hid (HB6.out.trans (hb7.mono HB6.out.size))
    clear hb7 HR6 HB6 HU6 HV6
    go_wp2_with fail
    refine (HC.out.all F w7 a l HR7.out HDO.out (Nat.le_trans HLL.out (by omega))).mono ?_
    rintro e w8 ⟨xa, xn, xc, rfl, hx, hb8⟩
    have hxn : xn = l.length := hx.length.symm
    have hgx : (gn : Int) ≤ (xn : Int) := by have := HGL.out; omega
    have hxb : xn ≤ 40 := by rw [hxn]; exact HLL.out
    have HB8 := Lib.hid (HB7.out.trans (hb8.mono HB7.out.size))
    clear hx hb8 HR7 HB7 hxn
    go_wp2_with fail
    refine (within_in (gn : Int) (xn : Int) w8 (by omega) hgx).mono ?_
    rintro e w9 ⟨rfl, hw9⟩
    have HB9 : Hid (Below w.heap.size w w9) := by show Below _ _ _; rw [← hw9]; exact HB8.out
    clear hw9 HB8
    have hgg : ((gn : Int) == (gn : Int)) = true := beq_self_eq_true _
    go_wp2_with fail
    refine (HK.out w9).mono ?_
    rintro e wa ⟨rfl, hba⟩
    have HBa := Lib.hid (HB9.out.trans (hba.mono HB9.out.size))
    clear hba HB9
    go_wp2
    go_ret
    exact ⟨rfl, HBa.out⟩
end Go.Proofs.Ytbejincejbnbaaa
namespace Go.Proofs.Ytbejincejbnbaaa
open Go.RowKit
open Go.AbMath
open Go.ProdMath
open Go.BatMath hiding AllB getD_lt take_all
set_option linter.unusedVariables false

set_option maxRecDepth 100000 in
set_option maxHeartbeats 8000000 in
theorem abCut_any {R : (Nat → Prop) → World → Addr → List Dr → Prop} (C : AbCode R) (K : ∀ W, Calls Try.prog 15 #[] W (GivesBool W true)) (w : World) (tad : Option Addr) (tlen tcap : Nat)
 (hrow : Calls Try.prog 8 #[.slice tad tlen tcap, .int .i64 0, .int .i64 40] w (AbRowDoes w 40)) (n0 : Int) (hn0 : In64 n0) :
 Calls Try.prog 6 #[.slice tad tlen tcap, .int .i64 n0] w (GivesBool w true) := by
 have HC := Lib.hid C
 have HK := Lib.hid K
 have HR := Lib.hid hrow
 clear C K hrow
 go_enter Try.func6, Try.ntmps6
 go_wp2_with fail
 refine HR.out.mono ?_
 rintro e w1 ⟨ad, len, cap, ms, rfl, hba, hok, hrd, hlen, hb1⟩
 have hml := hba.row.length
 obtain ⟨bs, hbs⟩ : ∃ bs, bs = bats ms := ⟨_, rfl⟩
 have hbl : bs.length = len := by rw [hbs]; unfold bats; rw [List.length_map]; exact hml
 have HBA := Lib.hid hba
 have HOK : Hid (BatsOk (bats ms)) := hok
 have HRD : Hid (RowD 0 (bats ms)) := hrd
 have HB1 := Lib.hid hb1
 have HBL : Hid ((bats ms).length = len) := by show _ = _; rw [← hbs]; exact hbl
 have hdo := row_drops hrd (by decide) (by decide)
 have hpr := row_prods hrd (by decide) (by decide)
 have hdl := drops_len (bats ms) []
 have HGET : Hid (∀ (i : Nat) m, ms[i]? = some m → (bats ms)[i]? = some m.b) := by
  intro i m hm
  unfold bats
  rw [List.getElem?_map, hm]; rfl
 have HBEG : Hid (∀ (k : Nat) b, (bats ms)[k]? = some b → foldR [] ((bats ms).take k) = cutD (foldR [] (bats ms)) b.base) := row_begins hrd (by decide) (by decide)
 have HALLC : Hid (cutD (foldR [] (bats ms)) 1099511627776 = foldR [] (bats ms)) := row_all hrd (by decide) (by decide)
 have HBT : Hid (∀ i, bats (ms.take i) = (bats ms).take i) := fun i => by
  unfold bats
  rw [List.map_take]
 obtain ⟨l, hl⟩ : ∃ l, l = foldR [] (bats ms) := ⟨_, rfl⟩
 rw [← hl] at hdo hpr hdl HBEG HALLC
 have HDO : Hid (DrsOk l) := hdo.1
 have HPR : Hid (∀ d ∈ l, In64 d.prod) := hpr
 have HL := Lib.hid hl
 have hll : l.length ≤ 40 := by rw [hbs] at hbl; omega
 have HLL : Hid (l.length ≤ 40) := hll
 clear hba hok hrd hb1 hdo hpr hdl hl hml hbs HR hll
 go_wp2_with fail
 refine (within_any n0 (len : Int) w1 hn0 ⟨by omega, by omega⟩).mono ?_
 rintro e W1X ⟨k, rfl, hk, rfl⟩
 have hkl : k ≤ len := by omega
 have hsu : ∀ V, (Instr.slice 23 (.slice ad len cap) none (some (.int .i64 (k : Int))) none).run Try.prog V = .ok (.slice ad k cap) V := row_upto batK_ok _ len cap k (Nat.le_trans hkl HBA.out.row.fits)
 obtain ⟨m, hm⟩ : ∃ m, m = foldR [] ((bats ms).take k) := ⟨_, rfl⟩
 have HM := Lib.hid hm
 have HMO : Hid (DrsOk m) := by show DrsOk m; rw [hm]; exact (row_drops (abRow_take HRD.out k) (by decide) (by decide)).1
 have HML : Hid (m.length ≤ 40) := by
  show _ ≤ _
  have h1 := drops_len ((bats ms).take k) []
  rw [← hm, List.length_take] at h1
  omega
 clear hk hbl hm
 go_upto_region 3 with fail
 have hdrw : Below w1.heap.size w1 w1.drew := (Below.refl _ w1).drew
 refine wp_region_noPanic ?_
 refine wp_region_z [] (fun (_ : World) => True) (by kernel_rfl) ?_
 have hHeld : (fun (_ : World) => True) w1.drew := trivial
 obtain ⟨u0, hu⟩ : ∃ u, u = w1.drew := ⟨_, rfl⟩
 rw [← hu] at hHeld hdrw
 rw [← hu]
 clear hu
 have HU := Lib.hid hdrw
 clear hdrw
 refine zt 0 ?_
 refine zt 2 ?_
 refine zt 3 ?_
 refine zt 4 ?_
 refine zr 1 (fun C hC => ?_)
 go_simp
 refine (HC.out.of u0 ad len cap ms 0 (HBA.out.keep HU.out) (by omega) HOK.out HRD.out (by decide) (by decide)).mono ?_
 rintro e u1 ⟨aa, Fa, rfl, hra, hfa, hb⟩
 rw [← HL.out] at hra
 have HRa1 := Lib.hid hra
 have HFa : Hid (∀ k, Fa k → w1.heap.size ≤ k) := fun k hk => Nat.le_trans HU.out.size (hfa k hk)
 replace HU := Lib.hid (HU.out.trans (hb.mono HU.out.size))
 have HS1 : Hid (∀ k, Fa k → k < u1.heap.size) := HC.out.lt _ _ _ _ hra
 clear hra hfa hb
 have hHeld : (fun (_ : World) => True) u1 := trivial
 refine zc hC hHeld ?_
 clear hC C
 refine zr 5 (fun C hC => ?_)
 go_simp
 refine (HC.out.of u1 ad k cap (ms.take k) 0 (abBats_take (HBA.out.keep HU.out) k hkl) (by omega) (by rw [HBT.out]; exact fun b hb => HOK.out b (List.mem_of_mem_take hb)) (by rw [HBT.out]; exact abRow_take HRD.out k) (by decide) (by decide)).mono ?_
 rintro e u2 ⟨ab, Fb, rfl, hrb, hfb, hb⟩
 rw [HBT.out, ← HM.out] at hrb
 have HRb := Lib.hid hrb
 have HRa := Lib.hid (HC.out.keep HRa1.out hb)
 have HFb : Hid (∀ k, Fb k → ¬ Fa k) := fun k hk h => by have := hfb k hk; have := HS1.out k h; omega
 replace HU := Lib.hid (HU.out.trans (hb.mono HU.out.size))
 clear hrb hfb hb HRa1 HS1
 have hHeld : (fun (_ : World) => True) u2 := trivial
 refine zc hC hHeld ?_
 clear hC C
 refine zt 6 ?_
 refine zt 7 ?_
 refine wpAnyZ_done (by kernel_rfl) ?_ _
 refine NoPanic.normal ?_
 clear hHeld
 have HBA1 := Lib.hid HBA.out
 have HW2 := Lib.hid HU.out
 have HB2 := Lib.hid (HB1.out.trans (HU.out.mono HB1.out.size))
 have HBA2 := Lib.hid (HBA.out.keep HU.out)
 have HFA : Hid (∀ k, Fa k → w1.heap.size ≤ k) := HFa.out
 clear HU HBA hsu
 go_wp2_with fail
 refine (HC.out.bytes Fa u2 aa l HRa.out HDO.out (Nat.le_trans HLL.out (by omega)) HPR.out).mono ?_
 rintro e w3 ⟨v, rfl, g, cg, rfl, hcg, hg, hpre, hb3⟩
 have hin := HDO.out.isIn HPR.out
 have hall : CrcMath.AllB (bytesA l) := CrcMath.sealB_all (bodyA_all hin (Nat.le_trans HLL.out (by omega)))
 have hlen2 : (bytesA l).length ≤ 1048600 := by
  unfold bytesA bodyA
  have h1 := (drsS_len hin).2
  have h2 := (encL (SnapMath.in_nat (n := l.length) (Nat.le_trans HLL.out (by omega)))).2
  have h3 := HLL.out
  rw [CrcMath.length_sealB, List.length_append]
  omega
 have his : IsAb (bytesA l) l := ⟨HDO.out, HPR.out, rfl⟩
 obtain ⟨q, hq⟩ : ∃ q, q = bytesA l := ⟨_, rfl⟩
 rw [← hq] at hpre hcg hall hlen2 his ⊢
 have hy := hpre.byt hall cg hcg
 obtain ⟨Lq, hLq⟩ : ∃ Lq, q.length = Lq := ⟨_, rfl⟩
 rw [hLq] at hy ⊢
 have HY := Lib.hid hy
 have HIS := Lib.hid his
 have HQL : Hid (q.length ≤ 1048600) := hlen2
 have HRa3 := Lib.hid (HC.out.keep HRa.out hb3)
 have HRb3 := Lib.hid (HC.out.keep HRb.out hb3)
 have HBA3 := Lib.hid (HBA2.out.keep hb3)
 have HB3 := Lib.hid (HB2.out.trans (hb3.mono HB2.out.size))
 have HW3 := Lib.hid (HW2.out.trans (hb3.mono HW2.out.size))
 clear hpre hcg hg hall hlen2 his hy hLq hq hb3 hin HRa HRb HBA2 HB2
 go_wp2_with fail
 refine (HC.out.read w3 (some ⟨g, 0, none⟩) Lq cg q HY.out HQL.out).mono ?_
 rintro e w4 ⟨hb4, hc⟩
 rcases hc with ⟨ax, lx, Fx, rfl, hx, hfx, hsx⟩ | ⟨rfl, hno⟩
 case inr => exact absurd HIS.out (hno _)
 have hone := IsAb.one hsx HIS.out HQL.out
 subst hone
 have HRx := Lib.hid hx
 have HFx : Hid (∀ k, Fx k → w3.heap.size ≤ k) := hfx
 have HRa4 := Lib.hid (HC.out.keep HRa3.out hb4)
 have HRb4 := Lib.hid (HC.out.keep HRb3.out hb4)
 have HBA4 := Lib.hid (HBA3.out.keep hb4)
 have HB4 := Lib.hid (HB3.out.trans (hb4.mono HB3.out.size))
 have HBW14 := Lib.hid (HW3.out.trans (hb4.mono HW3.out.size))
 have HSZ14 : Hid (w1.heap.size ≤ w4.heap.size) := HBW14.out.size
 clear HW2 HW3
 have HS3 : Hid (∀ k, Fa k → k < w3.heap.size) := HC.out.lt _ _ _ _ HRa3.out
 clear hx hfx hsx hb4 HRa3 HRb3 HBA3 HB3 HY HIS HQL
 by_cases hkn : k < len
 · have hd : decide (k < len) = true := decide_eq_true hkn
   obtain ⟨bk, off, mm, rfl, hbk, hmm, hrest, c0, _⟩ := HBA4.out.get hkn
   have HEND : Hid (cutD lx mm.b.base = m) := by
    show _ = _
    rw [← HBEG.out k mm.b (HGET.out k mm hmm), HM.out]
   obtain ⟨z, hz⟩ : ∃ z, z = mm.b.base := ⟨_, rfl⟩
   rw [← hz] at HEND c0
   have hk0 : (0 : Int) ≤ (k : Int) := by omega
   have hkk : (k : Int) < (len : Int) := by omega
   clear hmm hrest hbk hz
   go_wp2_with fail
   refine (HC.out.cut Fa w4 aa lx z HRa4.out HDO.out (Nat.le_trans HLL.out (by omega))).mono ?_
   rintro e w5 ⟨Fa', rfl, hra, hkp, hfn⟩
   rw [HEND.out] at hra
   have HRa5 := Lib.hid hra
   have HRb5 := Lib.hid (HC.out.kept Fb Fa w4 w5 ab m HRb4.out hkp HFb.out)
   have HRx5 := Lib.hid (HC.out.kept Fx Fa w4 w5 ax lx HRx.out hkp (fun k hk h => by have := HFx.out k hk; have := HS3.out k h; omega))
   have hbw : Below w1.heap.size w4 w5 := hkp.below HFA.out (Nat.le_trans HSZ14.out (Nat.le_refl _))
   have HBA5 := Lib.hid (HBA1.out.keep (HBW14.out.trans hbw))
   have HB5 := Lib.hid (HB4.out.trans (hbw.mono HB1.out.size))
   clear hra hkp hfn hbw HRa4 HRb4 HBA4 HB4 HRx HEND
   go_wp2_with fail
   refine (HC.out.all Fx w5 ax lx HRx5.out HDO.out (Nat.le_trans HLL.out (by omega))).mono ?_
   rintro e w6 ⟨qa, qn, qc, rfl, hq, hb6⟩
   have HQ6 := Lib.hid hq
   have HRa6 := Lib.hid (HC.out.keep HRa5.out hb6)
   have HRb6 := Lib.hid (HC.out.keep HRb5.out hb6)
   have HBA6 := Lib.hid (HBA5.out.keep hb6)
   have HB6 := Lib.hid (HB5.out.trans (hb6.mono HB5.out.size))
   clear hq hb6 HRa5 HRb5 HBA5 HB5 HRx5
   go_wp2_with fail
   refine (HC.out.of w6 _ len cap ms 0 HBA6.out (by omega) HOK.out HRD.out (by decide) (by decide)).mono ?_
   rintro e w7 ⟨ac, Fc, rfl, hrc, hfc, hb7⟩
   rw [← HL.out] at hrc
   have HRc7 := Lib.hid hrc
   have HQ7 := Lib.hid (HQ6.out.keep hb7)
   have HRa7 := Lib.hid (HC.out.keep HRa6.out hb7)
   have HRb7 := Lib.hid (HC.out.keep HRb6.out hb7)
   have HB7 := Lib.hid (HB6.out.trans (hb7.mono HB6.out.size))
   clear hrc hfc hb7 HQ6 HRa6 HRb6 HBA6 HB6
   go_wp2_with fail
   refine (HC.out.all Fc w7 ac lx HRc7.out HDO.out (Nat.le_trans HLL.out (by omega))).mono ?_
   rintro e w8 ⟨ra, rn, rcp, rfl, hr, hb8⟩
   have HR8 := Lib.hid hr
   have HQ8 := Lib.hid (HQ7.out.keep hb8)
   have HRa8 := Lib.hid (HC.out.keep HRa7.out hb8)
   have HRb8 := Lib.hid (HC.out.keep HRb7.out hb8)
   have HB8 := Lib.hid (HB7.out.trans (hb8.mono HB7.out.size))
   clear hr hb8 HQ7 HRa7 HRb7 HB7 HRc7
   go_wp2_with fail
   refine (drSame2_any w8 qa ra qn rn qc rcp lx HQ8.out HR8.out (Nat.le_trans HLL.out (by omega))).mono ?_
   rintro e w9 ⟨rfl, hb9⟩
   have HRa9 := Lib.hid (HC.out.keep HRa8.out hb9)
   have HRb9 := Lib.hid (HC.out.keep HRb8.out hb9)
   have HB9 := Lib.hid (HB8.out.trans (hb9.mono HB8.out.size))
   clear hb9 HQ8 HR8 HRa8 HRb8 HB8
   go_wp2_with fail
   refine (HC.out.all Fa' w9 aa m HRa9.out HMO.out (Nat.le_trans HML.out (by omega))).mono ?_
   rintro e wa ⟨sa, sn, sc, rfl, hs, hba⟩
   have HSa := Lib.hid hs
   have HRba := Lib.hid (HC.out.keep HRb9.out hba)
   have HBa := Lib.hid (HB9.out.trans (hba.mono HB9.out.size))
   clear hs hba HRa9 HRb9 HB9
   go_wp2_with fail
   refine (HC.out.all Fb wa ab m HRba.out HMO.out (Nat.le_trans HML.out (by omega))).mono ?_
   rintro e wb ⟨xa, xn, xc, rfl, hx, hbb⟩
   have HXb := Lib.hid hx
   have HSb := Lib.hid (HSa.out.keep hbb)
   have HBb := Lib.hid (HBa.out.trans (hbb.mono HBa.out.size))
   clear hx hbb HSa HRba HBa
   go_wp2_with fail
   refine (drSame2_any wb sa xa sn xn sc xc m HSb.out HXb.out (Nat.le_trans HML.out (by omega))).mono ?_
   rintro e wc ⟨rfl, hbc⟩
   have HBc := Lib.hid (HBb.out.trans (hbc.mono HBb.out.size))
   clear hbc HSb HXb HBb
   go_wp2_with fail
   refine (HK.out wc).mono ?_
   rintro e wd ⟨rfl, hbd⟩
   have HBd := Lib.hid (HBc.out.trans (hbd.mono HBc.out.size))
   clear hbd HBc
   go_wp2
   go_ret
   exact ⟨rfl, HBd.out⟩
 · have hd : decide (k < len) = false := decide_eq_false hkn
   obtain ⟨z, hz⟩ : ∃ z : Int, z = 1099511627776 := ⟨_, rfl⟩
   have HEND : Hid (cutD lx z = m) := by
    show _ = _
    have hke : k = len := by omega
    rw [hz, HALLC.out, HM.out, hke, ← HBL.out, List.take_length, HL.out]
   have HZ := Lib.hid hz
   clear hz
   have HZZ : Hid (∀ (P : Int → Prop), P z → P 1099511627776) := fun P h => by rw [HZ.out] at h; exact h
   go_wp2_with fail
   refine (HC.out.cut Fa w4 aa lx 1099511627776 HRa4.out HDO.out (Nat.le_trans HLL.out (by omega))).mono ?_
   rintro e w5 ⟨Fa', rfl, hra, hkp, hfn⟩
   rw [show (1099511627776 : Int) = z from HZ.out.symm] at hra
   rw [HEND.out] at hra
   have HRa5 := Lib.hid hra
   have HRb5 := Lib.hid (HC.out.kept Fb Fa w4 w5 ab m HRb4.out hkp HFb.out)
   have HRx5 := Lib.hid (HC.out.kept Fx Fa w4 w5 ax lx HRx.out hkp (fun k hk h => by have := HFx.out k hk; have := HS3.out k h; omega))
   have hbw : Below w1.heap.size w4 w5 := hkp.below HFA.out (Nat.le_trans HSZ14.out (Nat.le_refl _))
   have HBA5 := Lib.hid (HBA1.out.keep (HBW14.out.trans hbw))
   have HB5 := Lib.hid (HB4.out.trans (hbw.mono HB1.out.size))
   clear hra hkp hfn hbw HRa4 HRb4 HBA4 HB4 HRx HEND
   go_wp2_with fail
   refine (HC.out.all Fx w5 ax lx HRx5.out HDO.out (Nat.le_trans HLL.out (by omega))).mono ?_
   rintro e w6 ⟨qa, qn, qc, rfl, hq, hb6⟩
   have HQ6 := Lib.hid hq
   have HRa6 := Lib.hid (HC.out.keep HRa5.out hb6)
   have HRb6 := Lib.hid (HC.out.keep HRb5.out hb6)
   have HBA6 := Lib.hid (HBA5.out.keep hb6)
   have HB6 := Lib.hid (HB5.out.trans (hb6.mono HB5.out.size))
   clear hq hb6 HRa5 HRb5 HBA5 HB5 HRx5
   go_wp2_with fail
   refine (HC.out.of w6 _ len cap ms 0 HBA6.out (by omega) HOK.out HRD.out (by decide) (by decide)).mono ?_
   rintro e w7 ⟨ac, Fc, rfl, hrc, hfc, hb7⟩
   rw [← HL.out] at hrc
   have HRc7 := Lib.hid hrc
   have HQ7 := Lib.hid (HQ6.out.keep hb7)
   have HRa7 := Lib.hid (HC.out.keep HRa6.out hb7)
   have HRb7 := Lib.hid (HC.out.keep HRb6.out hb7)
   have HB7 := Lib.hid (HB6.out.trans (hb7.mono HB6.out.size))
   clear hrc hfc hb7 HQ6 HRa6 HRb6 HBA6 HB6
   go_wp2_with fail
   refine (HC.out.all Fc w7 ac lx HRc7.out HDO.out (Nat.le_trans HLL.out (by omega))).mono ?_
   rintro e w8 ⟨ra, rn, rcp, rfl, hr, hb8⟩
   have HR8 := Lib.hid hr
   have HQ8 := Lib.hid (HQ7.out.keep hb8)
   have HRa8 := Lib.hid (HC.out.keep HRa7.out hb8)
   have HRb8 := Lib.hid (HC.out.keep HRb7.out hb8)
   have HB8 := Lib.hid (HB7.out.trans (hb8.mono HB7.out.size))
   clear hr hb8 HQ7 HRa7 HRb7 HB7 HRc7
   go_wp2_with fail
   refine (drSame2_any w8 qa ra qn rn qc rcp lx HQ8.out HR8.out (Nat.le_trans HLL.out (by omega))).mono ?_
   rintro e w9 ⟨rfl, hb9⟩
   have HRa9 := Lib.hid (HC.out.keep HRa8.out hb9)
   have HRb9 := Lib.hid (HC.out.keep HRb8.out hb9)
   have HB9 := Lib.hid (HB8.out.trans (hb9.mono HB8.out.size))
   clear hb9 HQ8 HR8 HRa8 HRb8 HB8
   go_wp2_with fail
   refine (HC.out.all Fa' w9 aa m HRa9.out HMO.out (Nat.le_trans HML.out (by omega))).mono ?_
   rintro e wa ⟨sa, sn, sc, rfl, hs, hba⟩
   have HSa := Lib.hid hs
   have HRba := Lib.hid (HC.out.keep HRb9.out hba)
   have HBa := Lib.hid (HB9.out.trans (hba.mono HB9.out.size))
   clear hs hba HRa9 HRb9 HB9
   go_wp2_with fail
   refine (HC.out.all Fb wa ab m HRba.out HMO.out (Nat.le_trans HML.out (by omega))).mono ?_
   rintro e wb ⟨xa, xn, xc, rfl, hx, hbb⟩
   have HXb := Lib.hid hx
   have HSb := Lib.hid (HSa.out.keep hbb)
   have HBb := Lib.hid (HBa.out.trans (hbb.mono HBa.out.size))
   clear hx hbb HSa HRba HBa
   go_wp2_with fail
   refine (drSame2_any wb sa xa sn xn sc xc m HSb.out HXb.out (Nat.le_trans HML.out (by omega))).mono ?_
   rintro e wc ⟨rfl, hbc⟩
   have HBc := Lib.hid (HBb.out.trans (hbc.mono HBb.out.size))
   clear hbc HSb HXb HBb
   go_wp2_with fail
   refine (HK.out wc).mono ?_
   rintro e wd ⟨rfl, hbd⟩
   have HBd := Lib.hid (HBc.out.trans (hbd.mono HBc.out.size))
   clear hbd HBc
   go_wp2
   go_ret
   exact ⟨rfl, HBd.out⟩
end Go.Proofs.Ytbejincejbnbaaa
