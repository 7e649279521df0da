/- Parts of a proof, merged: FoSame, FoStep, FoBlk, Masks, FoTells, OpenK. -/
import Derived.WalkKit
import Derived.IntWalk
import Derived.Laws.BitsAllLaws
import Derived.Deep.Slices
import Derived.Deep.Fields
import Derived.ChangeSame
import Derived.SizedLaws
import Derived.ProofKit
import Derived.Test.YtipaebflkebdjaaKa13
import Derived.Test.YtipaebflkebdjaaKa3
import Derived.Test.YtipaebflkebdjaaKa1
import Derived.Test.YtipaebflkebdjaaKa7
import Derived.Test.YtipaebflkebdjaaKa10
import Derived.Test.YtipaebflkebdjaaKa2
namespace Go.Proofs.Ytipaebflkebdjaa
open Go.RowKit
open Go.FoMath
open Go.AbMath (withinD)
open Go.ProdMath
open Go.BatMath hiding AllB getD_lt take_all
set_option linter.unusedVariables false

theorem fetch_len {W : World} {start : Int} {ad : Option Addr} {len cap : Nat} {ms : List BM} (h : FoBats W start ad len cap ms) (o n : Int) (only : Bool) : (fetchD start (bats ms) o n only).1.recs.length ≤ 80000 ∧ (fetchD start (bats ms) o n only).1.drs.length ≤ 5000 := by
 have hb : (bats ms).length = len := by unfold bats; rw [List.length_map]; exact h.at_.row.length
 have hf := h.few
 have h1 : ∀ z, (recordsD (bats ms) o z).length ≤ 80000 := fun z => by
  have := recordsD_few (a := o) (z := z) (l := bats ms) (fun b hb => (h.foRow.few b hb).2.2)
  omega
 unfold fetchD
 split
 · exact ⟨Nat.zero_le _, Nat.zero_le _⟩
 · split
   · exact ⟨Nat.zero_le _, Nat.zero_le _⟩
   · refine ⟨?_, ?_⟩
     · show (List.take _ _).length ≤ _
       rw [List.length_take]
       have := h1 (if only = true then stableD start (bats ms) else endD start (bats ms))
       omega
     · show (if only = true then withinD (foldR [] (bats ms)) o _ else []).length ≤ _
       split
       · have h2 := AbMath.drops_len (bats ms) []
         refine Nat.le_trans (List.length_filter_le _ _) ?_
         (try simp only [List.length_nil] at h2)
         omega
       · exact Nat.zero_le _
set_option maxRecDepth 100000 in
set_option maxHeartbeats 8000000 in
theorem foAll_any (C : FoCode) (w : World) (start : Int) (ad : Option Addr) (len cap : Nat) (ms : List BM) (h : FoBats w start ad len cap ms) :
 Calls Try.prog 10 #[.int .i64 start, .slice ad len cap] w (GivesBool w true) := by
 have HC := Lib.hid C
 have H := Lib.hid h
 obtain ⟨en, hen⟩ : ∃ x, x = endD start (bats ms) := ⟨_, rfl⟩
 obtain ⟨st, hst⟩ : ∃ x, x = stableD start (bats ms) := ⟨_, rfl⟩
 have HEN := Lib.hid hen
 have HST := Lib.hid hst
 have hee : (en == en) = true := beq_self_eq_true en
 have hss : (st == st) = true := beq_self_eq_true st
 have HCF : Hid ((committedD start (bats ms)).length ≤ 1000000) := Nat.le_trans (comm_few h) (by decide)
 clear C h hen hst
 go_enter Try.func10, Try.ntmps10
 go_wp2_with fail
 refine (HC.out.end_ w start ad len cap ms H.out).mono ?_
 rintro e w1 ⟨rfl, hb⟩
 rw [← HEN.out]
 have HB1 := Lib.hid hb
 have H1 := Lib.hid (H.out.keep hb)
 clear hb
 go_wp2_with fail
 refine (refEnd_any w1 start ad len cap ms H1.out.at_ (Nat.le_trans H1.out.few (by decide)) H1.out.foRow.ok _ HEN.out.symm).mono ?_
 rintro e w2 ⟨rfl, hb⟩
 have HB2 := Lib.hid (HB1.out.trans (hb.mono HB1.out.size))
 have H2 := Lib.hid (H1.out.keep hb)
 clear hb H1 HB1
 go_wp2_with fail
 refine (HC.out.stable w2 start ad len cap ms H2.out).mono ?_
 rintro e w3 ⟨rfl, hb⟩
 rw [← HST.out]
 have HB3 := Lib.hid (HB2.out.trans (hb.mono HB2.out.size))
 have H3 := Lib.hid (H2.out.keep hb)
 clear hb H2 HB2
 go_wp2_with fail
 refine (refStable_any w3 start ad len cap ms H3.out.at_ H3.out.few H3.out.foRow).mono ?_
 rintro e w4 ⟨rfl, hb⟩
 rw [← HST.out]
 have HB4 := Lib.hid (HB3.out.trans (hb.mono HB3.out.size))
 have H4 := Lib.hid (H3.out.keep hb)
 clear hb H3 HB3
 go_wp2_with fail
 refine (HC.out.committed w4 start ad len cap ms H4.out).mono ?_
 rintro e w5 ⟨qa, qn, qc, rfl, hq, -, hb⟩
 have HQ := Lib.hid hq
 have HB5 := Lib.hid (HB4.out.trans (hb.mono HB4.out.size))
 have H5 := Lib.hid (H4.out.keep hb)
 clear hb hq H4 HB4
 go_wp2_with fail
 refine (refCommitted_any w5 start ad len cap ms H5.out.at_ H5.out.few H5.out.foRow).mono ?_
 rintro e w6 ⟨ra, rn, rc, rfl, hr, -, hb⟩
 have HR := Lib.hid hr
 have HQ6 := Lib.hid (HQ.out.keep hb)
 have HB6 := Lib.hid (HB5.out.trans (hb.mono HB5.out.size))
 clear hb hr HQ H5 HB5
 go_wp2_with fail
 refine (refGots_any w6 qa ra qn rn qc rc _ HQ6.out HR.out HCF.out).mono ?_
 rintro e w7 ⟨rfl, hb⟩
 have HB7 := Lib.hid (HB6.out.trans (hb.mono HB6.out.size))
 clear hb
 go_wp2
 go_ret
 exact ⟨rfl, HB7.out⟩
set_option maxRecDepth 100000 in
set_option maxHeartbeats 8000000 in
theorem foSame_any (C : FoCode) (w : World) (start : Int) (ad : Option Addr) (len cap : Nat) (ms : List BM) (h : FoBats w start ad len cap ms) (o n : Int) (only : Bool) :
 Calls Try.prog 12 #[.int .i64 start, .slice ad len cap, .int .i64 o, .int .i64 n, .bool only] w (GivesBool w true) := by
 have HC := Lib.hid C
 have H := Lib.hid h
 have HLEN := Lib.hid (fetch_len h o n only)
 obtain ⟨⟨⟨rs, ds, nx, st⟩, er⟩, hr0⟩ : ∃ r, fetchD start (bats ms) o n only = r := ⟨_, rfl⟩
 have HR0 := Lib.hid hr0
 rw [hr0] at HLEN
 simp only at HLEN
 obtain ⟨z, hz⟩ : ∃ z, IntKind.i64.wrap (o + n) = z := ⟨_, rfl⟩
 have HREC : Hid ((recordsD (bats ms) o z).length ≤ 1000000) := by
  show _ ≤ _
  have h1 := recordsD_few (a := o) (z := z) (l := bats ms) (fun b hb => (h.foRow.few b hb).2.2)
  have hb : (bats ms).length = len := by unfold bats; rw [List.length_map]; exact h.at_.row.length
  have hf := h.few
  omega
 have HDEL : Hid ((deliverD rs ds).length ≤ 1000000) := by
  show _ ≤ _
  unfold deliverD
  have h1 := List.length_filter_le (fun g => !(ds.any (hitB g))) rs
  have := HLEN.out.1
  omega
 have hee : (er == er) = true := beq_self_eq_true er
 clear C h hr0
 go_enter Try.func12, Try.ntmps12
 go_wp2_with fail
 refine (HC.out.fetch w start ad len cap ms o n only H.out).mono ?_
 rintro e w1 ⟨va, rfl, hfa, hb⟩
 rw [HR0.out] at hfa ⊢
 obtain ⟨ra, rn, rc, da, dn, dc, rfl, hra, hda⟩ := hfa
 simp only at hra hda ⊢
 have HB1 := Lib.hid hb
 have H1 := Lib.hid (H.out.keep hb)
 have HF1 : Hid (FdAt w1 (.agg #[.slice ra rn rc, .slice da dn dc, .int .i64 nx, .int .i64 st]) ⟨rs, ds, nx, st⟩) := ⟨_, _, _, _, _, _, rfl, hra, hda⟩
 clear hb hra hda
 go_upto_region 2 with fail
 obtain ⟨W2, hW2⟩ : ∃ y, y = w1.alloc (.cells #[.slice ra rn rc, .slice da dn dc, .int .i64 nx, .int .i64 st] 34) := ⟨_, rfl⟩
 obtain ⟨P, hP⟩ : ∃ y, y = w1.heap.size := ⟨_, rfl⟩
 have hb2 : Below w1.heap.size w1 W2 := by rw [hW2]; exact (Below.refl _ _).alloc (Nat.le_refl _) _
 have HP2 : Hid (FBox W2 P (.slice ra rn rc) (.slice da dn dc) nx st) := by show FBox _ _ _ _ _ _; rw [hW2, hP]; exact fbox_new w1 _ _ _ _
 have HF2 := Lib.hid (HF1.out.keep hb2)
 have HB2 := Lib.hid (HB1.out.trans (hb2.mono HB1.out.size))
 have H2 := Lib.hid (H1.out.keep hb2)
 (try rw [← hW2, ← hP])
 clear hW2 hP hb2 HF1 HB1 H1
 go_wp2_with fail
 refine (refFetch_any W2 start ad len cap ms H2.out.at_ H2.out.few H2.out.foRow o n only).mono ?_
 rintro e w3 ⟨vb, rfl, hfb, hb⟩
 rw [HR0.out] at hfb ⊢
 obtain ⟨qa, qn, qc, ea, en, ec, rfl, hqa, hea⟩ := hfb
 simp only at hqa hea ⊢
 have HP3 := Lib.hid (HP2.out.on hb)
 have HF3 := Lib.hid (HF2.out.keep hb)
 have HG3 : Hid (FdAt w3 (.agg #[.slice qa qn qc, .slice ea en ec, .int .i64 nx, .int .i64 st]) ⟨rs, ds, nx, st⟩) := ⟨_, _, _, _, _, _, rfl, hqa, hea⟩
 have HB3 := Lib.hid (HB2.out.trans (hb.mono HB2.out.size))
 have H3 := Lib.hid (H2.out.keep hb)
 clear hb hqa hea HP2 HF2 HB2 H2
 go_upto_region 3 with fail
 obtain ⟨W4, hW4⟩ : ∃ y, y = w3.alloc (.cells #[.slice qa qn qc, .slice ea en ec, .int .i64 nx, .int .i64 st] 34) := ⟨_, rfl⟩
 obtain ⟨Q, hQ⟩ : ∃ y, y = w3.heap.size := ⟨_, rfl⟩
 have hb4 : Below w3.heap.size w3 W4 := by rw [hW4]; exact (Below.refl _ _).alloc (Nat.le_refl _) _
 have HQ4 : Hid (FBox W4 Q (.slice qa qn qc) (.slice ea en ec) nx st) := by show FBox _ _ _ _ _ _; rw [hW4, hQ]; exact fbox_new w3 _ _ _ _
 have HP4 := Lib.hid (HP3.out.on hb4)
 have HF4 := Lib.hid (HF3.out.keep hb4)
 have HG4 := Lib.hid (HG3.out.keep hb4)
 have HB4 := Lib.hid (HB3.out.trans (hb4.mono HB3.out.size))
 have H4 := Lib.hid (H3.out.keep hb4)
 (try rw [← hW4, ← hQ])
 clear hW4 hQ hb4 HF3 HG3 HB3 H3 HP3
 have KS : Hid (∀ V, Below W4.heap.size W4 V → (fun (V : World) => V.cell? ⟨P, 0, none⟩ = some (.slice ra rn rc) ∧ V.cell? ⟨P, 1, none⟩ = some (.slice da dn dc) ∧ V.cell? ⟨P, 2, none⟩ = some (.int .i64 nx) ∧ V.cell? ⟨P, 3, none⟩ = some (.int .i64 st) ∧ V.cell? ⟨Q, 0, none⟩ = some (.slice qa qn qc) ∧ V.cell? ⟨Q, 1, none⟩ = some (.slice ea en ec) ∧ V.cell? ⟨Q, 2, none⟩ = some (.int .i64 nx) ∧ V.cell? ⟨Q, 3, none⟩ = some (.int .i64 st)) V) := fun V hV => ⟨(HP4.out.on hV).c0, (HP4.out.on hV).c1, (HP4.out.on hV).c2, (HP4.out.on hV).c3, (HQ4.out.on hV).c0, (HQ4.out.on hV).c1, (HQ4.out.on hV).c2, (HQ4.out.on hV).c3⟩
 have hdrw : Below W4.heap.size W4 W4.drew := (Below.refl _ W4).drew
 refine wp_region_noPanic ?_
 refine wp_region_z [] (fun (V : World) => V.cell? ⟨P, 0, none⟩ = some (.slice ra rn rc) ∧ V.cell? ⟨P, 1, none⟩ = some (.slice da dn dc) ∧ V.cell? ⟨P, 2, none⟩ = some (.int .i64 nx) ∧ V.cell? ⟨P, 3, none⟩ = some (.int .i64 st) ∧ V.cell? ⟨Q, 0, none⟩ = some (.slice qa qn qc) ∧ V.cell? ⟨Q, 1, none⟩ = some (.slice ea en ec) ∧ V.cell? ⟨Q, 2, none⟩ = some (.int .i64 nx) ∧ V.cell? ⟨Q, 3, none⟩ = some (.int .i64 st)) (by kernel_rfl) ?_
 have hHeld := KS.out _ hdrw
 obtain ⟨u0, hu⟩ : ∃ u, u = W4.drew := ⟨_, rfl⟩
 rw [← hu] at hHeld hdrw
 rw [← hu]
 clear hu
 have HU := Lib.hid hdrw
 clear hdrw
 refine zt 0 ?_
 refine zt 1 ?_
 refine zt 2 ?_
 refine zt 3 ?_
 refine zt 4 ?_
 refine zt 5 ?_
 refine zr 6 (fun C hC => ?_)
 go_simp
 refine (refFetches_any u0 ⟨rs, ds, nx, st⟩ _ _ (HF4.out.keep HU.out) (HG4.out.keep HU.out) (Nat.le_trans HLEN.out.1 (by decide)) (Nat.le_trans HLEN.out.2 (by decide))).mono ?_
 rintro e u1 ⟨rfl, hb⟩
 replace HU := Lib.hid (HU.out.trans (hb.mono HU.out.size))
 clear hb
 have hHeld := KS.out _ HU.out
 refine zc hC hHeld ?_
 clear hC C
 refine zt 7 ?_
 refine zt 8 ?_
 refine zt 9 ?_
 refine zt 11 ?_
 refine zr 10 (fun C hC => ?_)
 go_simp
 refine (HC.out.deliver u1 _ ⟨rs, ds, nx, st⟩ (HF4.out.keep HU.out) (Nat.le_trans HLEN.out.1 (by decide)) (Nat.le_trans HLEN.out.2 (by decide))).mono ?_
 rintro e u2 ⟨ja, jn, jc, rfl, hj, -, hb⟩
 have HJ := Lib.hid hj
 clear hj
 replace HU := Lib.hid (HU.out.trans (hb.mono HU.out.size))
 clear hb
 have hHeld := KS.out _ HU.out
 refine zc hC hHeld ?_
 clear hC C
 refine zr 12 (fun C hC => ?_)
 go_simp
 refine (refDeliver_any u2 ⟨rs, ds, nx, st⟩ _ (HG4.out.keep HU.out) (Nat.le_trans HLEN.out.1 (by decide)) (Nat.le_trans HLEN.out.2 (by decide))).mono ?_
 rintro e u3 ⟨ka, kn, kc, rfl, hk, -, hb⟩
 have HKK := Lib.hid hk
 replace HJ := Lib.hid (HJ.out.keep hb)
 clear hk
 replace HU := Lib.hid (HU.out.trans (hb.mono HU.out.size))
 clear hb
 have hHeld := KS.out _ HU.out
 refine zc hC hHeld ?_
 clear hC C
 refine zr 13 (fun C hC => ?_)
 go_simp
 refine (refGots_any u3 ja ka jn kn jc kc _ HJ.out HKK.out HDEL.out).mono ?_
 rintro e u4 ⟨rfl, hb⟩
 clear HJ HKK
 replace HU := Lib.hid (HU.out.trans (hb.mono HU.out.size))
 clear hb
 have hHeld := KS.out _ HU.out
 refine zc hC hHeld ?_
 clear hC C
 refine zt 14 ?_
 refine zt 15 ?_
 refine zt 16 ?_
 refine zt 17 ?_
 refine zt 18 ?_
 refine zt 19 ?_
 refine zt 20 ?_
 refine zt 21 ?_
 refine zt 23 ?_
 refine zt 24 ?_
 refine zt 25 ?_
 refine zt 26 ?_
 refine zt 27 ?_
 refine zr 22 (fun C hC => ?_)
 go_simp
 refine (HC.out.records u4 start ad len cap ms o z (H4.out.keep HU.out)).mono ?_
 rintro e u5 ⟨la, ln, lc, rfl, hl, -, hb⟩
 have HL := Lib.hid hl
 clear hl
 replace HU := Lib.hid (HU.out.trans (hb.mono HU.out.size))
 clear hb
 have hHeld := KS.out _ HU.out
 refine zc hC hHeld ?_
 clear hC C
 refine zr 28 (fun C hC => ?_)
 go_simp
 refine (refRecords_any u5 ad len cap ms (H4.out.keep HU.out).at_ H4.out.few H4.out.foRow.few o z).mono ?_
 rintro e u6 ⟨pa, pn, pc, rfl, hp, -, hb⟩
 have HPP := Lib.hid hp
 replace HL := Lib.hid (HL.out.keep hb)
 clear hp
 replace HU := Lib.hid (HU.out.trans (hb.mono HU.out.size))
 clear hb
 have hHeld := KS.out _ HU.out
 refine zc hC hHeld ?_
 clear hC C
 refine zr 29 (fun C hC => ?_)
 go_simp
 refine (refGots_any u6 la pa ln pn lc pc _ HL.out HPP.out HREC.out).mono ?_
 rintro e u7 ⟨rfl, hb⟩
 clear HL HPP
 replace HU := Lib.hid (HU.out.trans (hb.mono HU.out.size))
 clear hb
 have hHeld := KS.out _ HU.out
 refine zc hC hHeld ?_
 clear hC C
 refine zt 30 ?_
 refine zt 31 ?_
 refine wpAnyZ_done (by kernel_rfl) ?_ _
 refine NoPanic.normal ?_
 clear hHeld KS
 have HBE := Lib.hid (HB4.out.trans (HU.out.mono HB4.out.size))
 clear HU
 go_wp2
 go_ret
 exact ⟨rfl, HBE.out⟩
end Go.Proofs.Ytipaebflkebdjaa
namespace Go.FoMath
open Go.ProdMath
open Go.SnapMath
open Go.BatMath
set_option linter.unusedVariables false

theorem right_recs {b : Bat} (h : rightE b = 0) : b.recs.length ≤ 16 := by
 unfold rightE at h
 split at h
 · omega
 · split at h
   · split at h
     · rename_i h4; rw [h4.2.2.2.2]; exact Nat.zero_le _
     · omega
   · split at h
     · split at h
       · omega
       · rename_i h4
         rw [not_or] at h4
         omega
     · omega
theorem right_count2 {b : Bat} (h : rightE b = 0) : countD b ≤ 16 := by
 have := right_recs h
 unfold countD
 split <;> omega
theorem row_end {start : Int} {bs : List Bat} (h : RowD start bs) : endD start bs ≤ start + 16 * bs.length := by
 induction h with
 | nil => show start ≤ start + 16 * ((0 : Nat) : Int); omega
 | @snoc l b h2 hb hw hr hc he ih =>
   have e : endD start (l ++ [b]) = endD start l + countD b := by rw [end_last (b := b) (by simp), hb]
   have h3 := right_count2 (tcheck_right hr)
   rw [e, List.length_append, List.length_singleton]
   omega
theorem row_marker {bs : List Bat} (h : RowD 0 bs) {p : Pd} (hp : p ∈ foldP [] bs) (hop : 0 ≤ p.opn) {mk : Int} (hmk : mk = 1 ∨ mk = 2) (he : endD 0 bs + 1 ≤ 1099511627776) : RowD 0 (bs ++ [⟨endD 0 bs, p.id, p.epoch, -1, true, mk, []⟩]) := by
 have hacc := row_acc h (by decide) (by decide)
 have hr := hacc.right p hp
 have hid := hacc.ids p hp
 obtain ⟨⟨r1, r2, r3, r4, r5, r6⟩, _⟩ := hr
 have h0 := (row_chain h (by decide)).2
 have hre : rightE ⟨endD 0 bs, p.id, p.epoch, -1, true, mk, []⟩ = 0 := by
  unfold rightE
  rw [if_neg (by simp only; omega), if_pos (by simp only; omega), if_pos]
  refine ⟨hmk, ?_, rfl, rfl, rfl⟩
  unfold headB
  simp only [Bool.and_eq_true, decide_eq_true_eq]
  omega
 have hk := has_look hacc.asc p.id
 rw [look_mem hacc.asc hp] at hk
 have hc : tcheckD (foldP [] bs) ⟨endD 0 bs, p.id, p.epoch, -1, true, mk, []⟩ = (-1, 0) := by
  unfold tcheckD
  rw [if_neg (by rw [hre]; decide), if_neg (by simp only; omega)]
  simp only [hk.1, hk.2]
  unfold checkD
  rw [if_pos (by simp only; omega)]
  simp only [Option.isSome_some, Option.getD_some]
  rw [if_neg (by decide), if_neg (by omega), if_neg (by omega)]
 refine RowD.snoc h rfl ⟨⟨by simp only; omega, by simp only; omega⟩, hid, ⟨by simp only; omega, by simp only; omega⟩, ⟨by simp only; omega, by simp only; omega⟩, ⟨by simp only; omega, by simp only; omega⟩⟩ (by rw [hc]) (by rw [hc]; simp only; decide) ?_
 have : countD ⟨endD 0 bs, p.id, p.epoch, -1, true, mk, []⟩ = 1 := by
  unfold countD
  rw [if_pos (by simp only; omega)]
 rw [this]
 exact he
end Go.FoMath
namespace Go.Proofs.Ytipaebflkebdjaa
open Go.RowKit
open Go.FoMath
open Go.ProdMath
open Go.BatMath hiding AllB getD_lt take_all In64
set_option linter.unusedVariables false

/-- A row whose elements can't lie in a block stays where that block turns. -/
theorem row_off_blk {α : Type} {K : Kind α} {w : World} {P i : Nat} {z : Value} {ad : Option Addr} {len cap : Nat} {l : List α} (h : RowAt K w ad len cap l) (hno : ∀ x off, ∃ j u, (K.enc x)[j]? = some u ∧ w.cell? ⟨P, off + j, none⟩ ≠ some u) : RowAt K (w.setCell ⟨P, i, none⟩ z) ad len cap l := by
 refine ⟨h.length, h.fits, h.room, ?_⟩
 rcases h.cells with h0 | ⟨b, off, e, hlt, hc⟩
 · exact .inl h0
 · rcases Nat.eq_zero_or_pos len with h0 | h0
   · exact .inl h0
   · have hb : b ≠ P := fun hbp => by
      obtain ⟨x, hx⟩ : ∃ x, l[0]? = some x := ⟨_, List.getElem?_eq_getElem (by rw [h.length]; exact h0)⟩
      obtain ⟨j, u, hj, hn⟩ := hno x (off + 0 * K.size)
      refine hn ?_
      rw [Nat.add_assoc, ← hbp]
      exact hc 0 x hx j u hj
     refine .inr ⟨b, off, e, by simpa using hlt, fun k x hk j u hj => ?_⟩
     have h1 := hc k x hk j u hj
     have e1 := box_off (i := i) (u := z) (w := w) (k := b) (j := P) (o := _) (Array.getElem?_eq_getElem hlt) (fun e => hb e.symm)
     unfold World.cell? at h1 ⊢
     rw [Array.getElem?_eq_getElem hlt] at h1
     simp only [e1]
     exact h1
theorem fbox_cell {w : World} {P : Nat} {a0 a1 : Option Addr} {n0 c0 n1 c1 : Nat} {x2 x3 : Int} (hf : FBox w P (.slice a0 n0 c0) (.slice a1 n1 c1) x2 x3) (i : Nat) : w.cell? ⟨P, i, none⟩ = none ∨ (∃ a n c, w.cell? ⟨P, i, none⟩ = some (.slice a n c)) ∨ ∃ k x, w.cell? ⟨P, i, none⟩ = some (.int k x) := by
 rw [cell_of_row _ _ i _ _ _ hf]
 match i with
 | 0 => exact .inr (.inl ⟨_, _, _, rfl⟩)
 | 1 => exact .inr (.inl ⟨_, _, _, rfl⟩)
 | 2 => exact .inr (.inr ⟨_, _, rfl⟩)
 | 3 => exact .inr (.inr ⟨_, _, rfl⟩)
 | i + 4 => exact .inl rfl
theorem fbox_str {w : World} {P : Nat} {a0 a1 : Option Addr} {n0 c0 n1 c1 : Nat} {x2 x3 : Int} (hf : FBox w P (.slice a0 n0 c0) (.slice a1 n1 c1) x2 x3) (i : Nat) (s : ByteArray) : w.cell? ⟨P, i, none⟩ ≠ some (.string s) := fun e => by
 rcases fbox_cell hf i with h | ⟨a, n, c, h⟩ | ⟨k, x, h⟩ <;> rw [e] at h <;> cases h
theorem fbox_bool {w : World} {P : Nat} {a0 a1 : Option Addr} {n0 c0 n1 c1 : Nat} {x2 x3 : Int} (hf : FBox w P (.slice a0 n0 c0) (.slice a1 n1 c1) x2 x3) (i : Nat) (b : Bool) : w.cell? ⟨P, i, none⟩ ≠ some (.bool b) := fun e => by
 rcases fbox_cell hf i with h | ⟨a, n, c, h⟩ | ⟨k, x, h⟩ <;> rw [e] at h <;> cases h
end Go.Proofs.Ytipaebflkebdjaa
namespace Go.Proofs.Ytipaebflkebdjaa
open Go.RowKit

theorem mask4 (a : Int) : bits .and .i64 a 15 = a % 16 := by
 have h1 : (BitVec.ofInt 64 15).toNat = 2 ^ 4 - 1 := by decide
 have key : (BitVec.ofInt 64 a &&& BitVec.ofInt 64 15).toNat = (a % ((2 ^ 64 : Nat) : Int)).toNat % 2 ^ 4 := by
  rw [BitVec.toNat_and, BitVec.toNat_ofInt, h1, Nat.and_two_pow_sub_one_eq_mod]
 show IntKind.i64.wrap ((BitVec.ofInt 64 a &&& BitVec.ofInt 64 15).toNat : Nat) = _
 rw [key, IntKind.wrap_i64]
 omega
theorem mask16 (a : Int) : bits .and .i64 a 65535 = a % 65536 := by
 have h1 : (BitVec.ofInt 64 65535).toNat = 2 ^ 16 - 1 := by decide
 have key : (BitVec.ofInt 64 a &&& BitVec.ofInt 64 65535).toNat = (a % ((2 ^ 64 : Nat) : Int)).toNat % 2 ^ 16 := by
  rw [BitVec.toNat_and, BitVec.toNat_ofInt, h1, Nat.and_two_pow_sub_one_eq_mod]
 show IntKind.i64.wrap ((BitVec.ofInt 64 a &&& BitVec.ofInt 64 65535).toNat : Nat) = _
 rw [key, IntKind.wrap_i64]
 omega
end Go.Proofs.Ytipaebflkebdjaa
namespace Go.Proofs.Ytipaebflkebdjaa
open Go.RowKit
open Go.FoMath
open Go.ProdMath
open Go.BatMath hiding AllB getD_lt take_all In64
set_option linter.unusedVariables false

/-- A row from any start on. -/
theorem foRowAt_any (w : World) (tad : Option Addr) (tlen tcap : Nat) (zs : List Int) (h : Nums w tad tlen zs) (hL : tlen ≤ 140737488355328) (s : Int) (hs0 : 0 ≤ s) (hs1 : s ≤ 65535) (most : Nat) (hm : most ≤ 5000) :
 Calls Try.prog 8 #[.slice tad tlen tcap, .int .i64 s, .int .i64 (most : Int)] w fun e w' => ∃ ad len cap ms, e = .returned (.slice ad len cap) ∧ FoBats w' s ad len cap ms ∧ len ≤ most ∧ Below w.heap.size w w' := by
 refine (row_any w tad tlen tcap zs h hL s hs0 (by omega) most (by omega)).mono ?_
 rintro e w2 ⟨ad, len, cap, ms, rfl, HBA, HRD, hlen, hb2⟩
 exact ⟨ad, len, cap, ms, rfl, ⟨HBA.out, by omega, HRD.out, hs0, by omega⟩, hlen, hb2.out⟩
theorem fo_bats_set {w : World} {s : Int} {ad : Option Addr} {len cap P i : Nat} {ms : List BM} {a0 a1 : Option Addr} {n0 c0 n1 c1 : Nat} {x2 x3 : Int} (h : FoBats w s ad len cap ms) (hf : FBox w P (.slice a0 n0 c0) (.slice a1 n1 c1) x2 x3) (z : Value) : FoBats (w.setCell ⟨P, i, none⟩ z) s ad len cap ms :=
 ⟨⟨row_off_blk h.at_.row fun x off => ⟨4, _, rfl, fbox_bool hf _ _⟩, fun m hm => recsAt_row.2 (row_off_blk (recsAt_row.1 (h.at_.ins m hm)) fun x off => ⟨0, _, rfl, fbox_str hf _ _⟩)⟩, h.few, h.row, h.lo, h.hi⟩
theorem fo_gots_set {w : World} {ad : Option Addr} {len cap P i : Nat} {l : List Gt} {a0 a1 : Option Addr} {n0 c0 n1 c1 : Nat} {x2 x3 : Int} (h : RowAt gtK w ad len cap l) (hf : FBox w P (.slice a0 n0 c0) (.slice a1 n1 c1) x2 x3) (z : Value) : RowAt gtK (w.setCell ⟨P, i, none⟩ z) ad len cap l :=
 row_off_blk h fun x off => ⟨2, _, rfl, fbox_str hf _ _⟩
theorem fo_deliver_len (rs : List Gt) (ds : List Dr) : (deliverD rs ds).length ≤ rs.length := by unfold deliverD; exact List.length_filter_le _ _
set_option maxRecDepth 100000 in
set_option maxHeartbeats 16000000 in
theorem foTells_any (C : FoCode) (K : ∀ W, Calls Try.prog 13 #[] W (GivesBool W true)) (w : World) (tad : Option Addr) (tlen tcap : Nat) (tz : List Int) (ht : Nums w tad tlen tz) (htl : tlen ≤ 140737488355328) (st0 fr n0 : Int) (only : Bool)
 (ra : Option Addr) (rn rc : Nat) (da : Option Addr) (dn dc : Nat) (nx st : Int) (rs : List Gt) (ds : List Dr) (hr : RowAt gtK w ra rn rc rs) (hd : RowAt drK w da dn dc ds) (hdn : dn ≤ 140737488355328) :
 Calls Try.prog 4 #[.slice tad tlen tcap, .int .i64 st0, .int .i64 fr, .int .i64 n0, .bool only, .agg #[.slice ra rn rc, .slice da dn dc, .int .i64 nx, .int .i64 st]] w (GivesBool w true) := by
 have HC := Lib.hid C
 have HK := Lib.hid K
 have HT := Lib.hid ht
 have HR := Lib.hid hr
 have HD := Lib.hid hd
 have HDN := Lib.hid hdn
 obtain ⟨s, hmk⟩ : ∃ s, bits .and .i64 st0 65535 = s := ⟨_, rfl⟩
 have HS : Hid (0 ≤ s ∧ s ≤ 65535) := by show 0 ≤ s ∧ s ≤ 65535; rw [← hmk, mask16]; omega
 obtain ⟨x63, h63⟩ : ∃ x, bits .and .i64 fr 63 = x := ⟨_, rfl⟩
 obtain ⟨y1, hy1⟩ : ∃ x, wrap64 (s + x63) = x := ⟨_, rfl⟩
 obtain ⟨oo, hoo⟩ : ∃ x, wrap64 (y1 - 2) = x := ⟨_, rfl⟩
 obtain ⟨x15, h15⟩ : ∃ x, bits .and .i64 n0 15 = x := ⟨_, rfl⟩
 obtain ⟨n1, hn1⟩ : ∃ x, IntKind.i64.wrap (1 + x15) = x := ⟨_, rfl⟩
 obtain ⟨r9, hr9⟩ : ∃ x, fr.tmod 9 = x := ⟨_, rfl⟩
 obtain ⟨o3, ho3⟩ : ∃ x, IntKind.i64.wrap (s + r9) = x := ⟨_, rfl⟩
 obtain ⟨n127, h127⟩ : ∃ x, bits .and .i64 n0 127 = x := ⟨_, rfl⟩
 obtain ⟨f16, hf16⟩ : ∃ x, bits .and .i64 fr 65535 = x := ⟨_, rfl⟩
 obtain ⟨n255, h255⟩ : ∃ x, bits .and .i64 n0 255 = x := ⟨_, rfl⟩
 clear C K ht hr hd hdn
 go_enter Try.func4, Try.ntmps4
 go_upto_region 1 with fail
 obtain ⟨W0, hW0⟩ : ∃ z, z = w.alloc (.cells #[.slice ra rn rc, .slice da dn dc, .int .i64 nx, .int .i64 st] 34) := ⟨_, rfl⟩
 obtain ⟨P, hP⟩ : ∃ z, z = w.heap.size := ⟨_, rfl⟩
 have hb0 : Below w.heap.size w W0 := by rw [hW0]; exact (Below.refl _ _).alloc (Nat.le_refl _) _
 have HP0 : Hid (FBox W0 P (.slice ra rn rc) (.slice da dn dc) nx st) := by show FBox _ _ _ _ _ _; rw [hW0, hP]; exact fbox_new w _ _ _ _
 have HWP : Hid (w.heap.size ≤ P) := by show _ ≤ _; rw [hP]; exact Nat.le_refl _
 have HT0 := Lib.hid (HT.out.keep hb0 (Nat.le_refl _))
 have HR0 := Lib.hid (HR.out.keep hb0)
 have HD0 := Lib.hid (HD.out.keep hb0)
 have HB0 := Lib.hid hb0
 rw [← hW0, ← hP]
 clear hW0 hP hb0 HT HR HD
 go_wp2_with fail
 refine (foRowAt_any W0 tad tlen tcap tz HT0.out htl s HS.out.1 HS.out.2 20 (by decide)).mono ?_
 rintro e w1 ⟨ad, len, cap, ms, rfl, hm, _, hb⟩
 have HM := Lib.hid hm
 have HP1 := Lib.hid (HP0.out.on hb)
 have HR1 := Lib.hid (HR0.out.keep hb)
 have HD1 := Lib.hid (HD0.out.keep hb)
 have HB1 := Lib.hid (HB0.out.trans (hb.mono HB0.out.size))
 clear hm hb HP0 HR0 HD0 HB0 HT0
 have q0 := HP1.out.c0
 have f0 := HP1.out.free 0
 by_cases h30 : 30 < rn
 · have hd3 : decide (30 < rn) = true := decide_eq_true h30
   have hd3i : decide ((30 : Int) < (rn : Int)) = true := decide_eq_true (by omega)
   have hcut : ∀ V, (Instr.slice 31 (.slice ra rn rc) none (some (.int .i64 30)) none).run Try.prog V = .ok (.slice ra 30 rc) V := row_upto gtK_ok ra rn rc 30 (by have := HR1.out.fits; omega)
   go_upto_region 6 with fail
   obtain ⟨w2, hw2⟩ : ∃ z, z = w1.setCell ⟨P, 0, none⟩ (.slice ra 30 rc) := ⟨_, rfl⟩
   have HP2 : Hid (FBox w2 P (.slice ra 30 rc) (.slice da dn dc) nx st) := by show FBox _ _ _ _ _ _; rw [hw2]; exact HP1.out.s0 _
   obtain ⟨rs2, hrs2⟩ : ∃ l, l = rs.take 30 := ⟨_, rfl⟩
   have HBX : Hid (Below w.heap.size w w2) := by show Below _ _ _; rw [hw2]; exact HB1.out.setCell HWP.out _
   have HR2 : Hid (RowAt gtK w2 ra 30 rc rs2) := by show RowAt _ _ _ _ _ _; rw [hw2, hrs2]; exact (fo_gots_set HR1.out HP1.out _).take 30 (by omega)
   have HD2 : Hid (RowAt drK w2 da dn dc ds) := by show RowAt _ _ _ _ _ _; rw [hw2]; exact dr_past HD1.out HP1.out _ _
   have HM2 : Hid (FoBats w2 s ad len cap ms) := by show FoBats _ _ _ _ _ _; rw [hw2]; exact fo_bats_set HM.out HP1.out _
   obtain ⟨rn2, hrn2⟩ : ∃ n : Nat, n = 30 := ⟨_, rfl⟩
   rw [← hrn2] at HP2 HR2
   have HRN : Hid (rn2 ≤ 30) := by show rn2 ≤ 30; omega
   rw [← hw2]
   clear hw2 q0 f0 hd3 hd3i hcut hrs2 hrn2 HP1 HR1 HD1 HM HB1
   have hdr : Below w2.heap.size w2 w2.drew := (Below.refl _ w2).drew
   have KS : Hid (∀ V, Below w2.heap.size w2 V → (fun (V : World) => V.cell? ⟨P, 0, none⟩ = some (.slice ra rn2 rc) ∧ V.cell? ⟨P, 1, none⟩ = some (.slice da dn dc) ∧ V.cell? ⟨P, 2, none⟩ = some (.int .i64 nx) ∧ V.cell? ⟨P, 3, none⟩ = some (.int .i64 st)) V) := fun V hV => ⟨(HP2.out.on hV).c0, (HP2.out.on hV).c1, (HP2.out.on hV).c2, (HP2.out.on hV).c3⟩
   have KM : Hid (∀ V, Below w2.heap.size w2 V → FoBats V s ad len cap ms) := fun V hV => HM2.out.keep hV
   have KF : Hid (∀ V, Below w2.heap.size w2 V → FdAt V (.agg #[.slice ra rn2 rc, .slice da dn dc, .int .i64 nx, .int .i64 st]) ⟨rs2, ds, nx, st⟩) := fun V hV => ⟨_, _, _, _, _, _, rfl, HR2.out.keep hV, HD2.out.keep hV⟩
   have HL2 : Hid (rs2.length ≤ 30) := by show _ ≤ _; rw [HR2.out.length]; exact HRN.out
   have HLD : Hid (ds.length ≤ 140737488355328) := by show _ ≤ _; rw [HD2.out.length]; exact HDN.out
   have HDL : Hid ((deliverD rs2 ds).length ≤ 1000000) := Nat.le_trans (fo_deliver_len rs2 ds) (Nat.le_trans HL2.out (by decide))
   refine wp_region_noPanic ?_
   refine wp_region_z [] (fun (V : World) => V.cell? ⟨P, 0, none⟩ = some (.slice ra rn2 rc) ∧ V.cell? ⟨P, 1, none⟩ = some (.slice da dn dc) ∧ V.cell? ⟨P, 2, none⟩ = some (.int .i64 nx) ∧ V.cell? ⟨P, 3, none⟩ = some (.int .i64 st)) (by kernel_rfl) ?_
   have hHeld := KS.out _ hdr
   obtain ⟨u0, hu0⟩ : ∃ u, u = w2.drew := ⟨_, rfl⟩
   rw [← hu0] at hHeld hdr
   rw [← hu0]
   clear hu0
   have HU0 := Lib.hid hdr
   clear hdr HP2 HR2 HD2 HM2
   refine zt 0 ?_
   refine zt 1 ?_
   refine zr 2 (fun C hC => ?_)
   go_simp
   refine (foAll_any HC.out u0 s ad len cap ms (KM.out _ HU0.out)).mono ?_
   rintro e u1 ⟨rfl, hb⟩
   have HU1 : Hid (Below w2.heap.size w2 u1) := HU0.out.trans (hb.mono HU0.out.size)
   clear hb
   have hHeld := KS.out _ HU1.out
   refine zc hC hHeld ?_
   clear hC C
   refine zt 3 ?_
   refine zt 4 ?_
   refine zt 5 ?_
   refine zt 6 ?_
   refine zt 7 ?_
   refine zt 8 ?_
   refine zt 9 ?_
   refine zt 10 ?_
   refine zr 11 (fun C hC => ?_)
   go_simp
   refine (foSame_any HC.out u1 s ad len cap ms (KM.out _ HU1.out) _ _ _).mono ?_
   rintro e u2 ⟨rfl, hb⟩
   have HU2 : Hid (Below w2.heap.size w2 u2) := HU1.out.trans (hb.mono HU1.out.size)
   clear hb
   have hHeld := KS.out _ HU2.out
   refine zc hC hHeld ?_
   clear hC C
   refine zt 12 ?_
   refine zt 13 ?_
   refine zt 14 ?_
   refine zt 15 ?_
   refine zt 16 ?_
   refine zt 17 ?_
   refine zt 18 ?_
   refine zt 19 ?_
   refine zt 20 ?_
   refine zt 21 ?_
   refine zr 22 (fun C hC => ?_)
   go_simp
   refine (foSame_any HC.out u2 s ad len cap ms (KM.out _ HU2.out) _ _ _).mono ?_
   rintro e u3 ⟨rfl, hb⟩
   have HU3 : Hid (Below w2.heap.size w2 u3) := HU2.out.trans (hb.mono HU2.out.size)
   clear hb
   have hHeld := KS.out _ HU3.out
   refine zc hC hHeld ?_
   clear hC C
   refine zt 23 ?_
   refine zt 24 ?_
   refine zt 25 ?_
   refine zt 26 ?_
   refine zt 27 ?_
   refine zt 28 ?_
   refine zt 29 ?_
   refine zt 30 ?_
   refine zt 31 ?_
   refine zt 32 ?_
   refine zt 33 ?_
   refine zr 34 (fun C hC => ?_)
   go_simp
   refine (foSame_any HC.out u3 s ad len cap ms (KM.out _ HU3.out) _ _ _).mono ?_
   rintro e u4 ⟨rfl, hb⟩
   have HU4 : Hid (Below w2.heap.size w2 u4) := HU3.out.trans (hb.mono HU3.out.size)
   clear hb
   have hHeld := KS.out _ HU4.out
   refine zc hC hHeld ?_
   clear hC C
   refine zt 35 ?_
   refine zt 36 ?_
   refine zt 37 ?_
   refine zt 38 ?_
   refine zt 39 ?_
   refine zt 40 ?_
   refine zt 41 ?_
   refine zt 42 ?_
   refine zt 43 ?_
   refine zr 44 (fun C hC => ?_)
   go_simp
   refine (foSame_any HC.out u4 s ad len cap ms (KM.out _ HU4.out) _ _ _).mono ?_
   rintro e u5 ⟨rfl, hb⟩
   have HU5 : Hid (Below w2.heap.size w2 u5) := HU4.out.trans (hb.mono HU4.out.size)
   clear hb
   have hHeld := KS.out _ HU5.out
   refine zc hC hHeld ?_
   clear hC C
   refine zt 45 ?_
   refine zt 46 ?_
   refine zt 47 ?_
   refine zt 49 ?_
   refine zr 48 (fun C hC => ?_)
   go_simp
   refine (HC.out.deliver u5 _ _ (KF.out _ HU5.out) (Nat.le_trans HL2.out (by decide)) HLD.out).mono ?_
   rintro e u6 ⟨ga, gn, gc, rfl, hga, -, hb⟩
   have HU6 : Hid (Below w2.heap.size w2 u6) := HU5.out.trans (hb.mono HU5.out.size)
   have HGA := Lib.hid hga
   clear hga
   clear hb
   have hHeld := KS.out _ HU6.out
   refine zc hC hHeld ?_
   clear hC C
   refine zr 50 (fun C hC => ?_)
   go_simp
   refine (refDeliver_any u6 _ _ (KF.out _ HU6.out) (Nat.le_trans HL2.out (by decide)) HLD.out).mono ?_
   rintro e u7 ⟨ka, kn, kc, rfl, hka, -, hb⟩
   have HU7 : Hid (Below w2.heap.size w2 u7) := HU6.out.trans (hb.mono HU6.out.size)
   have HKA := Lib.hid hka
   have HGA2 := Lib.hid (HGA.out.keep hb)
   clear hka HGA
   clear hb
   have hHeld := KS.out _ HU7.out
   refine zc hC hHeld ?_
   clear hC C
   refine zr 51 (fun C hC => ?_)
   go_simp
   refine (refGots_any u7 ga ka gn kn gc kc _ HGA2.out HKA.out HDL.out).mono ?_
   rintro e u8 ⟨rfl, hb⟩
   have HU8 : Hid (Below w2.heap.size w2 u8) := HU7.out.trans (hb.mono HU7.out.size)
   clear hb
   have hHeld := KS.out _ HU8.out
   refine zc hC hHeld ?_
   clear hC C
   refine zt 52 ?_
   refine zt 53 ?_
   refine zr 54 (fun C hC => ?_)
   go_simp
   refine (HK.out u8).mono ?_
   rintro e u9 ⟨rfl, hb⟩
   have HU9 : Hid (Below w2.heap.size w2 u9) := HU8.out.trans (hb.mono HU8.out.size)
   clear hb
   have hHeld := KS.out _ HU9.out
   refine zc hC hHeld ?_
   clear hC C
   refine zt 55 ?_
   refine zt 56 ?_
   refine wpAnyZ_done (by kernel_rfl) ?_ _
   refine NoPanic.normal ?_
   have HFIN : Hid (Below w.heap.size w u9) := HBX.out.trans (HU9.out.mono HBX.out.size)
   clear hHeld KS KM KF
   go_wp2_with fail
   go_ret
   exact ⟨rfl, HFIN.out⟩
 · have hd3 : decide (30 < rn) = false := decide_eq_false h30
   have hd3i : decide ((30 : Int) < (rn : Int)) = false := decide_eq_false (by omega)
   go_upto_region 6 with fail
   obtain ⟨w2, hw2⟩ : ∃ z : World, z = w1 := ⟨_, rfl⟩
   obtain ⟨rn2, hrn2⟩ : ∃ n : Nat, n = rn := ⟨_, rfl⟩
   obtain ⟨rs2, hrs2⟩ : ∃ l, l = rs := ⟨_, rfl⟩
   have HP2 : Hid (FBox w2 P (.slice ra rn2 rc) (.slice da dn dc) nx st) := by show FBox _ _ _ _ _ _; rw [hw2, hrn2]; exact HP1.out
   have HR2 : Hid (RowAt gtK w2 ra rn2 rc rs2) := by show RowAt _ _ _ _ _ _; rw [hw2, hrs2, hrn2]; exact HR1.out
   have HD2 : Hid (RowAt drK w2 da dn dc ds) := by show RowAt _ _ _ _ _ _; rw [hw2]; exact HD1.out
   have HM2 : Hid (FoBats w2 s ad len cap ms) := by show FoBats _ _ _ _ _ _; rw [hw2]; exact HM.out
   have HBX : Hid (Below w.heap.size w w2) := by show Below _ _ _; rw [hw2]; exact HB1.out
   have HRN : Hid (rn2 ≤ 30) := by show rn2 ≤ 30; omega
   rw [← hw2]
   clear hw2 q0 f0 hd3 hd3i hrs2 hrn2 HP1 HR1 HD1 HM HB1 h30
   have hdr : Below w2.heap.size w2 w2.drew := (Below.refl _ w2).drew
   have KS : Hid (∀ V, Below w2.heap.size w2 V → (fun (V : World) => V.cell? ⟨P, 0, none⟩ = some (.slice ra rn2 rc) ∧ V.cell? ⟨P, 1, none⟩ = some (.slice da dn dc) ∧ V.cell? ⟨P, 2, none⟩ = some (.int .i64 nx) ∧ V.cell? ⟨P, 3, none⟩ = some (.int .i64 st)) V) := fun V hV => ⟨(HP2.out.on hV).c0, (HP2.out.on hV).c1, (HP2.out.on hV).c2, (HP2.out.on hV).c3⟩
   have KM : Hid (∀ V, Below w2.heap.size w2 V → FoBats V s ad len cap ms) := fun V hV => HM2.out.keep hV
   have KF : Hid (∀ V, Below w2.heap.size w2 V → FdAt V (.agg #[.slice ra rn2 rc, .slice da dn dc, .int .i64 nx, .int .i64 st]) ⟨rs2, ds, nx, st⟩) := fun V hV => ⟨_, _, _, _, _, _, rfl, HR2.out.keep hV, HD2.out.keep hV⟩
   have HL2 : Hid (rs2.length ≤ 30) := by show _ ≤ _; rw [HR2.out.length]; exact HRN.out
   have HLD : Hid (ds.length ≤ 140737488355328) := by show _ ≤ _; rw [HD2.out.length]; exact HDN.out
   have HDL : Hid ((deliverD rs2 ds).length ≤ 1000000) := Nat.le_trans (fo_deliver_len rs2 ds) (Nat.le_trans HL2.out (by decide))
   refine wp_region_noPanic ?_
   refine wp_region_z [] (fun (V : World) => V.cell? ⟨P, 0, none⟩ = some (.slice ra rn2 rc) ∧ V.cell? ⟨P, 1, none⟩ = some (.slice da dn dc) ∧ V.cell? ⟨P, 2, none⟩ = some (.int .i64 nx) ∧ V.cell? ⟨P, 3, none⟩ = some (.int .i64 st)) (by kernel_rfl) ?_
   have hHeld := KS.out _ hdr
   obtain ⟨u0, hu0⟩ : ∃ u, u = w2.drew := ⟨_, rfl⟩
   rw [← hu0] at hHeld hdr
   rw [← hu0]
   clear hu0
   have HU0 := Lib.hid hdr
   clear hdr HP2 HR2 HD2 HM2
   refine zt 0 ?_
   refine zt 1 ?_
   refine zr 2 (fun C hC => ?_)
   go_simp
   refine (foAll_any HC.out u0 s ad len cap ms (KM.out _ HU0.out)).mono ?_
   rintro e u1 ⟨rfl, hb⟩
   have HU1 : Hid (Below w2.heap.size w2 u1) := HU0.out.trans (hb.mono HU0.out.size)
   clear hb
   have hHeld := KS.out _ HU1.out
   refine zc hC hHeld ?_
   clear hC C
   refine zt 3 ?_
   refine zt 4 ?_
   refine zt 5 ?_
   refine zt 6 ?_
   refine zt 7 ?_
   refine zt 8 ?_
   refine zt 9 ?_
   refine zt 10 ?_
   refine zr 11 (fun C hC => ?_)
   go_simp
   refine (foSame_any HC.out u1 s ad len cap ms (KM.out _ HU1.out) _ _ _).mono ?_
   rintro e u2 ⟨rfl, hb⟩
   have HU2 : Hid (Below w2.heap.size w2 u2) := HU1.out.trans (hb.mono HU1.out.size)
   clear hb
   have hHeld := KS.out _ HU2.out
   refine zc hC hHeld ?_
   clear hC C
   refine zt 12 ?_
   refine zt 13 ?_
   refine zt 14 ?_
   refine zt 15 ?_
   refine zt 16 ?_
   refine zt 17 ?_
   refine zt 18 ?_
   refine zt 19 ?_
   refine zt 20 ?_
   refine zt 21 ?_
   refine zr 22 (fun C hC => ?_)
   go_simp
   refine (foSame_any HC.out u2 s ad len cap ms (KM.out _ HU2.out) _ _ _).mono ?_
   rintro e u3 ⟨rfl, hb⟩
   have HU3 : Hid (Below w2.heap.size w2 u3) := HU2.out.trans (hb.mono HU2.out.size)
   clear hb
   have hHeld := KS.out _ HU3.out
   refine zc hC hHeld ?_
   clear hC C
   refine zt 23 ?_
   refine zt 24 ?_
   refine zt 25 ?_
   refine zt 26 ?_
   refine zt 27 ?_
   refine zt 28 ?_
   refine zt 29 ?_
   refine zt 30 ?_
   refine zt 31 ?_
   refine zt 32 ?_
   refine zt 33 ?_
   refine zr 34 (fun C hC => ?_)
   go_simp
   refine (foSame_any HC.out u3 s ad len cap ms (KM.out _ HU3.out) _ _ _).mono ?_
   rintro e u4 ⟨rfl, hb⟩
   have HU4 : Hid (Below w2.heap.size w2 u4) := HU3.out.trans (hb.mono HU3.out.size)
   clear hb
   have hHeld := KS.out _ HU4.out
   refine zc hC hHeld ?_
   clear hC C
   refine zt 35 ?_
   refine zt 36 ?_
   refine zt 37 ?_
   refine zt 38 ?_
   refine zt 39 ?_
   refine zt 40 ?_
   refine zt 41 ?_
   refine zt 42 ?_
   refine zt 43 ?_
   refine zr 44 (fun C hC => ?_)
   go_simp
   refine (foSame_any HC.out u4 s ad len cap ms (KM.out _ HU4.out) _ _ _).mono ?_
   rintro e u5 ⟨rfl, hb⟩
   have HU5 : Hid (Below w2.heap.size w2 u5) := HU4.out.trans (hb.mono HU4.out.size)
   clear hb
   have hHeld := KS.out _ HU5.out
   refine zc hC hHeld ?_
   clear hC C
   refine zt 45 ?_
   refine zt 46 ?_
   refine zt 47 ?_
   refine zt 49 ?_
   refine zr 48 (fun C hC => ?_)
   go_simp
   refine (HC.out.deliver u5 _ _ (KF.out _ HU5.out) (Nat.le_trans HL2.out (by decide)) HLD.out).mono ?_
   rintro e u6 ⟨ga, gn, gc, rfl, hga, -, hb⟩
   have HU6 : Hid (Below w2.heap.size w2 u6) := HU5.out.trans (hb.mono HU5.out.size)
   have HGA := Lib.hid hga
   clear hga
   clear hb
   have hHeld := KS.out _ HU6.out
   refine zc hC hHeld ?_
   clear hC C
   refine zr 50 (fun C hC => ?_)
   go_simp
   refine (refDeliver_any u6 _ _ (KF.out _ HU6.out) (Nat.le_trans HL2.out (by decide)) HLD.out).mono ?_
   rintro e u7 ⟨ka, kn, kc, rfl, hka, -, hb⟩
   have HU7 : Hid (Below w2.heap.size w2 u7) := HU6.out.trans (hb.mono HU6.out.size)
   have HKA := Lib.hid hka
   have HGA2 := Lib.hid (HGA.out.keep hb)
   clear hka HGA
   clear hb
   have hHeld := KS.out _ HU7.out
   refine zc hC hHeld ?_
   clear hC C
   refine zr 51 (fun C hC => ?_)
   go_simp
   refine (refGots_any u7 ga ka gn kn gc kc _ HGA2.out HKA.out HDL.out).mono ?_
   rintro e u8 ⟨rfl, hb⟩
   have HU8 : Hid (Below w2.heap.size w2 u8) := HU7.out.trans (hb.mono HU7.out.size)
   clear hb
   have hHeld := KS.out _ HU8.out
   refine zc hC hHeld ?_
   clear hC C
   refine zt 52 ?_
   refine zt 53 ?_
   refine zr 54 (fun C hC => ?_)
   go_simp
   refine (HK.out u8).mono ?_
   rintro e u9 ⟨rfl, hb⟩
   have HU9 : Hid (Below w2.heap.size w2 u9) := HU8.out.trans (hb.mono HU8.out.size)
   clear hb
   have hHeld := KS.out _ HU9.out
   refine zc hC hHeld ?_
   clear hC C
   refine zt 55 ?_
   refine zt 56 ?_
   refine wpAnyZ_done (by kernel_rfl) ?_ _
   refine NoPanic.normal ?_
   have HFIN : Hid (Below w.heap.size w u9) := HBX.out.trans (HU9.out.mono HBX.out.size)
   clear hHeld KS KM KF
   go_wp2_with fail
   go_ret
   exact ⟨rfl, HFIN.out⟩
end Go.Proofs.Ytipaebflkebdjaa
namespace Go.Proofs.Ytipaebflkebdjaa
open Go.ChangeShapes Go.WideShapes Go.Deep Go.RowKit
set_option linter.unusedVariables false

/-- What each element's cells say is a row. -/
theorem rowAt_key {α : Type} {K : Kind α} {w : World} {a : Addr} {len cap sz : Nat} (hsz : K.size = sz) (hne : ∀ x : α, ∃ u, (K.enc x)[0]? = some u) (hl : len ≤ cap) (x0 : α) (key : ∀ i, i < len → ∃ x : α, ∀ j u, (K.enc x)[j]? = some u → w.cell? (a.add (i * sz + j)) = some u) :
 ∃ l, RowAt K w (some a) len cap l := by
 subst hsz
 have hch : ∃ f : Nat → α, ∀ i, i < len → ∀ j u, (K.enc (f i))[j]? = some u → w.cell? (a.add (i * K.size + j)) = some u := by
  refine Classical.axiomOfChoice (r := fun i (x : α) => i < len → ∀ j u, (K.enc x)[j]? = some u → w.cell? (a.add (i * K.size + j)) = some u) fun i => ?_
  by_cases h : i < len
  · obtain ⟨r, hr⟩ := key i h
    exact ⟨r, fun _ => hr⟩
  · exact ⟨x0, fun h' => absurd h' h⟩
 obtain ⟨f, hf⟩ := hch
 refine ⟨(List.range len).map f, ⟨by simp, hl, (fun e => by cases e), ?_⟩⟩
 by_cases h0 : len = 0
 · exact .inl h0
 · obtain ⟨b, off, spot⟩ := a
   obtain ⟨u, hu⟩ := hne (f 0)
   have h1 := hf 0 (by omega) 0 u hu
   have hsp : spot = none := by simpa [Addr.add] using World.cell?_spot h1
   subst hsp
   refine .inr ⟨b, off, rfl, ?_, fun i r hi j u hj => ?_⟩
   · rw [Go.WideShapes.add_plain] at h1
     exact World.block_lt_of_cell? w _ h1
   · obtain ⟨hlt, e⟩ := List.getElem?_eq_some_iff.1 hi
     have hil : i < len := by simpa using hlt
     have e : f i = r := by simpa using e
     subst e
     have h2 := hf i hil j u hj
     rw [Go.WideShapes.add_plain] at h2
     exact h2
theorem weights_slice2 {H : Type} {P : Program} {t e : TypeId} {elems spare : List (DataW H)} (ht : P.underlying t = some (.slice e)) : (elems.length + spare.length) * P.bytesOf e ∈ DataW.weights P t (DataW.slice (H := H) elems spare) := by
 simp only [DataW.weights, ht]
 exact List.mem_cons_self
theorem weights_field2 {H : Type} {P : Program} {t : TypeId} {fs : Array Field} {parts : List (DataW H)} {j : Nat} {f : Field} {d : DataW H} (ht : P.underlying t = some (.struct fs)) (hf : fs[j]? = some f) (hd : parts[j]? = some d) : ∀ n ∈ d.weights P f.type, n ∈ DataW.weights P t (.agg parts) := by
 intro n hn
 simp only [DataW.weights, ht]
 exact DataW.weights_mem_each (j := j) (t := f.type) (by simp [hf]) hd n hn
end Go.Proofs.Ytipaebflkebdjaa
