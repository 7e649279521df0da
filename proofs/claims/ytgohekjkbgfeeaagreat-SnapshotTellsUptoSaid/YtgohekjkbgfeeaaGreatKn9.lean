/- Parts of a proof, merged: SnState, SnapMath4, TcGet, PrDup, PrCheck, PrApply, TcCheck. -/
import Derived.Test.YtgohekjkbgfeeaaGreatKn1
import Derived.Test.YtgohekjkbgfeeaaGreatKn3
import Derived.Test.YtgohekjkbgfeeaaGreatKn6
import Derived.Test.YtgohekjkbgfeeaaGreatKn7
import Derived.Test.YtgohekjkbgfeeaaGreatKn8
import Derived.Test.YtgohekjkbgfeeaaGreatKn5
namespace Go.Proofs.YtgohekjkbgfeeaaGreat
open Go.RowKit
open Go.SnapMath
open Go.ProdMath
open Go.BatMath hiding AllB take_all
set_option linter.unusedVariables false

theorem resultsSnState {tmps : Array Value} {B : Nat} {W : World} {b0 b1 b3 : Int} {v x : Value} (h : PBox W B b0 b1 v b3) (ht : tmps.getD 2 undef = .pointer (some ⟨B, 0, none⟩)) (hx : tmps.getD 3 undef = x) :
 (results Tryz.f74 tmps).run Tryz.prog W = .ok (.tuple #[.agg #[.int .i64 b0, .int .i64 b1, v, .int .i64 b3], x]) W := by
 rw [results_cell_tmp (p := 2) (u := 3) (ty := 78) Tryz.results74, ht]
 have hl := run_loadVar_row (P := Tryz.prog) W B 78 78 _ (0, 0) _ h Tryz.underlying78 rfl (by kernel_rfl)
 simp only [asAddr, Sem.run_pure, Result.andThen, hl, hx]
/-- A state that is right, or none. -/
def GivesSnState (w0 w : World) (k : Nat) (bs : List Nat) (e : Ending) (w' : World) : Prop :=
 w.grownBy w' (some k) ∧ ((∃ p ad cap b, e = .returned (.tuple #[.agg #[.int .i64 p.id, .int .i64 p.epoch, .slice ad p.last.length cap, .int .i64 p.opn], .bool true]) ∧ RowAt trK w' ad p.last.length cap p.last ∧ (∀ a, ad = some a → w.heap.size ≤ a.block ∧ a.block < w'.heap.size) ∧ KrAt w0 w' k b false ∧ RightP p ∧ In64 p.id ∧ bs = pdS p ++ b) ∨
  (∃ b0 b1 va vn vc b3, e = .returned (.tuple #[.agg #[.int .i64 b0, .int .i64 b1, .slice va vn vc, .int .i64 b3], .bool false]) ∧ StNo bs))
set_option maxRecDepth 100000 in
set_option maxHeartbeats 8000000 in
theorem snState_any (w1 wo : World) (k : Nat) (b : List Nat) (h : KrAt w1 wo k b false) (hL : b.length ≤ 1048600) :
 Calls Tryz.prog 74 #[.pointer (some ⟨k, 0, none⟩)] wo (GivesSnState w1 wo k b) := by
 have HRD := Lib.hid h
 clear h
 obtain ⟨⟨pid, c1, g1⟩, e1⟩ : ∃ r, rdN b false = r := ⟨_, rfl⟩
 obtain ⟨⟨pep, c2, g2⟩, e2⟩ : ∃ r, rdN c1 g1 = r := ⟨_, rfl⟩
 obtain ⟨⟨po, c3, g3⟩, e3⟩ : ∃ r, rdN c2 g2 = r := ⟨_, rfl⟩
 obtain ⟨⟨kk, c4, g4⟩, e4⟩ : ∃ r, rdN c3 g3 = r := ⟨_, rfl⟩
 obtain ⟨⟨pl, c5, g5⟩, e5⟩ : ∃ r, rdF kk.toNat c4 g4 = r := ⟨_, rfl⟩
 have l1 := (rdN_len b false).1
 have l2 := (rdN_len c1 g1).1
 have l3 := (rdN_len c2 g2).1
 have l4 := (rdN_len c3 g3).1
 have l5 := rdF_len kk.toNat c4 g4
 have hik := rdN_in c3 g3
 have hi1 := rdN_in b false
 have hi2 := rdN_in c1 g1
 have hi3 := rdN_in c2 g2
 rw [e1] at l1 hi1
 rw [e2] at l2 hi2
 rw [e3] at l3 hi3
 rw [e4] at l4 hik
 rw [e5] at l5
 simp only at l1 l2 l3 l4 l5 hik hi1 hi2 hi3
 have HE1 := Lib.hid e1
 have HE2 := Lib.hid e2
 have HE3 := Lib.hid e3
 have HE4 := Lib.hid e4
 have HE5 := Lib.hid e5
 have HK0' : Hid (b.length ≤ 140737488355328) := by show _ ≤ _; omega
 have HK1 : Hid (c1.length ≤ 140737488355328) := by show _ ≤ _; omega
 have HK2 : Hid (c2.length ≤ 140737488355328) := by show _ ≤ _; omega
 have HK3 : Hid (c3.length ≤ 140737488355328) := by show _ ≤ _; omega
 have HK4 : Hid (c4.length ≤ 1048600) := by show _ ≤ _; omega
 have HPLL : Hid (pl.length = kk.toNat) := l5.1
 have HNOR : Hid (pep < 0 ∨ 32767 < pep ∨ kk < 0 ∨ 5 < kk → StNo b) := state_range e1 e2 e3 e4
 have HNOF : Hid (g5 = true → StNo b) := state_fell e1 e2 e3 e4 e5
 have HIK := Lib.hid hik
 have HI1 := Lib.hid hi1
 clear e1 e2 e3 e4 e5 l1 l2 l3 l4 l5 hL hik hi1 hi2 hi3
 go_enter Tryz.func74, Tryz.ntmps74
 go_upto_region 1 with fail
 obtain ⟨W0, hW0⟩ : ∃ z, z = wo.alloc (.cells #[.int .i64 0, .int .i64 0, .slice none 0 0, .int .i64 0] 78) := ⟨_, rfl⟩
 obtain ⟨Rb, hRb⟩ : ∃ z, z = wo.heap.size := ⟨_, rfl⟩
 have HRB : Hid (PBox W0 Rb 0 0 (.slice none 0 0) 0) := by show PBox _ _ _ _ _ _; rw [hW0, hRb]; exact pbox_new wo _ _ _ _
 have HRW : Hid (wo.heap.size ≤ Rb) := by show _ ≤ _; rw [hRb]; exact Nat.le_refl _
 have hb0 : Below wo.heap.size wo W0 := by rw [hW0]; exact (Below.refl _ _).alloc (Nat.le_refl _) _
 have HKR : Hid (k < Rb) := by show _ < _; rw [hRb]; exact HRD.out.lt
 have HR0 := Lib.hid (HRD.out.on hb0)
 have HG0 : Hid (wo.grownBy W0 (some k)) := grow_below (grow_refl _ _) hb0
 rw [← hW0, ← hRb]
 clear hW0 hRb hb0 HRD
 go_wp2_with fail
 refine (snNext_any w1 W0 k _ _ HR0.out HK0'.out).mono ?_
 rintro e wa ⟨rfl, hr, hg⟩
 rw [HE1.out] at hr ⊢
 have HRa := Lib.hid hr
 have HGa : Hid (wo.grownBy wa (some k)) := grow_trans HG0.out hg
 have HRBa := Lib.hid (HRB.out.grown hg (fun e => by have := HKR.out; cases e; omega))
 clear hr hg HR0 HG0 HRB
 go_wp2_with fail
 refine (snNext_any w1 wa k _ _ HRa.out HK1.out).mono ?_
 rintro e wb ⟨rfl, hr, hg⟩
 rw [HE2.out] at hr ⊢
 have HRb := Lib.hid hr
 have HGb : Hid (wo.grownBy wb (some k)) := grow_trans HGa.out hg
 have HRBb := Lib.hid (HRBa.out.grown hg (fun e => by have := HKR.out; cases e; omega))
 clear hr hg HRa HGa HRBa
 go_wp2_with fail
 refine (snNext_any w1 wb k _ _ HRb.out HK2.out).mono ?_
 rintro e wc ⟨rfl, hr, hg⟩
 rw [HE3.out] at hr ⊢
 have HRc := Lib.hid hr
 have HGc : Hid (wo.grownBy wc (some k)) := grow_trans HGb.out hg
 have HRBc := Lib.hid (HRBb.out.grown hg (fun e => by have := HKR.out; cases e; omega))
 clear hr hg HRb HGb HRBb
 go_wp2_with fail
 refine (snNext_any w1 wc k _ _ HRc.out HK3.out).mono ?_
 rintro e wd ⟨rfl, hr, hg⟩
 rw [HE4.out] at hr ⊢
 have HRd := Lib.hid hr
 have HGd : Hid (wo.grownBy wd (some k)) := grow_trans HGc.out hg
 have HRBd := Lib.hid (HRBc.out.grown hg (fun e => by have := HKR.out; cases e; omega))
 clear hr hg HRc HGc HRBc
 by_cases hbad : pep < 0 ∨ 32767 < pep ∨ kk < 0 ∨ 5 < kk
 · have HNO : Hid (StNo b) := HNOR.out hbad
   have r0 := HRBd.out.c0
   have r1 := HRBd.out.c1
   have r2 := HRBd.out.c2
   have r3 := HRBd.out.c3
   have f0 := HRBd.out.free 0
   have f1 := HRBd.out.free 1
   have f2 := HRBd.out.free 2
   have f3 := HRBd.out.free 3
   have HEND : Hid (PBox ((((wd.setCell ⟨Rb, 0, none⟩ (.int .i64 0)).setCell ⟨Rb, 1, none⟩ (.int .i64 0)).setCell ⟨Rb, 2, none⟩ (.slice none 0 0)).setCell ⟨Rb, 3, none⟩ (.int .i64 0)) Rb 0 0 (.slice none 0 0) 0 ∧ wo.grownBy ((((wd.setCell ⟨Rb, 0, none⟩ (.int .i64 0)).setCell ⟨Rb, 1, none⟩ (.int .i64 0)).setCell ⟨Rb, 2, none⟩ (.slice none 0 0)).setCell ⟨Rb, 3, none⟩ (.int .i64 0)) (some k)) :=
    ⟨(((HRBd.out.s0 0).s1 0).s2 (.slice none 0 0)).s3 0, grow_new (grow_new (grow_new (grow_new HGd.out HRW.out _) HRW.out _) HRW.out _) HRW.out _⟩
   have hcs : pep < 0 ∨ (¬ pep < 0 ∧ 32767 < pep) ∨ (¬ pep < 0 ∧ ¬ 32767 < pep ∧ kk < 0) ∨ (¬ pep < 0 ∧ ¬ 32767 < pep ∧ ¬ kk < 0 ∧ 5 < kk) := by omega
   clear hbad HRBd HGd HRd
   rcases hcs with h1 | ⟨h1, h2⟩ | ⟨h1, h2, h3⟩ | ⟨h1, h2, h3, h4⟩
   · have d1 : decide (pep < 0) = true := decide_eq_true h1
     go_wp2
     refine bodyPost_ret (v := .tuple #[.agg #[.int .i64 0, .int .i64 0, .slice none 0 0, .int .i64 0], .bool false]) (resultsSnState HEND.out.1 rfl rfl) rfl ?_
     exact ⟨HEND.out.2, .inr ⟨0, 0, _, _, _, 0, rfl, HNO.out⟩⟩
   · have d1 : decide (pep < 0) = false := decide_eq_false h1
     have d2 : decide (32767 < pep) = true := decide_eq_true h2
     go_wp2
     refine bodyPost_ret (v := .tuple #[.agg #[.int .i64 0, .int .i64 0, .slice none 0 0, .int .i64 0], .bool false]) (resultsSnState HEND.out.1 rfl rfl) rfl ?_
     exact ⟨HEND.out.2, .inr ⟨0, 0, _, _, _, 0, rfl, HNO.out⟩⟩
   · have d1 : decide (pep < 0) = false := decide_eq_false h1
     have d2 : decide (32767 < pep) = false := decide_eq_false h2
     have d3 : decide (kk < 0) = true := decide_eq_true h3
     go_wp2
     refine bodyPost_ret (v := .tuple #[.agg #[.int .i64 0, .int .i64 0, .slice none 0 0, .int .i64 0], .bool false]) (resultsSnState HEND.out.1 rfl rfl) rfl ?_
     exact ⟨HEND.out.2, .inr ⟨0, 0, _, _, _, 0, rfl, HNO.out⟩⟩
   · have d1 : decide (pep < 0) = false := decide_eq_false h1
     have d2 : decide (32767 < pep) = false := decide_eq_false h2
     have d3 : decide (kk < 0) = false := decide_eq_false h3
     have d4 : decide (5 < kk) = true := decide_eq_true h4
     go_wp2
     refine bodyPost_ret (v := .tuple #[.agg #[.int .i64 0, .int .i64 0, .slice none 0 0, .int .i64 0], .bool false]) (resultsSnState HEND.out.1 rfl rfl) rfl ?_
     exact ⟨HEND.out.2, .inr ⟨0, 0, _, _, _, 0, rfl, HNO.out⟩⟩
 · have d1 : decide (pep < 0) = false := decide_eq_false (by omega)
   have d2 : decide (32767 < pep) = false := decide_eq_false (by omega)
   have d3 : decide (kk < 0) = false := decide_eq_false (by omega)
   have d4 : decide (5 < kk) = false := decide_eq_false (by omega)
   obtain ⟨kn, rfl⟩ : ∃ kn : Nat, kk = (kn : Int) := ⟨kk.toNat, by omega⟩
   have hkn : kn ≤ 5 := by omega
   have HKN : Hid (pl.length = kn) := by have h1 := HPLL.out; rwa [Int.toNat_natCast] at h1
   have hE5 := HE5.out
   rw [Int.toNat_natCast] at hE5
   have HE5n := Lib.hid hE5
   clear hbad hE5 HNOR
   go_upto_region 5 with fail
   obtain ⟨W4, hW4⟩ : ∃ x, x = wd.alloc (.cells #[.int .i64 pid, .int .i64 pep, .slice none 0 0, .int .i64 po] 78) := ⟨_, rfl⟩
   obtain ⟨P, hP⟩ : ∃ x, x = wd.heap.size := ⟨_, rfl⟩
   have hb4 : Below wd.heap.size wd W4 := by rw [hW4]; exact (Below.refl _ _).alloc (Nat.le_refl _) _
   have HP4 : Hid (PBox W4 P pid pep (.slice none 0 0) po) := by show PBox _ _ _ _ _ _; rw [hW4, hP]; exact pbox_new wd _ _ _ _
   have HKP : Hid (k < P) := by show _ < _; rw [hP]; exact HRd.out.lt
   have HRP : Hid (Rb < P) := by show _ < _; rw [hP]; exact HRBd.out.lt
   have HWP : Hid (wo.heap.size ≤ P) := by show _ ≤ _; rw [hP]; exact HGd.out.size
   have HR4 := Lib.hid (HRd.out.on hb4)
   have HRB4 := Lib.hid (HRBd.out.on hb4)
   have HG4 : Hid (wo.grownBy W4 (some k)) := grow_below HGd.out hb4
   rw [← hW4, ← hP]
   clear hW4 hP hb4 HRd HRBd HGd
   go_wp2
   go_loopw [37] (fun v37 wr => ∃ (i : Nat) (ci : List Nat) (gi : Bool) (v : Value) (xs : List Tr), v37 = .int .i64 (i : Int) ∧ i ≤ kn ∧ Hid (PBox wr P pid pep v po) ∧ Hid (OwnRow trK wr (P + 1) v xs) ∧ Hid (KrAt w1 wr k ci gi) ∧ Hid (PBox wr Rb 0 0 (.slice none 0 0) 0) ∧ Hid (wo.grownBy wr (some k)) ∧ Hid (rdF i c4 g4 = (xs, ci, gi)) ∧ Hid (ci.length ≤ 1048600)) (fun v37 _ => kn - (intOf v37).toNat)
   case atStart => exact ⟨0, c4, g4, _, [], rfl, Nat.zero_le _, HP4.out, ownRow_nil trK _ _, HR4.out, HRB4.out, HG4.out, rfl, HK4.out⟩
   case round =>
    obtain ⟨i, ci, gi, v, xs, rfl, hi, HP, HO, HR, HRB, HG, HX, HCL⟩ := hrel
    clear HP4 HR4 HRB4 HG4
    obtain ⟨wi, hwi⟩ : ∃ wi : World, wi = wr := ⟨_, rfl⟩
    subst hwi
    by_cases hlt : i < kn
    · have hd2 : decide (i < kn) = true := decide_eq_true hlt
      have hil : (i : Int) < (kn : Int) := by omega
      obtain ⟨⟨xf, e1, j1⟩, q1⟩ : ∃ r, rdN ci gi = r := ⟨_, rfl⟩
      obtain ⟨⟨xl, e2, j2⟩, q2⟩ : ∃ r, rdN e1 j1 = r := ⟨_, rfl⟩
      obtain ⟨⟨xb, e3, j3⟩, q3⟩ : ∃ r, rdN e2 j2 = r := ⟨_, rfl⟩
      have HXS : Hid (rdF (i + 1) c4 g4 = (xs ++ [⟨xf, xl, xb⟩], e3, j3)) := rdF_succ HX.out (rdTr_of q1 q2 q3)
      have a1 := (rdN_len ci gi).1
      have a2 := (rdN_len e1 j1).1
      have a3 := (rdN_len e2 j2).1
      rw [q1] at a1
      rw [q2] at a2
      rw [q3] at a3
      simp only at a1 a2 a3
      have hcl : ci.length ≤ 1048600 := HCL.out
      have HCI : Hid (ci.length ≤ 140737488355328) := by show _ ≤ _; omega
      have HD1 : Hid (e1.length ≤ 140737488355328) := by show _ ≤ _; omega
      have HD2 : Hid (e2.length ≤ 140737488355328) := by show _ ≤ _; omega
      have HD3 : Hid (e3.length ≤ 1048600) := by show _ ≤ _; omega
      have HXL : Hid (xs.length ≤ 5) := by
       show _ ≤ _
       have h1 := (rdF_len i c4 g4).1
       rw [HX.out] at h1
       have h2 : xs.length = i := h1
       omega
      have HF1 := Lib.hid q1
      have HF2 := Lib.hid q2
      have HF3 := Lib.hid q3
      have HKE : Hid (∀ j, v.ownBlock = some j → P + 1 ≤ j) := fun j hj => (HO.out.lt j hj).1
      clear q1 q2 q3 hcl a1 a2 a3 HX HCL
      go_upto_region 7 with fail
      have hdrw : wi.grownBy wi.drew (some k) := ⟨rfl, rfl, rfl, Nat.le_refl _, fun _ _ _ => rfl⟩
      refine wp_region_noPanic ?_
      refine wp_region_z [12] (fun (V : World) => V.cell? ⟨P, 2, none⟩ = some v) (by kernel_rfl) ?_
      have hHeld : (fun (V : World) => V.cell? ⟨P, 2, none⟩ = some v) _ := (HP.out.grown hdrw (fun e => Nat.lt_irrefl _ (show k < k from (Option.some.inj e) ▸ HKP.out))).c2
      obtain ⟨u0, hu0⟩ : ∃ u, u = wi.drew := ⟨_, rfl⟩
      rw [← hu0] at hHeld hdrw
      rw [← hu0]
      have hb0 : Below wi.heap.size wi u0 := by rw [hu0]; exact (Below.refl _ _).drew
      have HP0 := Lib.hid (HP.out.grown hdrw (fun e => Nat.lt_irrefl _ (show k < k from (Option.some.inj e) ▸ HKP.out)))
      have HO0 := Lib.hid (HO.out.on hb0)
      have HR0 := Lib.hid (HR.out.on hb0)
      have HRB0 := Lib.hid (HRB.out.on hb0)
      have HG0 : Hid (wo.grownBy u0 (some k)) := grow_trans HG.out hdrw
      clear hu0 hdrw hb0 HP HO HR HRB HG
      refine zt 0 ?_
      refine zt 1 ?_
      refine zt 2 ?_
      refine zt 4 ?_
      refine zt 6 ?_
      refine zr 3 (fun C hC => ?_)
      go_simp
      refine (snNext_any w1 u0 k _ _ HR0.out HCI.out).mono ?_
      rintro e u1 ⟨rfl, hr, hg⟩
      rw [HF1.out] at hr ⊢
      have HP1 := Lib.hid (HP0.out.grown hg (fun e => Nat.lt_irrefl _ (show k < k from (Option.some.inj e) ▸ HKP.out)))
      have HRB1 := Lib.hid (HRB0.out.grown hg (fun e => by have := HKR.out; cases e; omega))
      have HO1 := Lib.hid (HO0.out.grown hg (fun q hq e => by have := HKE.out q hq; have := HKP.out; cases e; omega))
      have HR1 := Lib.hid hr
      have HG1 : Hid (wo.grownBy u1 (some k)) := grow_trans HG0.out hg
      clear hr hg HP0 HO0 HR0 HRB0 HG0
      have hHeld : (fun (V : World) => V.cell? ⟨P, 2, none⟩ = some v) u1 := HP1.out.c2
      refine hC.out _ _ (fun _ => hHeld) (fun _ => ?_)
      clear hC C
      (try dsimp only)
      refine zr 5 (fun C hC => ?_)
      go_simp
      refine (snNext_any w1 u1 k _ _ HR1.out HD1.out).mono ?_
      rintro e u2 ⟨rfl, hr, hg⟩
      rw [HF2.out] at hr ⊢
      have HP2 := Lib.hid (HP1.out.grown hg (fun e => Nat.lt_irrefl _ (show k < k from (Option.some.inj e) ▸ HKP.out)))
      have HRB2 := Lib.hid (HRB1.out.grown hg (fun e => by have := HKR.out; cases e; omega))
      have HO2 := Lib.hid (HO1.out.grown hg (fun q hq e => by have := HKE.out q hq; have := HKP.out; cases e; omega))
      have HR2 := Lib.hid hr
      have HG2 : Hid (wo.grownBy u2 (some k)) := grow_trans HG1.out hg
      clear hr hg HP1 HO1 HR1 HRB1 HG1
      have hHeld : (fun (V : World) => V.cell? ⟨P, 2, none⟩ = some v) u2 := HP2.out.c2
      refine hC.out _ _ (fun _ => hHeld) (fun _ => ?_)
      clear hC C
      (try dsimp only)
      refine zr 7 (fun C hC => ?_)
      go_simp
      refine (snNext_any w1 u2 k _ _ HR2.out HD2.out).mono ?_
      rintro e u3 ⟨rfl, hr, hg⟩
      rw [HF3.out] at hr ⊢
      have HP3 := Lib.hid (HP2.out.grown hg (fun e => Nat.lt_irrefl _ (show k < k from (Option.some.inj e) ▸ HKP.out)))
      have HRB3 := Lib.hid (HRB2.out.grown hg (fun e => by have := HKR.out; cases e; omega))
      have HO3 := Lib.hid (HO2.out.grown hg (fun q hq e => by have := HKE.out q hq; have := HKP.out; cases e; omega))
      have HR3 := Lib.hid hr
      have HG3 : Hid (wo.grownBy u3 (some k)) := grow_trans HG2.out hg
      clear hr hg HP2 HO2 HR2 HRB2 HG2
      have hHeld : (fun (V : World) => V.cell? ⟨P, 2, none⟩ = some v) u3 := HP3.out.c2
      refine hC.out _ _ (fun _ => hHeld) (fun _ => ?_)
      clear hC C
      (try dsimp only)
      refine zt 8 ?_
      refine zr 9 (fun C hC => ?_)
      go_simp
      obtain ⟨u4, hu4⟩ : ∃ u, u = u3.alloc (.cells #[.int .i64 xf, .int .i64 xl, .int .i64 xb] 79) := ⟨_, rfl⟩
      have hb4 : Below u3.heap.size u3 u4 := by rw [hu4]; exact (Below.refl _ _).alloc (Nat.le_refl _) _
      have HX4 : Hid (RowAt trK u4 (some ⟨u3.heap.size, 0, none⟩) 1 1 [⟨xf, xl, xb⟩]) := by show RowAt _ _ _ _ _ _; rw [hu4]; exact rowAt_lit trK_ok u3 [⟨xf, xl, xb⟩] (by simp) _ rfl 1 rfl
      have HP4 := Lib.hid (HP3.out.on hb4)
      have HO4 := Lib.hid (HO3.out.on hb4)
      have HR4 := Lib.hid (HR3.out.on hb4)
      have HRB4 := Lib.hid (HRB3.out.on hb4)
      have HG4 : Hid (wo.grownBy u4 (some k)) := grow_below HG3.out hb4
      obtain ⟨G0, hG0⟩ : ∃ G, G = u3.heap.size := ⟨_, rfl⟩
      rw [← hG0] at HX4
      rw [← hu4, ← hG0]
      clear hu4 hb4 hG0 HP3 HO3 HR3 HRB3 HG3
      have hHeld : (fun (V : World) => V.cell? ⟨P, 2, none⟩ = some v) u4 := HP4.out.c2
      refine zc hC hHeld ?_
      clear hC C
      refine zr 10 (fun C hC => ?_)
      refine held_row (by rfl) trK_ok (.tmp 40) (.tmp 48) rfl (P + 1) xs [⟨xf, xl, xb⟩] _ rfl HO4.out HP4.out.lt (some ⟨G0, 0, none⟩) 1 1 rfl HX4.out (by have h0 : xs.length ≤ 5 := HXL.out; omega) ?_
      rintro v2 u5 hap
      obtain ⟨n2, hn2⟩ : ∃ n, (xs ++ [(⟨xf, xl, xb⟩ : Tr)]).length = n := ⟨_, rfl⟩
      obtain ⟨ad2, cap2, hv2, hr2, hk2⟩ := OwnRow.row trK_ok hap.1 hn2
      subst hv2
      have HP5 := Lib.hid (HP4.out.grown hap.2.1 (fun e => by have := HKE.out P e; omega))
      have HO5 := Lib.hid hap.1
      have HR5 := Lib.hid (HR4.out.grown hap.2.1 (fun q hq => by have := HKE.out q hq; have := HKP.out; have := HR4.out.old; constructor <;> omega))
      have HRB5 := Lib.hid (HRB4.out.grown hap.2.1 (fun e => by have := HKE.out Rb e; have := HRP.out; omega))
      have HG5 : Hid (wo.grownBy u5 (some k)) := grow_own HG4.out hap.2.1 (fun q hq => by have := HKE.out q hq; have := HWP.out; omega)
      have r2 := HP5.out.c2
      have f2 := HP5.out.free 2
      clear hap hr2 hk2 hn2 HP4 HO4 HR4 HRB4 HG4 HX4
      have hHeld : (fun (V : World) => V.cell? ⟨P, 2, none⟩ = some v) u5 := HP5.out.c2
      refine zc hC hHeld ?_
      clear hC C
      refine zt 11 ?_
      refine zr 12 (fun C hC => ?_)
      go_simp
      refine hC.out _ _ (zfree_no (by kernel_rfl)) (fun _ => ?_)
      clear hC C
      (try simp only [Act.put, List.setIfInBounds_toArray, List.set_cons_zero, List.set_cons_succ])
      refine wpAnyZ_done (by kernel_rfl) ?_ _
      refine NoPanic.normal ?_
      clear hHeld
      obtain ⟨u6, hu6⟩ : ∃ x, x = u5.setCell ⟨P, 2, none⟩ (.slice ad2 n2 cap2) := ⟨_, rfl⟩
      have HP6 : Hid (PBox u6 P pid pep (.slice ad2 n2 cap2) po) := by show PBox _ _ _ _ _ _; rw [hu6]; exact HP5.out.s2 _
      have HO6 : Hid (OwnRow trK u6 (P + 1) (.slice ad2 n2 cap2) (xs ++ [⟨xf, xl, xb⟩])) := by show OwnRow _ _ _ _ _; rw [hu6]; exact HO5.out.off (Nat.lt_succ_self P) _ _
      have HR6 : Hid (KrAt w1 u6 k e3 j3) := by show KrAt _ _ _ _ _; rw [hu6]; exact HR5.out.off (Nat.ne_of_gt HKP.out) (Nat.le_trans HR5.out.old (Nat.le_of_lt HKP.out)) _
      have HRB6 : Hid (PBox u6 Rb 0 0 (.slice none 0 0) 0) := by show PBox _ _ _ _ _ _; rw [hu6]; exact HRB5.out.off (Nat.ne_of_gt HRP.out) _
      have HG6 : Hid (wo.grownBy u6 (some k)) := by show World.grownBy _ _ _; rw [hu6]; exact grow_new HG5.out HWP.out _
      rw [← hu6]
      clear hu6 HP5 HO5 HR5 HRB5 HG5 r2 f2
      go_wp2
      go_roundw
      case rel => exact ⟨i + 1, e3, j3, _, _, rfl, by omega, HP6.out, HO6.out, HR6.out, HRB6.out, HG6.out, HXS.out, HD3.out⟩
      case measure => simp [intOf]; omega
    · have hd2 : decide (i < kn) = false := decide_eq_false hlt
      have hik : i = kn := by omega
      have HXF : Hid (xs = pl ∧ ci = c5 ∧ gi = g5) := by
       have h1 := HX.out
       rw [hik, HE5n.out] at h1
       exact ⟨(congrArg Prod.fst h1).symm, (congrArg (fun z => z.2.1) h1).symm, (congrArg (fun z => z.2.2) h1).symm⟩
      obtain ⟨rfl, rfl, rfl⟩ := HXF.out
      obtain ⟨pa, pc, hv, hlr, hpk⟩ := OwnRow.row trK_ok HO.out HKN.out
      subst hv
      have HLR := Lib.hid hlr
      have HPK : Hid (∀ a, pa = some a → P + 1 ≤ a.block ∧ a.block < wi.heap.size) := hpk
      have q1 := HR.out.c1
      clear hik HX HE5n hlr hpk HO HXF
      cases gi with
      | true =>
        have HNO : Hid (StNo b) := HNOF.out rfl
        clear HNOF
        go_upto_region 9 with fail
        have KS : Hid (∀ V, Below wi.heap.size wi V → (fun (V : World) => V.cell? ⟨P, 0, none⟩ = some (.int .i64 pid) ∧ V.cell? ⟨P, 1, none⟩ = some (.int .i64 pep) ∧ V.cell? ⟨P, 2, none⟩ = some (.slice pa kn pc) ∧ V.cell? ⟨P, 3, none⟩ = some (.int .i64 po) ∧ V.cell? ⟨k, 1, none⟩ = some (.bool true)) V) := fun V hV => ⟨(HP.out.on hV).c0, (HP.out.on hV).c1, (HP.out.on hV).c2, (HP.out.on hV).c3, (HR.out.on hV).c1⟩
        clear q1
        have hdrw : Below wi.heap.size wi wi.drew := (Below.refl _ wi).drew
        refine wp_region_noPanic ?_
        refine wp_region_z [] (fun (V : World) => V.cell? ⟨P, 0, none⟩ = some (.int .i64 pid) ∧ V.cell? ⟨P, 1, none⟩ = some (.int .i64 pep) ∧ V.cell? ⟨P, 2, none⟩ = some (.slice pa kn pc) ∧ V.cell? ⟨P, 3, none⟩ = some (.int .i64 po) ∧ V.cell? ⟨k, 1, none⟩ = some (.bool true)) (by kernel_rfl) ?_
        have hHeld := KS.out _ hdrw
        obtain ⟨ue_0, hu⟩ : ∃ u, u = wi.drew := ⟨_, rfl⟩
        rw [← hu] at hHeld hdrw
        rw [← hu]
        clear hu
        have HU := Lib.hid hdrw
        clear hdrw
        refine zt 0 ?_
        refine zt 1 ?_
        refine zt 2 ?_
        refine zt 3 ?_
        refine zt 4 ?_
        refine zt 5 ?_
        refine zt 6 ?_
        refine zt 7 ?_
        refine zt 8 ?_
        refine zt 9 ?_
        have HP9 := Lib.hid (HP.out.on HU.out)
        have HRB9 := Lib.hid (HRB.out.on HU.out)
        have HR9 := Lib.hid (HR.out.on HU.out)
        have HLR9 := Lib.hid (HLR.out.keep HU.out)
        have HG9 : Hid (wo.grownBy ue_0 (some k)) := grow_below HG.out HU.out
        have r0 := HRB9.out.c0
        have r1 := HRB9.out.c1
        have r2 := HRB9.out.c2
        have r3 := HRB9.out.c3
        have f0 := HRB9.out.free 0
        have f1 := HRB9.out.free 1
        have f2 := HRB9.out.free 2
        have f3 := HRB9.out.free 3
        refine zr 10 (fun C hC => ?_)
        go_simp
        obtain ⟨u9, hu9⟩ : ∃ z, z = (((ue_0.setCell ⟨Rb, 0, none⟩ (.int .i64 pid)).setCell ⟨Rb, 1, none⟩ (.int .i64 pep)).setCell ⟨Rb, 2, none⟩ (.slice pa kn pc)).setCell ⟨Rb, 3, none⟩ (.int .i64 po) := ⟨_, rfl⟩
        have HRBE : Hid (PBox u9 Rb pid pep (.slice pa kn pc) po) := by show PBox _ _ _ _ _ _; rw [hu9]; exact (((HRB9.out.s0 pid).s1 pep).s2 (.slice pa kn pc)).s3 po
        have HGE : Hid (wo.grownBy u9 (some k)) := by show World.grownBy _ _ _; rw [hu9]; exact grow_new (grow_new (grow_new (grow_new HG9.out HRW.out _) HRW.out _) HRW.out _) HRW.out _
        have hro : Rb ≠ k := Nat.ne_of_gt HKR.out
        have hro1 : w1.heap.size ≤ Rb := Nat.le_trans HR9.out.old (Nat.le_of_lt HKR.out)
        have HRE : Hid (KrAt w1 u9 k ci true) := by show KrAt _ _ _ _ _; rw [hu9]; exact (((HR9.out.off hro hro1 _).off hro hro1 _).off hro hro1 _).off hro hro1 _
        have hpr : ∀ a, pa = some a → a.block ≠ Rb := fun a ha e => by have := (HPK.out a ha).1; have := HRP.out; omega
        have HLE : Hid (RowAt trK u9 pa kn pc xs) := by show RowAt _ _ _ _ _ _; rw [hu9]; exact (((HLR9.out.off hpr _ _).off hpr _ _).off hpr _ _).off hpr _ _
        have HPE : Hid (PBox u9 P pid pep (.slice pa kn pc) po) := by show PBox _ _ _ _ _ _; rw [hu9]; exact (((HP9.out.off (Nat.ne_of_lt HRP.out) _).off (Nat.ne_of_lt HRP.out) _).off (Nat.ne_of_lt HRP.out) _).off (Nat.ne_of_lt HRP.out) _
        have HSZ : Hid (wi.heap.size ≤ u9.heap.size) := by show _ ≤ _; rw [hu9]; simpa using HU.out.size
        (try rw [← hu9])
        clear hu9 hpr hro hro1
        have hHeld : (fun (V : World) => V.cell? ⟨P, 0, none⟩ = some (.int .i64 pid) ∧ V.cell? ⟨P, 1, none⟩ = some (.int .i64 pep) ∧ V.cell? ⟨P, 2, none⟩ = some (.slice pa kn pc) ∧ V.cell? ⟨P, 3, none⟩ = some (.int .i64 po) ∧ V.cell? ⟨k, 1, none⟩ = some (.bool true)) u9 := ⟨HPE.out.c0, HPE.out.c1, HPE.out.c2, HPE.out.c3, HRE.out.c1⟩
        refine zc hC hHeld ?_
        clear hC C
        refine zt 11 ?_
        refine wpAnyZ_done (by kernel_rfl) ?_ _
        refine NoPanic.normal ?_
        clear hHeld KS r0 r1 r2 r3 f0 f1 f2 f3
        go_wp2
        refine bodyPost_ret (v := .tuple #[.agg #[.int .i64 pid, .int .i64 pep, .slice pa kn pc, .int .i64 po], .bool false]) (resultsSnState HRBE.out rfl rfl) rfl ?_
        exact ⟨HGE.out, .inr ⟨pid, pep, _, _, _, po, rfl, HNO.out⟩⟩
      | false =>
        have HST : Hid (b = pdS ⟨pid, pep, xs, po⟩ ++ ci ∧ In64 pid) := state_is HE1.out HE2.out HE3.out HE4.out HE5.out (by omega)
        cases hrr : okP ⟨pid, pep, xs, po⟩ with
        | false =>
          have HNO : Hid (StNo b) := state_wrong HE1.out HE2.out HE3.out HE4.out HE5.out (fun h => by rw [(okP_iff _).2 h] at hrr; cases hrr)
          have HRR : Hid (false = true ↔ RightP ⟨pid, pep, xs, po⟩) := by show _ ↔ _; rw [← okP_iff, hrr]
          clear hrr
          go_upto_region 9 with fail
          have KS : Hid (∀ V, Below wi.heap.size wi V → (fun (V : World) => V.cell? ⟨P, 0, none⟩ = some (.int .i64 pid) ∧ V.cell? ⟨P, 1, none⟩ = some (.int .i64 pep) ∧ V.cell? ⟨P, 2, none⟩ = some (.slice pa kn pc) ∧ V.cell? ⟨P, 3, none⟩ = some (.int .i64 po) ∧ V.cell? ⟨k, 1, none⟩ = some (.bool false)) V) := fun V hV => ⟨(HP.out.on hV).c0, (HP.out.on hV).c1, (HP.out.on hV).c2, (HP.out.on hV).c3, (HR.out.on hV).c1⟩
          clear q1
          have hdrw : Below wi.heap.size wi wi.drew := (Below.refl _ wi).drew
          refine wp_region_noPanic ?_
          refine wp_region_z [] (fun (V : World) => V.cell? ⟨P, 0, none⟩ = some (.int .i64 pid) ∧ V.cell? ⟨P, 1, none⟩ = some (.int .i64 pep) ∧ V.cell? ⟨P, 2, none⟩ = some (.slice pa kn pc) ∧ V.cell? ⟨P, 3, none⟩ = some (.int .i64 po) ∧ V.cell? ⟨k, 1, none⟩ = some (.bool false)) (by kernel_rfl) ?_
          have hHeld := KS.out _ hdrw
          obtain ⟨ue_0, hu⟩ : ∃ u, u = wi.drew := ⟨_, rfl⟩
          rw [← hu] at hHeld hdrw
          rw [← hu]
          clear hu
          have HU := Lib.hid hdrw
          clear hdrw
          refine zt 0 ?_
          refine zt 1 ?_
          refine zt 2 ?_
          refine zt 3 ?_
          refine zt 4 ?_
          refine zt 5 ?_
          refine zt 6 ?_
          refine zt 7 ?_
          refine zr 8 (fun C hC => ?_)
          go_simp
          refine (prRight_any ue_0 pid pep po xs pa kn pc (HLR.out.keep HU.out) (by omega) false HRR.out).mono ?_
          rintro e ue_1 ⟨rfl, hb⟩
          replace HU := Lib.hid (HU.out.trans (hb.mono HU.out.size))
          clear hb
          have hHeld := KS.out _ HU.out
          refine zc hC hHeld ?_
          clear hC C
          refine zt 9 ?_
          have HP9 := Lib.hid (HP.out.on HU.out)
          have HRB9 := Lib.hid (HRB.out.on HU.out)
          have HR9 := Lib.hid (HR.out.on HU.out)
          have HLR9 := Lib.hid (HLR.out.keep HU.out)
          have HG9 : Hid (wo.grownBy ue_1 (some k)) := grow_below HG.out HU.out
          have r0 := HRB9.out.c0
          have r1 := HRB9.out.c1
          have r2 := HRB9.out.c2
          have r3 := HRB9.out.c3
          have f0 := HRB9.out.free 0
          have f1 := HRB9.out.free 1
          have f2 := HRB9.out.free 2
          have f3 := HRB9.out.free 3
          refine zr 10 (fun C hC => ?_)
          go_simp
          obtain ⟨u9, hu9⟩ : ∃ z, z = (((ue_1.setCell ⟨Rb, 0, none⟩ (.int .i64 pid)).setCell ⟨Rb, 1, none⟩ (.int .i64 pep)).setCell ⟨Rb, 2, none⟩ (.slice pa kn pc)).setCell ⟨Rb, 3, none⟩ (.int .i64 po) := ⟨_, rfl⟩
          have HRBE : Hid (PBox u9 Rb pid pep (.slice pa kn pc) po) := by show PBox _ _ _ _ _ _; rw [hu9]; exact (((HRB9.out.s0 pid).s1 pep).s2 (.slice pa kn pc)).s3 po
          have HGE : Hid (wo.grownBy u9 (some k)) := by show World.grownBy _ _ _; rw [hu9]; exact grow_new (grow_new (grow_new (grow_new HG9.out HRW.out _) HRW.out _) HRW.out _) HRW.out _
          have hro : Rb ≠ k := Nat.ne_of_gt HKR.out
          have hro1 : w1.heap.size ≤ Rb := Nat.le_trans HR9.out.old (Nat.le_of_lt HKR.out)
          have HRE : Hid (KrAt w1 u9 k ci false) := by show KrAt _ _ _ _ _; rw [hu9]; exact (((HR9.out.off hro hro1 _).off hro hro1 _).off hro hro1 _).off hro hro1 _
          have hpr : ∀ a, pa = some a → a.block ≠ Rb := fun a ha e => by have := (HPK.out a ha).1; have := HRP.out; omega
          have HLE : Hid (RowAt trK u9 pa kn pc xs) := by show RowAt _ _ _ _ _ _; rw [hu9]; exact (((HLR9.out.off hpr _ _).off hpr _ _).off hpr _ _).off hpr _ _
          have HPE : Hid (PBox u9 P pid pep (.slice pa kn pc) po) := by show PBox _ _ _ _ _ _; rw [hu9]; exact (((HP9.out.off (Nat.ne_of_lt HRP.out) _).off (Nat.ne_of_lt HRP.out) _).off (Nat.ne_of_lt HRP.out) _).off (Nat.ne_of_lt HRP.out) _
          have HSZ : Hid (wi.heap.size ≤ u9.heap.size) := by show _ ≤ _; rw [hu9]; simpa using HU.out.size
          (try rw [← hu9])
          clear hu9 hpr hro hro1
          have hHeld : (fun (V : World) => V.cell? ⟨P, 0, none⟩ = some (.int .i64 pid) ∧ V.cell? ⟨P, 1, none⟩ = some (.int .i64 pep) ∧ V.cell? ⟨P, 2, none⟩ = some (.slice pa kn pc) ∧ V.cell? ⟨P, 3, none⟩ = some (.int .i64 po) ∧ V.cell? ⟨k, 1, none⟩ = some (.bool false)) u9 := ⟨HPE.out.c0, HPE.out.c1, HPE.out.c2, HPE.out.c3, HRE.out.c1⟩
          refine zc hC hHeld ?_
          clear hC C
          refine zt 11 ?_
          refine wpAnyZ_done (by kernel_rfl) ?_ _
          refine NoPanic.normal ?_
          clear hHeld KS r0 r1 r2 r3 f0 f1 f2 f3
          go_wp2
          refine bodyPost_ret (v := .tuple #[.agg #[.int .i64 pid, .int .i64 pep, .slice pa kn pc, .int .i64 po], .bool false]) (resultsSnState HRBE.out rfl rfl) rfl ?_
          exact ⟨HGE.out, .inr ⟨pid, pep, _, _, _, po, rfl, HNO.out⟩⟩
        | true =>
          have HRR : Hid (true = true ↔ RightP ⟨pid, pep, xs, po⟩) := by show _ ↔ _; rw [← okP_iff, hrr]
          clear hrr
          go_upto_region 9 with fail
          have KS : Hid (∀ V, Below wi.heap.size wi V → (fun (V : World) => V.cell? ⟨P, 0, none⟩ = some (.int .i64 pid) ∧ V.cell? ⟨P, 1, none⟩ = some (.int .i64 pep) ∧ V.cell? ⟨P, 2, none⟩ = some (.slice pa kn pc) ∧ V.cell? ⟨P, 3, none⟩ = some (.int .i64 po) ∧ V.cell? ⟨k, 1, none⟩ = some (.bool false)) V) := fun V hV => ⟨(HP.out.on hV).c0, (HP.out.on hV).c1, (HP.out.on hV).c2, (HP.out.on hV).c3, (HR.out.on hV).c1⟩
          clear q1
          have hdrw : Below wi.heap.size wi wi.drew := (Below.refl _ wi).drew
          refine wp_region_noPanic ?_
          refine wp_region_z [] (fun (V : World) => V.cell? ⟨P, 0, none⟩ = some (.int .i64 pid) ∧ V.cell? ⟨P, 1, none⟩ = some (.int .i64 pep) ∧ V.cell? ⟨P, 2, none⟩ = some (.slice pa kn pc) ∧ V.cell? ⟨P, 3, none⟩ = some (.int .i64 po) ∧ V.cell? ⟨k, 1, none⟩ = some (.bool false)) (by kernel_rfl) ?_
          have hHeld := KS.out _ hdrw
          obtain ⟨ue_0, hu⟩ : ∃ u, u = wi.drew := ⟨_, rfl⟩
          rw [← hu] at hHeld hdrw
          rw [← hu]
          clear hu
          have HU := Lib.hid hdrw
          clear hdrw
          refine zt 0 ?_
          refine zt 1 ?_
          refine zt 2 ?_
          refine zt 3 ?_
          refine zt 4 ?_
          refine zt 5 ?_
          refine zt 6 ?_
          refine zt 7 ?_
          refine zr 8 (fun C hC => ?_)
          go_simp
          refine (prRight_any ue_0 pid pep po xs pa kn pc (HLR.out.keep HU.out) (by omega) true HRR.out).mono ?_
          rintro e ue_1 ⟨rfl, hb⟩
          replace HU := Lib.hid (HU.out.trans (hb.mono HU.out.size))
          clear hb
          have hHeld := KS.out _ HU.out
          refine zc hC hHeld ?_
          clear hC C
          refine zt 9 ?_
          have HP9 := Lib.hid (HP.out.on HU.out)
          have HRB9 := Lib.hid (HRB.out.on HU.out)
          have HR9 := Lib.hid (HR.out.on HU.out)
          have HLR9 := Lib.hid (HLR.out.keep HU.out)
          have HG9 : Hid (wo.grownBy ue_1 (some k)) := grow_below HG.out HU.out
          have r0 := HRB9.out.c0
          have r1 := HRB9.out.c1
          have r2 := HRB9.out.c2
          have r3 := HRB9.out.c3
          have f0 := HRB9.out.free 0
          have f1 := HRB9.out.free 1
          have f2 := HRB9.out.free 2
          have f3 := HRB9.out.free 3
          refine zr 10 (fun C hC => ?_)
          go_simp
          obtain ⟨u9, hu9⟩ : ∃ z, z = (((ue_1.setCell ⟨Rb, 0, none⟩ (.int .i64 pid)).setCell ⟨Rb, 1, none⟩ (.int .i64 pep)).setCell ⟨Rb, 2, none⟩ (.slice pa kn pc)).setCell ⟨Rb, 3, none⟩ (.int .i64 po) := ⟨_, rfl⟩
          have HRBE : Hid (PBox u9 Rb pid pep (.slice pa kn pc) po) := by show PBox _ _ _ _ _ _; rw [hu9]; exact (((HRB9.out.s0 pid).s1 pep).s2 (.slice pa kn pc)).s3 po
          have HGE : Hid (wo.grownBy u9 (some k)) := by show World.grownBy _ _ _; rw [hu9]; exact grow_new (grow_new (grow_new (grow_new HG9.out HRW.out _) HRW.out _) HRW.out _) HRW.out _
          have hro : Rb ≠ k := Nat.ne_of_gt HKR.out
          have hro1 : w1.heap.size ≤ Rb := Nat.le_trans HR9.out.old (Nat.le_of_lt HKR.out)
          have HRE : Hid (KrAt w1 u9 k ci false) := by show KrAt _ _ _ _ _; rw [hu9]; exact (((HR9.out.off hro hro1 _).off hro hro1 _).off hro hro1 _).off hro hro1 _
          have hpr : ∀ a, pa = some a → a.block ≠ Rb := fun a ha e => by have := (HPK.out a ha).1; have := HRP.out; omega
          have HLE : Hid (RowAt trK u9 pa kn pc xs) := by show RowAt _ _ _ _ _ _; rw [hu9]; exact (((HLR9.out.off hpr _ _).off hpr _ _).off hpr _ _).off hpr _ _
          have HPE : Hid (PBox u9 P pid pep (.slice pa kn pc) po) := by show PBox _ _ _ _ _ _; rw [hu9]; exact (((HP9.out.off (Nat.ne_of_lt HRP.out) _).off (Nat.ne_of_lt HRP.out) _).off (Nat.ne_of_lt HRP.out) _).off (Nat.ne_of_lt HRP.out) _
          have HSZ : Hid (wi.heap.size ≤ u9.heap.size) := by show _ ≤ _; rw [hu9]; simpa using HU.out.size
          (try rw [← hu9])
          clear hu9 hpr hro hro1
          have hHeld : (fun (V : World) => V.cell? ⟨P, 0, none⟩ = some (.int .i64 pid) ∧ V.cell? ⟨P, 1, none⟩ = some (.int .i64 pep) ∧ V.cell? ⟨P, 2, none⟩ = some (.slice pa kn pc) ∧ V.cell? ⟨P, 3, none⟩ = some (.int .i64 po) ∧ V.cell? ⟨k, 1, none⟩ = some (.bool false)) u9 := ⟨HPE.out.c0, HPE.out.c1, HPE.out.c2, HPE.out.c3, HRE.out.c1⟩
          refine zc hC hHeld ?_
          clear hC C
          refine zt 11 ?_
          refine wpAnyZ_done (by kernel_rfl) ?_ _
          refine NoPanic.normal ?_
          clear hHeld KS r0 r1 r2 r3 f0 f1 f2 f3
          go_wp2
          refine bodyPost_ret (v := .tuple #[.agg #[.int .i64 pid, .int .i64 pep, .slice pa kn pc, .int .i64 po], .bool true]) (resultsSnState HRBE.out rfl rfl) rfl ?_
          have hkn2 := HKN.out
          subst hkn2
          exact ⟨HGE.out, .inl ⟨⟨pid, pep, xs, po⟩, pa, pc, ci, rfl, HLE.out, (fun a ha => by have h1 := HPK.out a ha; have := HWP.out; have := HSZ.out; omega), HRE.out, HRR.out.1 (by trivial), HST.out.2, HST.out.1⟩⟩
end Go.Proofs.YtgohekjkbgfeeaaGreat
namespace Go.SnapMath
open Go.ProdMath
open Go.BatMath (In64)
open Go.VarMath (encN AllB)
set_option linter.unusedVariables false

/-- The bytes of a table's states behind their number, and what stands behind them. -/
def TabS (b : List Nat) (l : List Pd) (r : List Nat) : Prop := AccOk l ∧ l.length ≤ 1000000 ∧ b = encN (l.length : Int) ++ (pdsS l ++ r)
def TabNo (b : List Nat) : Prop := ∀ l r, ¬ TabS b l r
def lastW (acc : List Pd) : Int := match acc.getLast? with
 | none => -1
 | some q => q.id
theorem lastW_snoc (acc : List Pd) (p : Pd) : lastW (acc ++ [p]) = p.id := by
 unfold lastW
 rw [List.getLast?_append, List.getLast?_singleton]
 rfl
theorem lastW_yes {acc : List Pd} {p : Pd} (h : lastW acc < p.id) : lastId acc p = true := by
 unfold lastW at h
 unfold lastId
 cases hg : acc.getLast? with
 | none => rfl
 | some q => rw [hg] at h; exact decide_eq_true h
theorem pd_one {p q : Pd} {a b : List Nat} (hp : PdIn p) (hq : PdIn q) (e : pdS p ++ a = pdS q ++ b) : p = q ∧ a = b := by
 have h1 := getPd_enc hp a
 rw [e, getPd_enc hq b] at h1
 simp only [Option.some.injEq, Prod.mk.injEq] at h1
 exact ⟨h1.1.symm, h1.2.symm⟩
theorem pds_pre : ∀ {acc l : List Pd} {b r : List Nat}, (∀ p ∈ acc, PdIn p) → (∀ p ∈ l, PdIn p) → acc.length ≤ l.length → pdsS acc ++ b = pdsS l ++ r → ∃ l2, l = acc ++ l2 ∧ b = pdsS l2 ++ r
 | [], l, b, r, _, _, _, e => ⟨l, rfl, e⟩
 | p :: acc, [], b, r, _, _, h, e => absurd h (by simp)
 | p :: acc, q :: l, b, r, ha, hl, h, e => by
   have e2 : pdS p ++ (pdsS acc ++ b) = pdS q ++ (pdsS l ++ r) := by
    have e3 : pdS p ++ pdsS acc ++ b = pdS q ++ pdsS l ++ r := e
    rwa [List.append_assoc, List.append_assoc] at e3
   obtain ⟨h1, h2⟩ := pd_one (ha p (by simp)) (hl q (by simp)) e2
   obtain ⟨l2, h3, h4⟩ := pds_pre (fun x hx => ha x (by simp [hx])) (fun x hx => hl x (by simp [hx])) (Nat.le_of_succ_le_succ h) h2
   exact ⟨l2, by rw [h1, h3]; rfl, h4⟩
theorem tab_head {b b2 r : List Nat} {k : Int} {g : Bool} {l : List Pd} (h : TabS b l r) (e : rdN b false = (k, b2, g)) : k = (l.length : Int) ∧ g = false ∧ b2 = pdsS l ++ r := by
 obtain ⟨h1, h2, h3⟩ := h
 rw [h3, rdN_enc (in_nat h2)] at e
 cases e
 exact ⟨rfl, rfl, rfl⟩
theorem tab_fell {b b2 : List Nat} {k : Int} (e : rdN b false = (k, b2, true)) : TabNo b := fun l r h => by
 have := (tab_head h e).2.1
 cases this
theorem tab_neg {b b2 : List Nat} {k : Int} {g : Bool} (e : rdN b false = (k, b2, g)) (h : k < 0) : TabNo b := fun l r ht => by
 have := (tab_head ht e).1
 omega
/-- No state is next. -/
theorem tab_stop {b b2 c : List Nat} {k : Int} {g : Bool} {acc : List Pd} (e : rdN b false = (k, b2, g)) (ha : AccOk acc) (hb : b2 = pdsS acc ++ c) (hlt : (acc.length : Int) < k) (hn : StNo c) : TabNo b := fun l r h => by
 obtain ⟨h1, h2, h3⟩ := tab_head h e
 rw [hb] at h3
 obtain ⟨l2, h4, h5⟩ := pds_pre ha.pdIn h.1.pdIn (by omega) h3
 cases l2 with
 | nil => rw [h4, List.append_nil] at h1; omega
 | cons q l2 =>
   have hq : q ∈ l := by rw [h4]; simp
   refine hn q (pdsS l2 ++ r) (h.1.right q hq) (h.1.ids q hq) ?_
   rw [h5]
   show pdS q ++ pdsS l2 ++ r = _
   rw [List.append_assoc]
/-- One is next that does not rise. -/
theorem tab_low {b b2 c d : List Nat} {k : Int} {g : Bool} {acc : List Pd} {p : Pd} (e : rdN b false = (k, b2, g)) (ha : AccOk acc) (hb : b2 = pdsS acc ++ c) (hlt : (acc.length : Int) < k) (hp : RightP p) (hi : In64 p.id) (hc : c = pdS p ++ d) (hl : p.id ≤ lastW acc) : TabNo b := fun l r h => by
 obtain ⟨h1, h2, h3⟩ := tab_head h e
 rw [hb] at h3
 obtain ⟨l2, h4, h5⟩ := pds_pre ha.pdIn h.1.pdIn (by omega) h3
 cases l2 with
 | nil => rw [h4, List.append_nil] at h1; omega
 | cons q l2 =>
   have hq : q ∈ l := by rw [h4]; simp
   have e2 : pdS p ++ d = pdS q ++ (pdsS l2 ++ r) := by
    rw [← hc, h5]
    show pdS q ++ pdsS l2 ++ r = _
    rw [List.append_assoc]
   obtain ⟨h6, _⟩ := pd_one (right_in hp hi) (right_in (h.1.right q hq) (h.1.ids q hq)) e2
   have h7 := h.1.asc
   rw [h4] at h7
   have h8 := last_asc h7
   rw [← h6] at h8
   have h9 := hp.1.1
   unfold lastId at h8
   unfold lastW at hl
   cases hg : acc.getLast? with
   | none => rw [hg] at hl; have h10 : p.id ≤ -1 := hl; omega
   | some q2 =>
     rw [hg] at hl h8
     have h10 : p.id ≤ q2.id := hl
     have h11 : q2.id < p.id := of_decide_eq_true h8
     omega
theorem tab_done {b b2 c : List Nat} {k : Int} {acc : List Pd} (e : rdN b false = (k, b2, false)) (ha : AccOk acc) (hL : acc.length ≤ 1000000) (hb : b2 = pdsS acc ++ c) (hk : (acc.length : Int) = k) : TabS b acc c := by
 refine ⟨ha, hL, ?_⟩
 rw [(rdN_is e).1, hb, hk]
theorem pdsS_snoc (acc : List Pd) (p : Pd) (c : List Nat) : pdsS (acc ++ [p]) ++ c = pdsS acc ++ (pdS p ++ c) := by
 induction acc with
 | nil => show pdS p ++ [] ++ c = _; rw [List.append_nil]; rfl
 | cons q acc ih =>
   show pdS q ++ pdsS (acc ++ [p]) ++ c = pdS q ++ pdsS acc ++ (pdS p ++ c)
   rw [List.append_assoc, ih, List.append_assoc]
theorem snap_tab {bs : List Nat} {l : List Pd} {n : Int} (h : IsSnap bs l n) (hL : bs.length ≤ 1048600) : CrcMath.okB bs = true ∧ ∃ c, rdN (bs.drop 4) false = (n, c, false) ∧ TabS c l [] := by
 obtain ⟨ha, hn, e⟩ := h
 have h4 := snap_few (n := n) ha
 rw [← e] at h4
 have hin : PdsIn l := ⟨by omega, ha.pdIn⟩
 have hn64 : In64 n := ⟨by omega, by omega⟩
 refine ⟨?_, encN (l.length : Int) ++ pdsS l, ?_, ha, hin.1, by rw [List.append_nil]⟩
 · rw [e]
   exact CrcMath.okB_seal (bodyS_all hin hn64)
 · rw [e]
   unfold snapS
   rw [CrcMath.drop_sealB]
   exact rdN_enc hn64 _
theorem tab_snap {bs c : List Nat} {l : List Pd} {n : Int} (hb : AllB bs) (hok : CrcMath.okB bs = true) (e : rdN (bs.drop 4) false = (n, c, false)) (ht : TabS c l []) (h0 : 0 ≤ n) (h1 : n ≤ 1099511627776) : IsSnap bs l n := by
 refine ⟨ht.1, ⟨h0, h1⟩, ?_⟩
 have h4 : 4 ≤ bs.length := by
  rcases Nat.lt_or_ge bs.length 4 with h | h
  · rw [CrcMath.okB_short h] at hok; cases hok
  · exact h
 rw [← (CrcMath.sealB_drop h4 hb).2 hok]
 unfold snapS bodyS
 rw [(rdN_is e).1, ht.2.2, List.append_nil]
/-- What reading gives is no snapshot. -/
theorem snap_no {bs : List Nat} (hL : bs.length ≤ 1048600) (h : CrcMath.okB bs = false ∨ (∃ n c g, rdN (bs.drop 4) false = (n, c, g) ∧ (g = true ∨ n < 0 ∨ 1099511627776 < n ∨ TabNo c ∨ ∃ l r, r ≠ [] ∧ TabS c l r))) : ∀ l m, ¬ IsSnap bs l m := fun l m hs => by
 obtain ⟨h1, c, h2, h3⟩ := snap_tab hs hL
 rcases h with h | ⟨n, c2, g, e, h⟩
 · rw [h1] at h; cases h
 · rw [h2] at e
   cases e
   have h5 := hs.2.1
   rcases h with h | h | h | h | ⟨l2, r, hr, h⟩
   · cases h
   · omega
   · omega
   · exact h _ _ h3
   · have e1 := h3.2.2
     rw [h.2.2] at e1
     have e2 := rdN_enc (in_nat h.2.1) (pdsS l2 ++ r)
     rw [e1, rdN_enc (in_nat h3.2.1)] at e2
     have e3 : (l.length : Int) = (l2.length : Int) := congrArg (fun z => z.1) e2
     have e4 : pdsS l ++ [] = pdsS l2 ++ r := congrArg (fun z => z.2.1) e2
     obtain ⟨l3, e5, e6⟩ := pds_pre h3.1.pdIn h.1.pdIn (by omega) e4
     have e7 := congrArg List.length e6
     rw [List.length_append] at e7
     have e8 : r.length = 0 := by simp only [List.length_nil] at e7; omega
     exact hr (List.eq_nil_of_length_eq_zero e8)
end Go.SnapMath
namespace Go.Proofs.YtgohekjkbgfeeaaGreat
open Go.RowKit
open Go.SeqMath
open Go.ProdMath
open Go.BatMath hiding AllB take_all
set_option linter.unusedVariables false

/-- What a look-up finds: the state of a producer, or none. -/
theorem tc_look (ms : List PM) (id : Int) (h0 : -9223372036854775808 ≤ id) (h1 : id ≤ 9223372036854775807) (hfew : fewP (pds ms)) :
 ∃ (p : Pd) (kn : Bool) (ad : Option Addr) (n cap : Nat), (lookD (pds ms) id).getD Pd.zero = p ∧ (lookD (pds ms) id).isSome = kn ∧ n ≤ 5 ∧
   (∀ W km, TcMap W km ms → (Instr.lookup 103 (.map (some km)) (.int .i64 id) true).run Tryz.prog W = .ok (.tuple #[.agg #[.int .i64 p.id, .int .i64 p.epoch, .slice ad n cap, .int .i64 p.opn], .bool kn]) W) ∧
   (∀ W km, TcMap W km ms → (Instr.lookup 103 (.map (some km)) (.int .i64 id) false).run Tryz.prog W = .ok (.agg #[.int .i64 p.id, .int .i64 p.epoch, .slice ad n cap, .int .i64 p.opn]) W) ∧
   ∀ W, LastsAt W ms → RowAt trK W ad n cap p.last := by
 have hl := lookM_p ms id
 cases hm : lookM ms id with
 | none =>
   rw [hm] at hl
   refine ⟨Pd.zero, false, none, 0, 0, by rw [← hl]; rfl, by rw [← hl]; rfl, by omega, fun W km hW => ?_, fun W km hW => ?_, fun W hW => rowAt_nil W⟩
   all_goals have hz : (zeroValue 78).run Tryz.prog W = .ok (.agg #[.int .i64 0, .int .i64 0, .slice none 0 0, .int .i64 0]) W := Tryz.zeroValue78 W
   · exact mapAs_none tcMapT keyI hW _ (key_int h0 h1) (fun q hq e => lookM_none hm q hq (by simpa [pmE] using e)) _ hz true
   · exact mapAs_none tcMapT keyI hW _ (key_int h0 h1) (fun q hq e => lookM_none hm q hq (by simpa [pmE] using e)) _ hz false
 | some m =>
   rw [hm] at hl
   obtain ⟨hmem, hid⟩ := lookM_some hm
   refine ⟨m.p, true, m.ad, m.p.last.length, m.cap, by rw [← hl]; rfl, by rw [← hl]; rfl, hfew m.p (List.mem_map.2 ⟨m, hmem, rfl⟩), fun W km hW => ?_, fun W km hW => ?_, fun W hW => hW m hmem⟩
   · have h2 := mapAs_some tcMapT keyI hW m hmem true
     rw [← hid]
     exact h2
   · have h2 := mapAs_some tcMapT keyI hW m hmem false
     rw [← hid]
     exact h2
end Go.Proofs.YtgohekjkbgfeeaaGreat
namespace Go.Proofs.YtgohekjkbgfeeaaGreat
open Go.RowKit
open Go.SeqMath
open Go.ProdMath
open Go.BatMath hiding AllB take_all
set_option linter.unusedVariables false

/-- The blocks ahead of the result: the batch that came in, the result's, and how many there are. -/
structure AP (w : World) (xo : Obj) (W : World) : Prop where
 xb : W.heap[w.heap.size + 1]? = some xo
 rb : PBox W (w.heap.size + 2) 0 0 (.slice none 0 0) 0
 sz : W.heap.size = w.heap.size + 3
 bel : Below w.heap.size w W
theorem AP.p {w W : World} {xo : Obj} (h : AP w xo W) (j : Nat) (u : Value) : AP w xo (W.setCell ⟨w.heap.size, j, none⟩ u) :=
 ⟨box_off h.xb (by omega) _, h.rb.off (by omega) _, by rw [size_set]; exact h.sz, h.bel.setCell (Nat.le_refl _) _⟩
theorem resultsPrApply {tmps : Array Value} {B : Nat} {W : World} {b0 b1 b3 : Int} {v : Value} (h : PBox W B b0 b1 v b3) (ht : tmps.getD 6 undef = .pointer (some ⟨B, 0, none⟩)) :
 (results Tryz.f45 tmps).run Tryz.prog W = .ok (.agg #[.int .i64 b0, .int .i64 b1, v, .int .i64 b3]) W := by
 rw [results_cell_one (p := 6) (ty := 78) Tryz.results45, ht]
 have hl := run_loadVar_row (P := Tryz.prog) W B 78 78 _ (0, 0) _ h Tryz.underlying78 rfl (by kernel_rfl)
 simp only [asAddr, Sem.run_pure, Result.andThen, hl]
/-- What the walk knows ahead of the new state. -/
def ApCut (w : World) (xo : Obj) (b2 : Int) (l0 : List Tr) (o0 : Int) (W : World) : Prop :=
 ∃ i1 e1 a1 n1 c1 o1 l1, AP w xo W ∧ PBox W w.heap.size i1 e1 (.slice a1 n1 c1) o1 ∧ RowAt trK W a1 n1 c1 l1 ∧ n1 ≤ 1000000 ∧ Hid ((if b2 = e1 then l1 else []) = l0) ∧ Hid (o1 = o0)
set_option maxRecDepth 100000 in
set_option maxHeartbeats 8000000 in
theorem prApply_any (w : World) (id ep op : Int) (last : List Tr) (ad : Option Addr) (n cap : Nat) (hl : RowAt trK w ad n cap last) (hn : n ≤ 1000000) (known : Bool) (b0 b1 b2 b3 : Int) (b4 : Bool) (b5 : Int) (recs : List Rc) (rd : Option Addr) (rn rc : Nat) (hrl : recs.length = rn) (hrn : rn ≤ 140737488355328) (p : Pd) (hp : applyD ⟨id, ep, last, op⟩ known ⟨b0, b1, b2, b3, b4, b5, recs⟩ = p) :
 Calls Tryz.prog 45 #[.agg #[.int .i64 id, .int .i64 ep, .slice ad n cap, .int .i64 op], .bool known, .agg #[.int .i64 b0, .int .i64 b1, .int .i64 b2, .int .i64 b3, .bool b4, .int .i64 b5, .slice rd rn rc]] w (GivesApply w p) := by
 obtain ⟨xo, hxo⟩ : ∃ xo : Obj, xo = (.cells #[.int .i64 b0, .int .i64 b1, .int .i64 b2, .int .i64 b3, .bool b4, .int .i64 b5, .slice rd rn rc] 56 (0, 0)) := ⟨_, rfl⟩
 obtain ⟨W0, hW0⟩ : ∃ W0, W0 = (((w.alloc (.cells #[.int .i64 id, .int .i64 ep, .slice ad n cap, .int .i64 op] 78)).alloc (.cells #[.int .i64 b0, .int .i64 b1, .int .i64 b2, .int .i64 b3, .bool b4, .int .i64 b5, .slice rd rn rc] 56)).alloc (.cells #[.int .i64 0, .int .i64 0, .slice none 0 0, .int .i64 0] 78)) := ⟨_, rfl⟩
 have HA0 : Hid (AP w xo W0) := by
  show AP _ _ _
  rw [hW0, hxo]
  have e2 := Below.refl w.heap.size w
  refine ⟨?_, ?_, by simp, ((e2.alloc (Nat.le_refl _) _).alloc (by simp) _).alloc (by simp <;> omega) _⟩
  · rw [heap_alloc_old _ _ (by simp)]
    have := heap_alloc_new (w.alloc (.cells #[.int .i64 id, .int .i64 ep, .slice ad n cap, .int .i64 op] 78)) (.cells #[.int .i64 b0, .int .i64 b1, .int .i64 b2, .int .i64 b3, .bool b4, .int .i64 b5, .slice rd rn rc] 56)
    simpa using this
  · show (_ : World).heap[_]? = _
    have := heap_alloc_new ((w.alloc (.cells #[.int .i64 id, .int .i64 ep, .slice ad n cap, .int .i64 op] 78)).alloc (.cells #[.int .i64 b0, .int .i64 b1, .int .i64 b2, .int .i64 b3, .bool b4, .int .i64 b5, .slice rd rn rc] 56)) (.cells #[.int .i64 0, .int .i64 0, .slice none 0 0, .int .i64 0] 78)
    simpa using this
 have HPB : Hid (PBox W0 w.heap.size id ep (.slice ad n cap) op) := by
  show (_ : World).heap[_]? = _
  rw [hW0, heap_alloc_old _ _ (by simp <;> omega), heap_alloc_old _ _ (by simp)]
  exact heap_alloc_new w _
 have HL0 := Lib.hid (hl.keep HA0.out.bel)
 have HPP : Hid (applyD ⟨id, ep, last, op⟩ known ⟨b0, b1, b2, b3, b4, b5, recs⟩ = p) := hp
 have HRL := Lib.hid hrl
 have HXO := Lib.hid hxo
 clear hl hp hrl hxo
 go_enter Tryz.func45, Tryz.ntmps45
 go_upto_if 9 with (fail)
 rw [← hW0]
 clear hW0
 obtain ⟨l0, hl0⟩ : ∃ l0, l0 = oldLast ⟨id, ep, last, op⟩ known ⟨b0, b1, b2, b3, b4, b5, recs⟩ := ⟨_, rfl⟩
 obtain ⟨o0, ho0⟩ : ∃ o0, o0 = oldOpen ⟨id, ep, last, op⟩ known := ⟨_, rfl⟩
 have HPE1 : Hid (b5 ≠ 0 → p = ⟨b1, b2, l0, -1⟩) := by
  intro hm
  rw [← HPP.out, hl0]
  simp [applyD, hm]
 have HPE2 : Hid (b5 = 0 → ∀ oz, oz = (if b4 = true ∧ o0 < 0 then b0 else o0) → p = ⟨b1, b2, newLast l0 ⟨b3, lastI b3 rn, b0⟩, oz⟩) := by
  intro hm oz hoz
  rw [hoz, ← HPP.out, hl0, ho0, ← HRL.out]
  simp [applyD, hm]
 have HLE : Hid (l0 = if known = true ∧ ep = b2 then last else []) := by show l0 = _; rw [hl0]; rfl
 have HOE : Hid (o0 = if known = true then op else -1) := by show o0 = _; rw [ho0]; rfl
 clear hl0 ho0 HPP HRL
 go_cut [] from 8 (fun wx => ApCut w xo b2 l0 o0 wx)
 case first =>
  have q0 := HPB.out.c0
  have q1 := HPB.out.c1
  have q2 := HPB.out.c2
  have q3 := HPB.out.c3
  have f0 := HPB.out.free 0
  have f1 := HPB.out.free 1
  have f2 := HPB.out.free 2
  have f3 := HPB.out.free 3
  cases known
  · go_wp2
    go_meet
    case rel =>
     refine ⟨0, 0, none, 0, 0, -1, [], (((HA0.out.p 0 _).p 1 _).p 2 _).p 3 _, (((HPB.out.s0 0).s1 0).s2 (.slice none 0 0)).s3 (-1), rowAt_nil _, by omega, ?_, ?_⟩
     · show _ = _; rw [HLE.out]; simp
     · show _ = _; rw [HOE.out]; rfl
  · go_wp2
    go_meet
    case rel =>
     refine ⟨id, ep, ad, n, cap, op, last, HA0.out, HPB.out, HL0.out, hn, ?_, ?_⟩
     · show _ = _
       rw [HLE.out]
       by_cases h : b2 = ep
       · rw [if_pos h, if_pos (by simp [h])]
       · rw [if_neg h, if_neg (fun h2 => h h2.2.symm)]
     · show _ = _; rw [HOE.out]; rfl
 case rest =>
  obtain ⟨i1, e1, a1, n1, c1, o1, l1, hap, hpb, hrw, hn1, hle, hoe⟩ := hcut
  have HAP := Lib.hid hap
  have HPB1 := Lib.hid hpb
  have HRW := Lib.hid hrw
  clear hap hpb hrw HA0 HPB HL0 HLE HOE hn
  have hxb : BoxAt wc (w.heap.size + 1) b0 b1 b2 b3 b4 b5 (.slice rd rn rc) := by have := HAP.out.xb; rw [HXO.out] at this; exact this
  have HXB := Lib.hid hxb
  clear hxb
  have x1 := HXB.out.c1
  have x2 := HXB.out.c2
  have y1 := HPB1.out.c1
  go_upto_region 4 with fail
  obtain ⟨W1, hW1⟩ : ∃ W1, W1 = wc.alloc (.cells #[.int .i64 b1, .int .i64 b2, .slice none 0 0, .int .i64 (-1)] 78) := ⟨_, rfl⟩
  obtain ⟨po, hpo⟩ : ∃ po : Obj, po = .cells #[.int .i64 i1, .int .i64 e1, .slice a1 n1 c1, .int .i64 o1] 78 (0, 0) := ⟨_, rfl⟩
  have hb1 : Below wc.heap.size wc W1 := by rw [hW1]; exact (Below.refl _ _).alloc (Nat.le_refl _) _
  have HPB2 := Lib.hid (HPB1.out.on hb1)
  have HA1 : Hid (AS w po xo b1 b2 (.slice none 0 0) (-1) W1) := by
   show AS _ _ _ _ _ _ _ _
   refine ⟨by rw [hpo]; exact HPB2.out, ?_, HAP.out.rb.on hb1, ?_, HAP.out.bel.trans (hb1.mono HAP.out.bel.size)⟩
   · rw [hb1.block _ (lt_of_block HAP.out.xb)]; exact HAP.out.xb
   · have h3 := pbox_new wc b1 b2 (.slice none 0 0) (-1)
     rw [← hW1, HAP.out.sz] at h3
     exact h3
  have HL1 := Lib.hid (HRW.out.keep hb1)
  have HXB1 := Lib.hid (HXB.out.on hb1)
  have hsz := HAP.out.sz
  rw [← hW1, hsz]
  have HPO := Lib.hid hpo
  clear hW1 hb1 hsz x1 x2 y1 HPB1 HRW HXB HAP hpo
  have x2 := HXB1.out.c2
  have y1 := HPB2.out.c1
  have y2 := HPB2.out.c2
  have o2 := HA1.out.ob.c2
  have f2 := HA1.out.ob.free 2
  go_upto_if 20 with (fail)
  go_cut [] from 16 (fun wx => ∃ v, AS w po xo b1 b2 v (-1) wx ∧ OwnRow trK wx (w.heap.size + 4) v l0)
  case first =>
   by_cases hee : b2 = e1
   · have hd : (b2 == e1) = true := by rw [hee]; simp
     have e2 : l0 = l1 := by rw [← hle.out, if_pos hee]
     have HE2 := Lib.hid e2
     have HVE : Hid (OwnRow trK W1 (w.heap.size + 4) (.slice none 0 0) []) := ownRow_nil _ _ _
     clear hee e2
     go_wp2_with (at_builtin; refine list_row (by rfl) trK_ok (.tmp 22) (.tmp 24) rfl (w.heap.size + 4) [] l1 _ rfl HVE.out HA1.out.lt a1 n1 c1 rfl HL1.out (by rw [List.length_nil]; omega) ?_)
     intro v2 w2 hap
     obtain ⟨ad2, cap2, hv2, _, _⟩ := OwnRow.row trK_ok (l := l1) (n := n1) hap.1 HL1.out.length
     subst hv2
     have HO2 : Hid (OwnRow trK w2 (w.heap.size + 4) (.slice ad2 n1 cap2) l1) := hap.1
     have HA2 : Hid (AS w po xo b1 b2 (.slice none 0 0) (-1) w2) := HA1.out.grown hap.2.1 fun k hk => (HVE.out.lt k hk).1
     clear hap HVE o2 f2
     have o2 := HA2.out.ob.c2
     have f2 := HA2.out.ob.free 2
     go_wp2
     go_meet
     case rel => exact ⟨_, HA2.out.s2 (.slice ad2 n1 cap2), by rw [HE2.out]; exact HO2.out.off (by omega) _ _⟩
   · have hd : (b2 == e1) = false := beq_false_of_ne hee
     have e2 : l0 = [] := by rw [← hle.out, if_neg hee]
     clear hee
     go_wp2
     go_meet
     case rel => exact ⟨_, HA1.out, by rw [e2]; exact ownRow_nil _ _ _⟩
  case rest =>
   obtain ⟨v, ha, ho⟩ := hcut
   have HA := Lib.hid ha
   have HO := Lib.hid ho
   have hxb : BoxAt wc (w.heap.size + 1) b0 b1 b2 b3 b4 b5 (.slice rd rn rc) := by have := ha.xb; rw [HXO.out] at this; exact this
   have HXC := Lib.hid hxb
   have hn0 : l0.length ≤ 1000000 := by
    have hll := HL1.out.length
    rw [← hle.out]
    split
    · omega
    · exact Nat.zero_le _
   clear hxb ha ho HXB1 HPB2 HA1 HL1 hle x2 y1 y2 o2 f2
   obtain ⟨n0, hln0⟩ : ∃ n0, l0.length = n0 := ⟨_, rfl⟩
   rw [hln0] at hn0
   obtain ⟨ad0, cap0, hv0, hr0, hk0⟩ := OwnRow.row trK_ok HO.out hln0
   subst hv0
   have HLN := Lib.hid hln0
   have HR0 := Lib.hid hr0
   have HK0 : Hid (∀ a, ad0 = some a → w.heap.size + 4 ≤ a.block ∧ a.block < wc.heap.size) := fun a ha => hk0 a ha
   clear hln0 hr0 hk0
   have p5 := HXC.out.c5
   by_cases hm : b5 = 0
   · have hd : (b5 == 0) = true := by rw [hm]; rfl
     have hdn : (b5 != 0) = false := by rw [hm]; rfl
     have HPE : Hid (∀ oz, oz = (if b4 = true ∧ o0 < 0 then b0 else o0) → p = ⟨b1, b2, newLast l0 ⟨b3, lastI b3 rn, b0⟩, oz⟩) := HPE2.out hm
     obtain ⟨lv, hlv⟩ : ∃ lv, lastI b3 rn = lv := ⟨_, rfl⟩
     rw [hlv] at HPE
     have HLV := Lib.hid hlv
     have HM := Lib.hid hm
     clear HPE1 HPE2 hm hlv
     go_upto_region 8 with fail
     clear p5
     have KS : Hid (∀ W, AS w po xo b1 b2 (.slice ad0 n0 cap0) (-1) W → (fun (W : World) => W.cell? ⟨(w.heap.size + 1), 0, none⟩ = some (.int .i64 b0) ∧ W.cell? ⟨(w.heap.size + 1), 1, none⟩ = some (.int .i64 b1) ∧ W.cell? ⟨(w.heap.size + 1), 2, none⟩ = some (.int .i64 b2) ∧ W.cell? ⟨(w.heap.size + 1), 3, none⟩ = some (.int .i64 b3) ∧ W.cell? ⟨(w.heap.size + 1), 4, none⟩ = some (.bool b4) ∧ W.cell? ⟨(w.heap.size + 1), 5, none⟩ = some (.int .i64 b5) ∧ W.cell? ⟨(w.heap.size + 1), 6, none⟩ = some (.slice rd rn rc) ∧ W.cell? ⟨(w.heap.size + 3), 0, none⟩ = some (.int .i64 b1) ∧ W.cell? ⟨(w.heap.size + 3), 1, none⟩ = some (.int .i64 b2) ∧ W.cell? ⟨(w.heap.size + 3), 2, none⟩ = some (.slice ad0 n0 cap0) ∧ W.cell? ⟨(w.heap.size + 3), 3, none⟩ = some (.int .i64 (-1)) ∧ W.frozen? ⟨w.heap.size + 3, 2, none⟩ = false) W) := by
      intro W hW
      have hX : BoxAt W (w.heap.size + 1) b0 b1 b2 b3 b4 b5 (.slice rd rn rc) := by have := hW.xb; rw [HXO.out] at this; exact this
      exact ⟨hX.c0, hX.c1, hX.c2, hX.c3, hX.c4, hX.c5, hX.c6, hW.ob.c0, hW.ob.c1, hW.ob.c2, hW.ob.c3, hW.ob.free 2⟩
     have hdr : Below wc.heap.size wc wc.drew := (Below.refl _ wc).drew
     have HAd := Lib.hid (HA.out.on hdr)
     have HOd := Lib.hid (HO.out.on hdr)
     refine wp_region_noPanic ?_
     refine wp_region_z [12] (fun (W : World) => W.cell? ⟨(w.heap.size + 1), 0, none⟩ = some (.int .i64 b0) ∧ W.cell? ⟨(w.heap.size + 1), 1, none⟩ = some (.int .i64 b1) ∧ W.cell? ⟨(w.heap.size + 1), 2, none⟩ = some (.int .i64 b2) ∧ W.cell? ⟨(w.heap.size + 1), 3, none⟩ = some (.int .i64 b3) ∧ W.cell? ⟨(w.heap.size + 1), 4, none⟩ = some (.bool b4) ∧ W.cell? ⟨(w.heap.size + 1), 5, none⟩ = some (.int .i64 b5) ∧ W.cell? ⟨(w.heap.size + 1), 6, none⟩ = some (.slice rd rn rc) ∧ W.cell? ⟨(w.heap.size + 3), 0, none⟩ = some (.int .i64 b1) ∧ W.cell? ⟨(w.heap.size + 3), 1, none⟩ = some (.int .i64 b2) ∧ W.cell? ⟨(w.heap.size + 3), 2, none⟩ = some (.slice ad0 n0 cap0) ∧ W.cell? ⟨(w.heap.size + 3), 3, none⟩ = some (.int .i64 (-1)) ∧ W.frozen? ⟨w.heap.size + 3, 2, none⟩ = false) (by kernel_rfl) ?_
     have hHeld := KS.out _ HAd.out
     obtain ⟨u0, hu0⟩ : ∃ u, u = wc.drew := ⟨_, rfl⟩
     rw [← hu0] at hHeld HAd HOd
     rw [← hu0]
     clear hu0
     refine zt 0 ?_
     refine zt 1 ?_
     refine zt 2 ?_
     refine zt 3 ?_
     refine zt 4 ?_
     refine zt 6 ?_
     refine zt 7 ?_
     refine zr 5 (fun C hC => ?_)
     go_simp
     refine (prEnd_any u0 b0 b1 b2 b3 b4 b5 rd rn rc HM.out hrn lv HLV.out).mono ?_
     rintro e uz ⟨rfl, hbz⟩
     have HAz := Lib.hid (HAd.out.on hbz)
     have HOz := Lib.hid (HOd.out.on hbz)
     clear hbz
     go_wp2_with fail
     have hHeld := KS.out _ HAz.out
     refine zc hC hHeld ?_
     clear hC C
     refine zt 8 ?_
     refine zr 9 (fun C hC => ?_)
     go_simp
     obtain ⟨u1, hu1⟩ : ∃ u, u = uz.alloc (.cells #[.int .i64 b3, .int .i64 lv, .int .i64 b0] 79) := ⟨_, rfl⟩
     have hb1 : Below uz.heap.size uz u1 := by rw [hu1]; exact (Below.refl _ _).alloc (Nat.le_refl _) _
     have HA1 := Lib.hid (HAz.out.on hb1)
     have HO1 := Lib.hid (HOz.out.on hb1)
     have HX1 : Hid (RowAt trK u1 (some ⟨uz.heap.size, 0, none⟩) 1 1 [⟨b3, lv, b0⟩]) := by show RowAt _ _ _ _ _ _; rw [hu1]; exact rowAt_lit trK_ok uz [⟨b3, lv, b0⟩] (by simp) _ rfl 1 rfl
     obtain ⟨G0, hG0⟩ : ∃ G, G = uz.heap.size := ⟨_, rfl⟩
     rw [← hG0] at HX1
     rw [← hu1, ← hG0]
     clear hu1 hb1 hG0
     have hHeld := KS.out _ HA1.out
     refine zc hC hHeld ?_
     clear hC C
     refine zr 10 (fun C hC => ?_)
     refine held_row (by rfl) trK_ok (.tmp 32) (.tmp 40) rfl (w.heap.size + 4) l0 [⟨b3, lv, b0⟩] _ rfl HO1.out HA1.out.lt (some ⟨G0, 0, none⟩) 1 1 rfl HX1.out (by rw [HLN.out]; omega) ?_
     rintro v2 u2 hap
     obtain ⟨ad2, cap2, hv2, hr2, hk2⟩ := OwnRow.row trK_ok hap.1 (n := n0 + 1) (by rw [List.length_append, HLN.out]; rfl)
     subst hv2
     have HA2 : Hid (AS w po xo b1 b2 (.slice ad0 n0 cap0) (-1) u2) := HA1.out.grown hap.2.1 fun k hk => (HO1.out.lt k hk).1
     have HR2 := Lib.hid hr2
     have HK2 : Hid (∀ a, ad2 = some a → w.heap.size + 4 ≤ a.block ∧ a.block < u2.heap.size) := fun a ha => hk2 a ha
     clear hap hr2 hk2 HO1 HA1 HX1 HAz HOz
     have hHeld := KS.out _ HA2.out
     refine zc hC hHeld ?_
     clear hC C
     refine zt 11 ?_
     refine zr 12 (fun C hC => ?_)
     go_simp
     refine hC.out _ _ (zfree_no (by kernel_rfl)) (fun _ => ?_)
     clear hC C
     (try simp only [Act.put, List.setIfInBounds_toArray, List.set_cons_zero, List.set_cons_succ])
     refine wpAnyZ_done (by kernel_rfl) ?_ _
     refine NoPanic.normal ?_
     clear hHeld
     obtain ⟨w3, hw3⟩ : ∃ w3, w3 = u2.setCell ⟨w.heap.size + 3, 2, none⟩ (.slice ad2 (n0 + 1) cap2) := ⟨_, rfl⟩
     have HA3 : Hid (AS w po xo b1 b2 (.slice ad2 (n0 + 1) cap2) (-1) w3) := by show AS _ _ _ _ _ _ _ _; rw [hw3]; exact HA2.out.s2 _
     have HR3 : Hid (RowAt trK w3 ad2 (n0 + 1) cap2 (l0 ++ [⟨b3, lv, b0⟩])) := by show RowAt _ _ _ _ _ _; rw [hw3]; exact HR2.out.off (fun a ha => by have := (HK2.out a ha).1; omega) _ _
     have HK3 : Hid (∀ a, ad2 = some a → w.heap.size + 4 ≤ a.block ∧ a.block < w3.heap.size) := fun a ha => by rw [hw3, size_set]; exact HK2.out a ha
     rw [← hw3]
     clear hw3 HA2 HR2 HA HAd HOd HR0 HK0 HXC HO HK2
     obtain ⟨k, hk⟩ : ∃ k, k = n0 + 1 - 5 := ⟨_, rfl⟩
     obtain ⟨ad4, cap4, hcut, hr4, hk4⟩ := row_from trK_ok HR3.out k (by omega)
     have hcut : ∀ W, (Instr.slice 76 (.slice ad2 (n0 + 1) cap2) (some (.int .i64 (k : Int))) none none).run Tryz.prog W = .ok (.slice ad4 (n0 + 1 - k) cap4) W := hcut
     have hmx : (if (n0 : Int) + 1 - 5 < 0 then 0 else (n0 : Int) + 1 - 5) = (k : Int) := by split <;> omega
     have HK4 : Hid (∀ a, ad4 = some a → w.heap.size + 4 ≤ a.block ∧ a.block < w3.heap.size) := fun a ha => by
      obtain ⟨a0, h0, h1⟩ := hk4 a ha
      rw [h1]; exact HK3.out a0 h0
     obtain ⟨l4, hl4⟩ : ∃ l4, l4 = (l0 ++ [(⟨b3, lv, b0⟩ : Tr)]).drop k := ⟨_, rfl⟩
     have HPF : Hid (∀ oz, oz = (if b4 = true ∧ o1 < 0 then b0 else o1) → p = ⟨b1, b2, l4, oz⟩) := by
      intro oz hoz
      rw [hoe.out] at hoz
      rw [HPE.out oz hoz, hl4, hk]
      unfold newLast
      rw [HLN.out]
     rw [← hl4] at hr4
     have HR4 := Lib.hid hr4
     have HKK := Lib.hid hk
     clear hr4 hk4 hl4 HPE HR3 HK3 hk
     have o0_ := HA3.out.ob.c2
     have g2 := HA3.out.ob.free 2
     go_upto_region 10 with fail
     obtain ⟨n4, hn4⟩ : ∃ n4, n4 = n0 + 1 - k := ⟨_, rfl⟩
     rw [← hn4] at HR4
     rw [← hn4]
     obtain ⟨w4, hw4⟩ : ∃ w4, w4 = w3.setCell ⟨w.heap.size + 3, 2, none⟩ (.slice ad4 n4 cap4) := ⟨_, rfl⟩
     have HA4 : Hid (AS w po xo b1 b2 (.slice ad4 n4 cap4) (-1) w4) := by show AS _ _ _ _ _ _ _ _; rw [hw4]; exact HA3.out.s2 _
     have HR5 : Hid (RowAt trK w4 ad4 n4 cap4 l4) := by show RowAt _ _ _ _ _ _; rw [hw4]; exact HR4.out.off (fun a ha => by have := (HK4.out a ha).1; omega) _ _
     have HK5 : Hid (∀ a, ad4 = some a → w.heap.size + 4 ≤ a.block ∧ a.block < w4.heap.size) := fun a ha => by rw [hw4, size_set]; exact HK4.out a ha
     rw [← hw4]
     clear hw4 HA3 HR4 HK4 hcut hmx hn4 o0_ g2 KS
     have HPC : Hid (PBox w4 w.heap.size i1 e1 (.slice a1 n1 c1) o1) := by show (_ : World).heap[_]? = _; rw [HA4.out.pb, HPO.out]
     have y3 := HPC.out.c3
     have g3 := HA4.out.ob.free 3
     have oc3 := HA4.out.ob.c3
     go_upto_region 11 with fail
     obtain ⟨w5, hw5⟩ : ∃ w5, w5 = w4.setCell ⟨w.heap.size + 3, 3, none⟩ (.int .i64 o1) := ⟨_, rfl⟩
     have HA5 : Hid (AS w po xo b1 b2 (.slice ad4 n4 cap4) o1 w5) := by show AS _ _ _ _ _ _ _ _; rw [hw5]; exact HA4.out.s3 _
     have HR6 : Hid (RowAt trK w5 ad4 n4 cap4 l4) := by show RowAt _ _ _ _ _ _; rw [hw5]; exact HR5.out.off (fun a ha => by have := (HK5.out a ha).1; omega) _ _
     have HK6 : Hid (∀ a, ad4 = some a → w.heap.size + 4 ≤ a.block ∧ a.block < w5.heap.size) := fun a ha => by rw [hw5, size_set]; exact HK5.out a ha
     rw [← hw5]
     clear hw5 HA4 HR5 HK5 y3 g3 oc3 HPC
     have HPC : Hid (PBox w5 w.heap.size i1 e1 (.slice a1 n1 c1) o1) := by show (_ : World).heap[_]? = _; rw [HA5.out.pb, HPO.out]
     have hX : BoxAt w5 (w.heap.size + 1) b0 b1 b2 b3 b4 b5 (.slice rd rn rc) := by have := HA5.out.xb; rw [HXO.out] at this; exact this
     have p4 := hX.c4
     cases b4
     · have HP : Hid (p = ⟨b1, b2, l4, o1⟩) := HPF.out o1 (by simp)
       clear HPF hX
       have oc0 := HA5.out.ob.c0
       have g0 := HA5.out.ob.free 0
       have r0 := HA5.out.rb.c0
       have f0 := HA5.out.rb.free 0
       have oc1 := HA5.out.ob.c1
       have g1 := HA5.out.ob.free 1
       have r1 := HA5.out.rb.c1
       have f1 := HA5.out.rb.free 1
       have oc2 := HA5.out.ob.c2
       have g2 := HA5.out.ob.free 2
       have r2 := HA5.out.rb.c2
       have f2 := HA5.out.rb.free 2
       have oc3 := HA5.out.ob.c3
       have g3 := HA5.out.ob.free 3
       have r3 := HA5.out.rb.c3
       have f3 := HA5.out.rb.free 3
       go_wp2
       exact bodyPost_ret (resultsPrApply ((((HA5.out.rb.s0 b1).s1 b2).s2 (.slice ad4 n4 cap4)).s3 o1) rfl) rfl (gives_apply HA5.out HP.out HR6.out HK6.out)
     · have y0 := HPC.out.c0
       have y1 := HPC.out.c1
       have y2 := HPC.out.c2
       have y3 := HPC.out.c3
       clear hX
       by_cases hlt : 0 ≤ o1
       · have HD : Hid (decide (0 ≤ o1) = true) := decide_eq_true hlt
         have HP : Hid (p = ⟨b1, b2, l4, o1⟩) := HPF.out o1 (by simp [Int.not_lt.2 hlt])
         clear HPF hlt
         go_wp2_with fail
         refine (prOpen_any w5 i1 e1 o1 a1 n1 c1 true HD.out).mono ?_
         rintro e w6 ⟨rfl, hb6⟩
         have HA6 := Lib.hid (HA5.out.on hb6)
         have HR7 := Lib.hid (HR6.out.keep hb6)
         have HK7 : Hid (∀ a, ad4 = some a → w.heap.size + 4 ≤ a.block ∧ a.block < w6.heap.size) := fun a ha => ⟨(HK6.out a ha).1, Nat.lt_of_lt_of_le (HK6.out a ha).2 hb6.size⟩
         clear hb6 HA5 HR6 HK6 y0 y1 y2 y3 p4 HPC
         have oc0 := HA6.out.ob.c0
         have g0 := HA6.out.ob.free 0
         have r0 := HA6.out.rb.c0
         have f0 := HA6.out.rb.free 0
         have oc1 := HA6.out.ob.c1
         have g1 := HA6.out.ob.free 1
         have r1 := HA6.out.rb.c1
         have f1 := HA6.out.rb.free 1
         have oc2 := HA6.out.ob.c2
         have g2 := HA6.out.ob.free 2
         have r2 := HA6.out.rb.c2
         have f2 := HA6.out.rb.free 2
         have oc3 := HA6.out.ob.c3
         have g3 := HA6.out.ob.free 3
         have r3 := HA6.out.rb.c3
         have f3 := HA6.out.rb.free 3
         go_wp2
         exact bodyPost_ret (resultsPrApply ((((HA6.out.rb.s0 b1).s1 b2).s2 (.slice ad4 n4 cap4)).s3 o1) rfl) rfl (gives_apply HA6.out HP.out HR7.out HK7.out)
       · have HD : Hid (decide (0 ≤ o1) = false) := decide_eq_false hlt
         have HP : Hid (p = ⟨b1, b2, l4, b0⟩) := HPF.out b0 (by simp [Int.not_le.1 hlt])
         clear HPF hlt
         go_wp2_with fail
         refine (prOpen_any w5 i1 e1 o1 a1 n1 c1 false HD.out).mono ?_
         rintro e w6 ⟨rfl, hb6⟩
         have HA6 := Lib.hid (HA5.out.on hb6)
         have HR7 := Lib.hid (HR6.out.keep hb6)
         have HK7 : Hid (∀ a, ad4 = some a → w.heap.size + 4 ≤ a.block ∧ a.block < w6.heap.size) := fun a ha => ⟨(HK6.out a ha).1, Nat.lt_of_lt_of_le (HK6.out a ha).2 hb6.size⟩
         have hX : BoxAt w6 (w.heap.size + 1) b0 b1 b2 b3 true b5 (.slice rd rn rc) := by have := HA6.out.xb; rw [HXO.out] at this; exact this
         clear hb6 HA5 HR6 HK6 y0 y1 y2 y3 p4 HPC
         have p0 := hX.c0
         clear hX
         have oc0 := HA6.out.ob.c0
         have g0 := HA6.out.ob.free 0
         have r0 := HA6.out.rb.c0
         have f0 := HA6.out.rb.free 0
         have oc1 := HA6.out.ob.c1
         have g1 := HA6.out.ob.free 1
         have r1 := HA6.out.rb.c1
         have f1 := HA6.out.rb.free 1
         have oc2 := HA6.out.ob.c2
         have g2 := HA6.out.ob.free 2
         have r2 := HA6.out.rb.c2
         have f2 := HA6.out.rb.free 2
         have oc3 := HA6.out.ob.c3
         have g3 := HA6.out.ob.free 3
         have r3 := HA6.out.rb.c3
         have f3 := HA6.out.rb.free 3
         go_wp2
         exact bodyPost_ret (resultsPrApply (((((HA6.out.s3 b0).rb.s0 b1).s1 b2).s2 (.slice ad4 n4 cap4)).s3 b0) rfl) rfl (gives_apply (HA6.out.s3 b0) HP.out (HR7.out.off (fun a ha => by have := (HK7.out a ha).1; omega) _ _) (fun a ha => by rw [size_set]; exact HK7.out a ha))
   · have hd : (b5 == 0) = false := beq_false_of_ne hm
     have hdn : (b5 != 0) = true := by unfold bne; rw [hd]; rfl
     have HPE := Lib.hid (HPE1.out hm)
     clear HPE1 HPE2 hm
     have oc0 := HA.out.ob.c0
     have g0 := HA.out.ob.free 0
     have r0 := HA.out.rb.c0
     have f0 := HA.out.rb.free 0
     have oc1 := HA.out.ob.c1
     have g1 := HA.out.ob.free 1
     have r1 := HA.out.rb.c1
     have f1 := HA.out.rb.free 1
     have oc2 := HA.out.ob.c2
     have g2 := HA.out.ob.free 2
     have r2 := HA.out.rb.c2
     have f2 := HA.out.rb.free 2
     have oc3 := HA.out.ob.c3
     have g3 := HA.out.ob.free 3
     have r3 := HA.out.rb.c3
     have f3 := HA.out.rb.free 3
     go_wp2
     exact bodyPost_ret (resultsPrApply ((((HA.out.rb.s0 b1).s1 b2).s2 (.slice ad0 n0 cap0)).s3 (-1)) rfl) rfl (gives_apply HA.out HPE.out HR0.out HK0.out)
end Go.Proofs.YtgohekjkbgfeeaaGreat
namespace Go.Proofs.YtgohekjkbgfeeaaGreat
open Go.RowKit
open Go.SeqMath
open Go.ProdMath
open Go.BatMath hiding AllB take_all
set_option linter.unusedVariables false

theorem right_prod {b : Bat} (h : rightE b = 0) : b.prod = -1 ∨ 0 ≤ b.prod := by
 unfold rightE at h
 split at h
 · omega
 · split at h
   · split at h
     · rename_i h2; exact .inr (head_of h2.2.1).1
     · omega
   · split at h
     · rename_i h2
       rcases h2.1 with h3 | h3
       · exact .inl (none_of h3).1
       · exact .inr (head_of h3.1).1
     · omega
end Go.Proofs.YtgohekjkbgfeeaaGreat
