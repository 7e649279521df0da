/- At another base a batch is the same, but for its base; two that are not the same have not the same bytes. -/
import Derived.Test.YtlpmfhccfihnfaaBatLaw2
namespace Go.Proofs.Ytlpmfhccfihnfaa
open Go.RowKit
open Go.SeqMath
open Go.BatMath hiding AllB getD_lt take_all
open Go.VarMath (longB length_longB)
set_option linter.unusedVariables false

set_option maxRecDepth 100000 in
set_option maxHeartbeats 8000000 in
theorem rebased_any (w : World) (ad : Option Addr) (len cap : Nat) (zs : List Int) (h : Nums w ad len zs) (hL : len ≤ 140737488355328) (bd : Option Addr) (len' cap' : Nat) (ys : List Int) (h' : Nums w bd len' ys) (hL' : len' ≤ 140737488355328) (c : Int) :
    Calls Try.prog 5 #[.slice ad len cap, .slice bd len' cap', .int .i64 c] w fun e w' => e = .returned (.bool true) ∧ Below w.heap.size w w' := by
  have hmc := mask40 c
  obtain ⟨y, hy⟩ : ∃ x, x = c % 1099511627776 := ⟨_, rfl⟩
  have hy0 : 0 ≤ y ∧ y ≤ 1099511627776 := by omega
  rw [← hy] at hmc
  have HN := Lib.hid h
  have HN2 := Lib.hid h'
  clear h h' hy
  go_enter Try.func5, Try.ntmps5
  go_wp2_with fail
  refine (made_bat w ad len cap zs HN.out hL 5 (by decide) (by decide)).mono ?_
  rintro e w1 ⟨p1, e1, s1, t1, m1, l1, ad1, n1, cap1, rfl, HR, HW, HRE1, HB1⟩
  go_wp2_with fail
  refine (made_bat w1 bd len' cap' ys (HN2.out.keep HB1.out (Nat.le_refl _)) hL' 5 (by decide) (by decide)).mono ?_
  rintro e w2 ⟨p2, e2, s2, t2, m2, l2, ad2, n2, cap2, rfl, HR2, HW2, HREd, HB2⟩
  go_upto_region 2 with fail
  obtain ⟨W2, hW2⟩ : ∃ W2, W2 = ((w2.alloc (.cells #[.int .i64 5, .int .i64 p1, .int .i64 e1, .int .i64 s1, .bool t1, .int .i64 m1, .slice ad1 n1 cap1] 24)).alloc (.cells #[.int .i64 5, .int .i64 p2, .int .i64 e2, .int .i64 s2, .bool t2, .int .i64 m2, .slice ad2 n2 cap2] 24)) := ⟨_, rfl⟩
  have hB12 : Below w2.heap.size w2 W2 := by rw [hW2]; exact ((Below.refl _ _).alloc (Nat.le_refl _) _).alloc (by simp) _
  have HBW := Lib.hid (HB1.out.trans ((HB2.out.trans (hB12.mono HB2.out.size)).mono HB1.out.size))
  have HREb := Lib.hid (HRE1.out.keep (HB2.out.trans (hB12.mono HB2.out.size)))
  have HREd2 := Lib.hid (HREd.out.keep hB12)
  have HX2 : Hid (BoxAt W2 w2.heap.size 5 p1 e1 s1 t1 m1 (.slice ad1 n1 cap1)) := by
    show BoxAt _ _ _ _ _ _ _ _ _
    rw [hW2]
    exact (boxAt_new w2 5 p1 e1 s1 t1 m1 (.slice ad1 n1 cap1)).keep ((Below.refl _ _).alloc (Nat.le_refl _) _) (by simp)
  have HY2 : Hid (BoxAt W2 (w2.heap.size + 1) 5 p2 e2 s2 t2 m2 (.slice ad2 n2 cap2)) := by
    show BoxAt _ _ _ _ _ _ _ _ _
    rw [hW2]
    have := boxAt_new (w2.alloc (.cells #[.int .i64 5, .int .i64 p1, .int .i64 e1, .int .i64 s1, .bool t1, .int .i64 m1, .slice ad1 n1 cap1] 24)) 5 p2 e2 s2 t2 m2 (.slice ad2 n2 cap2)
    simpa using this
  rw [← hW2]
  clear hW2 hB12
  obtain ⟨B1, hB1⟩ : ∃ B, B = w2.heap.size := ⟨_, rfl⟩
  obtain ⟨B2, hB2⟩ : ∃ B, B = w2.heap.size + 1 := ⟨_, rfl⟩
  rw [← hB1] at HX2
  rw [← hB2] at HY2
  rw [← hB2, ← hB1]
  clear hB1 hB2
  obtain ⟨bt1, _, _⟩ := bytes_two ⟨5, p1, e1, s1, t1, m1, l1⟩ y
  have HRY := Lib.hid (right_at HR.out hy0.1 hy0.2)
  have HWY := Lib.hid (at_wf HW.out (n := y) ⟨by omega, by omega⟩)
  have hl36 : (bytesB ⟨5, p1, e1, s1, t1, m1, l1⟩).length ≤ 2404 := (ok_len (ok_of HR.out)).1
  obtain ⟨N, hN⟩ : ∃ N, (bytesB ⟨5, p1, e1, s1, t1, m1, l1⟩).length = N := ⟨_, rfl⟩
  obtain ⟨M, hM⟩ : ∃ M, (bytesB ⟨5, p2, e2, s2, t2, m2, l2⟩).length = M := ⟨_, rfl⟩
  rw [hN] at bt1 hl36
  have HNN := Lib.hid hN
  have HMM := Lib.hid hM
  have HNY := Lib.hid bt1
  obtain ⟨r, hr⟩ : ∃ r : Bool, r = true ↔ (⟨5, p1, e1, s1, t1, m1, l1⟩ : Bat) = ⟨5, p2, e2, s2, t2, m2, l2⟩ := by
    by_cases e : (⟨5, p1, e1, s1, t1, m1, l1⟩ : Bat) = ⟨5, p2, e2, s2, t2, m2, l2⟩
    · exact ⟨true, by simp [e]⟩
    · exact ⟨false, by simp [e]⟩
  have HRR := Lib.hid hr
  clear hN hM bt1 hr
  have p_0 := HX2.out.c0
  have p_1 := HX2.out.c1
  have p_2 := HX2.out.c2
  have p_3 := HX2.out.c3
  have p_4 := HX2.out.c4
  have p_5 := HX2.out.c5
  have p_6 := HX2.out.c6
  go_wp2_with fail
  refine (bytes_right W2 ⟨5, p1, e1, s1, t1, m1, l1⟩ ad1 n1 cap1 N HREb.out HR.out HW.out HNN.out).mono ?_
  rintro e w3 ⟨g3, k3, rfl, HP3, _, hb3⟩
  have HBa := Lib.hid hb3.out
  have HY3 := Lib.hid (HY2.out.on hb3.out)
  clear hb3
  clear p_0 p_1 p_2 p_3 p_4 p_5 p_6
  have p_0 := HY3.out.c0
  have p_1 := HY3.out.c1
  have p_2 := HY3.out.c2
  have p_3 := HY3.out.c3
  have p_4 := HY3.out.c4
  have p_5 := HY3.out.c5
  have p_6 := HY3.out.c6
  go_wp2_with fail
  refine (bytes_right w3 ⟨5, p2, e2, s2, t2, m2, l2⟩ ad2 n2 cap2 M (HREd2.out.keep HBa.out) HR2.out HW2.out HMM.out).mono ?_
  rintro e w4 ⟨g4, k4, rfl, HQ4, _, hb4⟩
  have HBb := Lib.hid (HBa.out.trans (hb4.out.mono HBa.out.size))
  have HP4 := Lib.hid (HP3.out.keep hb4.out (Nat.le_refl _))
  clear hb4 HBa HY3 HP3
  clear p_0 p_1 p_2 p_3 p_4 p_5 p_6
  go_wp2_with fail
  refine (rebase_right w4 _ N k3 ⟨5, p1, e1, s1, t1, m1, l1⟩ HP4.out.1 HR.out HW.out y hy0.1 hy0.2).mono ?_
  rintro e w5 ⟨g5, k5, rfl, HS5, hb5⟩
  have HBc := Lib.hid (HBb.out.trans (hb5.out.mono HBb.out.size))
  have HP5 := Lib.hid (HP4.out.keep hb5.out (Nat.le_refl _))
  have HQ5 := Lib.hid (HQ4.out.keep hb5.out (Nat.le_refl _))
  clear hb5 HBb HP4 HQ4 hmc
  obtain ⟨nl, hnl⟩ : ∃ nl, l1.length = nl := ⟨_, rfl⟩
  have HNL := Lib.hid hnl
  clear hnl
  go_wp2_with fail
  refine (read_good w5 _ N k5 _ HS5.out.1 (by omega) (Bat.at ⟨5, p1, e1, s1, t1, m1, l1⟩ y) (by have := good_of HRY.out HWY.out []; rw [List.append_nil] at this; exact this) nl N HNL.out HNY.out).mono ?_
  rintro e w6 ⟨ad6, cap6, rfl, hre6, _, hb6⟩
  simp only [Bat.at]
  have HX6 := Lib.hid (HX2.out.on (HBc.out.trans (hb6.out.mono HBc.out.size)))
  have HX6' := Lib.hid (HX6.out.on ((Below.refl w6.heap.size w6).alloc (Nat.le_refl _) (.cells #[.int .i64 y, .int .i64 p1, .int .i64 e1, .int .i64 s1, .bool t1, .int .i64 m1, .slice ad6 nl cap6] 24)))
  have p_0 := HX6'.out.c0
  have p_1 := HX6'.out.c1
  have p_2 := HX6'.out.c2
  have p_3 := HX6'.out.c3
  have p_4 := HX6'.out.c4
  have p_5 := HX6'.out.c5
  have p_6 := HX6'.out.c6
  go_upto_region 9 with fail
  obtain ⟨W7, hW7⟩ : ∃ W7, W7 = ((w6.alloc (.cells #[.int .i64 y, .int .i64 p1, .int .i64 e1, .int .i64 s1, .bool t1, .int .i64 m1, .slice ad6 nl cap6] 24)).alloc (.cells #[.int .i64 y, .int .i64 p1, .int .i64 e1, .int .i64 s1, .bool t1, .int .i64 m1, .slice ad1 n1 cap1] 24)) := ⟨_, rfl⟩
  have hB67 : Below w6.heap.size w6 W7 := by rw [hW7]; exact ((Below.refl _ _).alloc (Nat.le_refl _) _).alloc (by simp) _
  have HZ7 : Hid (BoxAt W7 w6.heap.size y p1 e1 s1 t1 m1 (.slice ad6 nl cap6)) := by
    show BoxAt _ _ _ _ _ _ _ _ _
    rw [hW7]
    exact (boxAt_new w6 y p1 e1 s1 t1 m1 (.slice ad6 nl cap6)).keep ((Below.refl _ _).alloc (Nat.le_refl _) _) (by simp)
  have HU7 : Hid (BoxAt W7 (w6.heap.size + 1) y p1 e1 s1 t1 m1 (.slice ad1 n1 cap1)) := by
    show BoxAt _ _ _ _ _ _ _ _ _
    rw [hW7]
    have := boxAt_new (w6.alloc (.cells #[.int .i64 y, .int .i64 p1, .int .i64 e1, .int .i64 s1, .bool t1, .int .i64 m1, .slice ad6 nl cap6] 24)) y p1 e1 s1 t1 m1 (.slice ad1 n1 cap1)
    simpa using this
  have HBd := Lib.hid (hb6.out.trans (hB67.mono hb6.out.size))
  have HBe := Lib.hid (HBc.out.trans (HBd.out.mono HBc.out.size))
  have HBF := Lib.hid (HBW.out.trans (HBe.out.mono HBW.out.size))
  have HX7 := Lib.hid (HX2.out.on HBe.out)
  have HY7 := Lib.hid (HY2.out.on HBe.out)
  have HP7 := Lib.hid (HP5.out.keep HBd.out (Nat.le_refl _))
  have HQ7 := Lib.hid (HQ5.out.keep HBd.out (Nat.le_refl _))
  have HREb7 := Lib.hid (HREb.out.keep HBe.out)
  have HREd7 := Lib.hid (HREd2.out.keep HBe.out)
  have HREx7 := Lib.hid (hre6.out.keep hB67)
  rw [← hW7]
  clear hW7 hB67 hre6 hb6 HX6 HX6' p_0 p_1 p_2 p_3 p_4 p_5 p_6
  obtain ⟨B3, hB3⟩ : ∃ B, B = w6.heap.size := ⟨_, rfl⟩
  obtain ⟨B4, hB4⟩ : ∃ B, B = w6.heap.size + 1 := ⟨_, rfl⟩
  rw [← hB3] at HZ7
  rw [← hB4] at HU7
  rw [← hB4, ← hB3]
  clear hB3 hB4
  obtain ⟨sB, hsB⟩ : ∃ s, s = str (bytesB ⟨5, p1, e1, s1, t1, m1, l1⟩) := ⟨_, rfl⟩
  obtain ⟨sD, hsD⟩ : ∃ s, s = str (bytesB ⟨5, p2, e2, s2, t2, m2, l2⟩) := ⟨_, rfl⟩
  have KS : Hid (∀ W, Below W7.heap.size W7 W → (convert 34 9 (.slice (some ⟨g3, 0, none⟩) N k3)).run Try.prog W = .ok (.string sB) W ∧ (convert 34 9 (.slice (some ⟨g4, 0, none⟩) M k4)).run Try.prog W = .ok (.string sD) W ∧ W.cell? ⟨B1, 0, none⟩ = some (.int .i64 5) ∧ W.cell? ⟨B1, 1, none⟩ = some (.int .i64 p1) ∧ W.cell? ⟨B1, 2, none⟩ = some (.int .i64 e1) ∧ W.cell? ⟨B1, 3, none⟩ = some (.int .i64 s1) ∧ W.cell? ⟨B1, 4, none⟩ = some (.bool t1) ∧ W.cell? ⟨B1, 5, none⟩ = some (.int .i64 m1) ∧ W.cell? ⟨B1, 6, none⟩ = some (.slice ad1 n1 cap1) ∧ W.cell? ⟨B2, 0, none⟩ = some (.int .i64 5) ∧ W.cell? ⟨B2, 1, none⟩ = some (.int .i64 p2) ∧ W.cell? ⟨B2, 2, none⟩ = some (.int .i64 e2) ∧ W.cell? ⟨B2, 3, none⟩ = some (.int .i64 s2) ∧ W.cell? ⟨B2, 4, none⟩ = some (.bool t2) ∧ W.cell? ⟨B2, 5, none⟩ = some (.int .i64 m2) ∧ W.cell? ⟨B2, 6, none⟩ = some (.slice ad2 n2 cap2) ∧ W.cell? ⟨B3, 0, none⟩ = some (.int .i64 y) ∧ W.cell? ⟨B3, 1, none⟩ = some (.int .i64 p1) ∧ W.cell? ⟨B3, 2, none⟩ = some (.int .i64 e1) ∧ W.cell? ⟨B3, 3, none⟩ = some (.int .i64 s1) ∧ W.cell? ⟨B3, 4, none⟩ = some (.bool t1) ∧ W.cell? ⟨B3, 5, none⟩ = some (.int .i64 m1) ∧ W.cell? ⟨B3, 6, none⟩ = some (.slice ad6 nl cap6) ∧ W.cell? ⟨B4, 0, none⟩ = some (.int .i64 y) ∧ W.cell? ⟨B4, 1, none⟩ = some (.int .i64 p1) ∧ W.cell? ⟨B4, 2, none⟩ = some (.int .i64 e1) ∧ W.cell? ⟨B4, 3, none⟩ = some (.int .i64 s1) ∧ W.cell? ⟨B4, 4, none⟩ = some (.bool t1) ∧ W.cell? ⟨B4, 5, none⟩ = some (.int .i64 m1) ∧ W.cell? ⟨B4, 6, none⟩ = some (.slice ad1 n1 cap1)) := by
    intro W hW
    refine ⟨?_, ?_, ?_⟩
    · rw [hsB]; exact run_str (HP7.out.1.keep hW (Nat.le_refl _))
    · rw [hsD]; exact run_str (HQ7.out.1.keep hW (Nat.le_refl _))
    · have hX := HX7.out.on hW
      have hY := HY7.out.on hW
      have hZ := HZ7.out.on hW
      have hU := HU7.out.on hW
      exact ⟨hX.c0, hX.c1, hX.c2, hX.c3, hX.c4, hX.c5, hX.c6, hY.c0, hY.c1, hY.c2, hY.c3, hY.c4, hY.c5, hY.c6, hZ.c0, hZ.c1, hZ.c2, hZ.c3, hZ.c4, hZ.c5, hZ.c6, hU.c0, hU.c1, hU.c2, hU.c3, hU.c4, hU.c5, hU.c6⟩
  have hEQ : ((sB.toList == sD.toList) == r) = true := by
    cases hr : r
    · have hne : (⟨5, p1, e1, s1, t1, m1, l1⟩ : Bat) ≠ ⟨5, p2, e2, s2, t2, m2, l2⟩ := fun e => by rw [HRR.out.2 e] at hr; cases hr
      have h2 : (sB.toList == sD.toList) = false := ba_ne (fun h => hne (bytes_inj HR.out HW.out HR2.out HW2.out (str_inj (bytes_all (ok_of HR.out)) (bytes_all (ok_of HR2.out)) (by rw [← hsB, ← hsD, h]))))
      rw [h2]; rfl
    · have e := HRR.out.1 hr
      rw [hsB, hsD, e]; simp
  have CS1 : Hid (∀ W, Below W7.heap.size W7 W → Calls Try.prog 17 #[.agg #[.int .i64 y, .int .i64 p1, .int .i64 e1, .int .i64 s1, .bool t1, .int .i64 m1, .slice ad6 nl cap6], .agg #[.int .i64 y, .int .i64 p1, .int .i64 e1, .int .i64 s1, .bool t1, .int .i64 m1, .slice ad1 n1 cap1]] W (SaysB true W)) := by
    intro W hW
    have hl := HREx7.out.length
    exact refSame_any W ⟨y, p1, e1, s1, t1, m1, l1⟩ ⟨y, p1, e1, s1, t1, m1, l1⟩ _ _ nl n1 _ _ (HREx7.out.keep hW) (HREb7.out.keep hW) (by have h16 : l1.length ≤ 16 := (ok_of HR.out).recs; have h9 : l1.length = nl := hl; omega) true (by simp)
  have CS2 : Hid (∀ W, Below W7.heap.size W7 W → Calls Try.prog 17 #[.agg #[.int .i64 5, .int .i64 p1, .int .i64 e1, .int .i64 s1, .bool t1, .int .i64 m1, .slice ad1 n1 cap1], .agg #[.int .i64 5, .int .i64 p2, .int .i64 e2, .int .i64 s2, .bool t2, .int .i64 m2, .slice ad2 n2 cap2]] W (SaysB r W)) := by
    intro W hW
    have hl := HREb7.out.length
    exact refSame_any W ⟨5, p1, e1, s1, t1, m1, l1⟩ ⟨5, p2, e2, s2, t2, m2, l2⟩ _ _ n1 n2 _ _ (HREb7.out.keep hW) (HREd7.out.keep hW) (by have h16 : l1.length ≤ 16 := (ok_of HR.out).recs; have h9 : l1.length = n1 := hl; omega) r HRR.out
  clear hsB hsD hl36
  go_region_held3 (fun W => Below W7.heap.size W7 W ∧ (convert 34 9 (.slice (some ⟨g3, 0, none⟩) N k3)).run Try.prog W = .ok (.string sB) W ∧ (convert 34 9 (.slice (some ⟨g4, 0, none⟩) M k4)).run Try.prog W = .ok (.string sD) W ∧ W.cell? ⟨B1, 0, none⟩ = some (.int .i64 5) ∧ W.cell? ⟨B1, 1, none⟩ = some (.int .i64 p1) ∧ W.cell? ⟨B1, 2, none⟩ = some (.int .i64 e1) ∧ W.cell? ⟨B1, 3, none⟩ = some (.int .i64 s1) ∧ W.cell? ⟨B1, 4, none⟩ = some (.bool t1) ∧ W.cell? ⟨B1, 5, none⟩ = some (.int .i64 m1) ∧ W.cell? ⟨B1, 6, none⟩ = some (.slice ad1 n1 cap1) ∧ W.cell? ⟨B2, 0, none⟩ = some (.int .i64 5) ∧ W.cell? ⟨B2, 1, none⟩ = some (.int .i64 p2) ∧ W.cell? ⟨B2, 2, none⟩ = some (.int .i64 e2) ∧ W.cell? ⟨B2, 3, none⟩ = some (.int .i64 s2) ∧ W.cell? ⟨B2, 4, none⟩ = some (.bool t2) ∧ W.cell? ⟨B2, 5, none⟩ = some (.int .i64 m2) ∧ W.cell? ⟨B2, 6, none⟩ = some (.slice ad2 n2 cap2) ∧ W.cell? ⟨B3, 0, none⟩ = some (.int .i64 y) ∧ W.cell? ⟨B3, 1, none⟩ = some (.int .i64 p1) ∧ W.cell? ⟨B3, 2, none⟩ = some (.int .i64 e1) ∧ W.cell? ⟨B3, 3, none⟩ = some (.int .i64 s1) ∧ W.cell? ⟨B3, 4, none⟩ = some (.bool t1) ∧ W.cell? ⟨B3, 5, none⟩ = some (.int .i64 m1) ∧ W.cell? ⟨B3, 6, none⟩ = some (.slice ad6 nl cap6) ∧ W.cell? ⟨B4, 0, none⟩ = some (.int .i64 y) ∧ W.cell? ⟨B4, 1, none⟩ = some (.int .i64 p1) ∧ W.cell? ⟨B4, 2, none⟩ = some (.int .i64 e1) ∧ W.cell? ⟨B4, 3, none⟩ = some (.int .i64 s1) ∧ W.cell? ⟨B4, 4, none⟩ = some (.bool t1) ∧ W.cell? ⟨B4, 5, none⟩ = some (.int .i64 m1) ∧ W.cell? ⟨B4, 6, none⟩ = some (.slice ad1 n1 cap1)) (first | exact ⟨hb10.out, KS.out _ hb10.out⟩ | exact ⟨hb9.out, KS.out _ hb9.out⟩ | exact ⟨hb8.out, KS.out _ hb8.out⟩ | exact ⟨(Below.refl _ W7).drew, KS.out _ ((Below.refl _ W7).drew)⟩) (first | (go_at_call 14; refine (known_any _).mono ?_; rintro e w10 ⟨rfl, hbb10⟩; have hb10 := Lib.hid ((And.left ‹Below W7.heap.size W7 _ ∧ _›).trans (hbb10.mono (And.left ‹Below W7.heap.size W7 _ ∧ _›).size))) | (go_at_call 17; have h8 := hb8; refine (CS2.out _ (And.left ‹Below W7.heap.size W7 _ ∧ _›)).mono ?_; rintro e w9 ⟨rfl, hbb9⟩; have hb9 := Lib.hid ((And.left ‹Below W7.heap.size W7 _ ∧ _›).trans (hbb9.mono (And.left ‹Below W7.heap.size W7 _ ∧ _›).size))) | (go_at_call 17; refine (CS1.out _ (And.left ‹Below W7.heap.size W7 _ ∧ _›)).mono ?_; rintro e w8 ⟨rfl, hbb8⟩; have hb8 := Lib.hid ((And.left ‹Below W7.heap.size W7 _ ∧ _›).trans (hbb8.mono (And.left ‹Below W7.heap.size W7 _ ∧ _›).size))))
  all_goals
    go_wp2
    go_ret
    exact ⟨rfl, HBF.out.trans (hb10.out.mono HBF.out.size)⟩
end Go.Proofs.Ytlpmfhccfihnfaa
