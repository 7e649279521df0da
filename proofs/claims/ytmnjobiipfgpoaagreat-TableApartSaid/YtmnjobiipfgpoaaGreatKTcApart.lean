/- Chapter 11's law: what one producer does turns no other one. -/
import Derived.Test.YtmnjobiipfgpoaaGreatKTcOpens
import Derived.Test.YtmnjobiipfgpoaaGreatK11
namespace Go.Proofs.YtmnjobiipfgpoaaGreat
open Go.RowKit
open Go.SeqMath
open Go.ProdMath
open Go.BatMath hiding AllB getD_lt take_all
set_option linter.unusedVariables false

theorem mask2 (a : Int) : bits .and .i64 a 3 = a % 4 := by
  have h1 : (BitVec.ofInt 64 3).toNat = 2 ^ 2 - 1 := by decide
  have key : (BitVec.ofInt 64 a &&& BitVec.ofInt 64 3).toNat = (a % ((2 ^ 64 : Nat) : Int)).toNat % 2 ^ 2 := by
    rw [BitVec.toNat_and, BitVec.toNat_ofInt, h1, Nat.and_two_pow_sub_one_eq_mod]
  show IntKind.i64.wrap ((BitVec.ofInt 64 a &&& BitVec.ofInt 64 3).toNat : Nat) = _
  rw [key, IntKind.wrap_i64]
  omega
/-- Those of one producer. -/
def ofM (k : Int) (ms : List BM) : List BM := ms.filter fun m => decide (m.b.prod = k)
theorem ofM_bats (k : Int) (ms : List BM) : bats (ofM k ms) = (bats ms).filter fun b => decide (b.prod = k) := by
  unfold bats ofM
  rw [List.filter_map]
  rfl
theorem ofM_take {k : Int} {ms : List BM} {i : Nat} {m : BM} (h : ms[i]? = some m) : ofM k (ms.take (i + 1)) = if m.b.prod = k then ofM k (ms.take i) ++ [m] else ofM k (ms.take i) := by
  unfold ofM
  rw [List.take_add_one, h, List.filter_append]
  by_cases hk : m.b.prod = k
  · rw [if_pos hk]; simp [hk]
  · rw [if_neg hk]; simp [hk]
theorem ofM_mem {k : Int} {ms : List BM} {m : BM} (h : m ∈ ofM k ms) : m ∈ ms := (List.mem_filter.1 h).1
set_option maxRecDepth 100000 in
set_option maxHeartbeats 16000000 in
theorem tableApart_any (w : World) (tad : Option Addr) (tlen tcap : Nat) (zs : List Int) (h : Nums w tad tlen zs) (hL : tlen ≤ 140737488355328) (id : Int) :
    Calls Tryz.prog 4 #[.slice tad tlen tcap, .int .i64 id] w (GivesBool w true) := by
  obtain ⟨k, hk⟩ : ∃ k, bits .and .i64 id 3 = k := ⟨_, rfl⟩
  have HK0 : Hid (0 ≤ k ∧ k ≤ 3) := by show _ ∧ _; rw [← hk, mask2]; omega
  go_enter Tryz.func4, Tryz.ntmps4
  go_wp2_with fail
  refine (row_any w tad tlen tcap zs h hL 0 (by decide) (by decide) 30 (by decide)).mono ?_
  rintro e w1 ⟨ad, len, cap, ms, rfl, HBA, HRD, hlen, HB1⟩
  have hml := HBA.out.row.length
  have HML := Lib.hid hml
  clear hml
  go_wp2
  clear hk
  go_loopw [7, 22] (fun v7 v22 wr => ∃ (i : Nat) (u : Value) (os : List BM), u = v7 ∧ v22 = .int .i64 (i : Int) ∧ i ≤ len ∧ Hid (os = ofM k (ms.take i)) ∧ Hid (OwnRow batK wr w1.heap.size u os) ∧ Hid (Below w1.heap.size w1 wr)) (fun _ v22 _ => len - (intOf v22).toNat)
  case atStart => exact ⟨0, _, [], rfl, rfl, Nat.zero_le _, rfl, ownRow_nil _ _ _, Below.refl _ _⟩
  case round =>
    obtain ⟨i, u, os, rfl, rfl, hi, HOS, HO, HB⟩ := hrel
    obtain ⟨wo, hwo⟩ : ∃ wo : World, wo = wr := ⟨_, rfl⟩
    subst hwo
    by_cases hlt : i < len
    · have hd : decide (i < len) = true := decide_eq_true hlt
      have hjl : (i : Int) < (len : Int) := by omega
      obtain ⟨bk, off, m, rfl, hbk, hm, hrec, c0, c1, c2, c3, c4, c5, c6⟩ := (HBA.out.keep HB.out).get hlt
      have HOT := Lib.hid (ofM_take (k := k) hm)
      have HMM : Hid (m = m) := rfl
      have hosl : os.length ≤ 30 := by
        have h1 : os.length ≤ (ms.take i).length := by rw [HOS.out]; exact List.length_filter_le _ _
        rw [List.length_take] at h1
        omega
      obtain ⟨m0, hm0⟩ : ∃ m0, m = m0 := ⟨_, rfl⟩
      have HM0 := Lib.hid hm0
      obtain ⟨⟨b0, b1, b2, b3, b4, b5, recs⟩, rd, rc⟩ := m
      simp only at c0 c1 c2 c3 c4 c5 c6 HOT
      obtain ⟨rn, hrn⟩ : ∃ n, n = recs.length := ⟨_, rfl⟩
      rw [← hrn] at c6
      have HRN := Lib.hid hrn
      clear hm hrec hbk hrn hm0 HMM
      go_upto_region 7 with fail
      obtain ⟨W1, hW1⟩ : ∃ W1, W1 = wo.alloc (.cells #[.int .i64 b0, .int .i64 b1, .int .i64 b2, .int .i64 b3, .bool b4, .int .i64 b5, .slice rd rn rc] 30) := ⟨_, rfl⟩
      have hb1 : Below wo.heap.size wo W1 := by rw [hW1]; exact (Below.refl _ _).alloc (Nat.le_refl _) _
      obtain ⟨K, hK⟩ : ∃ K, K = wo.heap.size := ⟨_, rfl⟩
      have HX1 : Hid (BoxAt W1 K b0 b1 b2 b3 b4 b5 (.slice rd rn rc)) := by show BoxAt _ _ _ _ _ _ _ _ _; rw [hW1, hK]; exact boxAt_new wo _ _ _ _ _ _ _
      have HBW := Lib.hid (HB.out.trans (hb1.mono HB.out.size))
      have HO1 := Lib.hid (HO.out.on hb1)
      rw [← hW1, ← hK]
      clear hW1 hb1 hK c0 c1 c2 c3 c4 c5 c6 HB HO
      have p1 := HX1.out.c1
      by_cases hp : b1 = k
      · have hd2 : (b1 == k) = true := by rw [hp]; simp
        have HOS2 : Hid (os ++ [m0] = ofM k (ms.take (i + 1))) := by show _ = _; rw [HOT.out, if_pos hp, ← HOS.out, HM0.out]
        have p0 := HX1.out.c0
        have p2 := HX1.out.c2
        have p3 := HX1.out.c3
        have p4 := HX1.out.c4
        have p5 := HX1.out.c5
        have p6 := HX1.out.c6
        obtain ⟨W2, hW2⟩ : ∃ z, z = W1.alloc (.cells #[.int .i64 b0, .int .i64 b1, .int .i64 b2, .int .i64 b3, .bool b4, .int .i64 b5, .slice rd rn rc] 30) := ⟨_, rfl⟩
        have hb2 : Below W1.heap.size W1 W2 := by rw [hW2]; exact (Below.refl _ _).alloc (Nat.le_refl _) _
        have HLIT : Hid (RowAt batK W2 (some ⟨W1.heap.size, 0, none⟩) 1 1 [m0]) := by
          show RowAt _ _ _ _ _ _
          rw [hW2]
          exact rowAt_lit batK_ok W1 [m0] (by simp) _ (by rw [← HM0.out, HRN.out]; rfl) 1 rfl
        have HO2 := Lib.hid (HO1.out.on hb2)
        have HB2 := Lib.hid (HBW.out.trans (hb2.mono HBW.out.size))
        have HW2 := Lib.hid hW2
        clear hb2 hW2 hp HOS HOT
        go_wp2_with (at_builtin; rw [← HW2.out]; refine list_row (by rfl) batK_ok (.tmp 30) (.tmp 32) rfl w1.heap.size os [m0] u rfl HO2.out HB2.out.size (some ⟨W1.heap.size, 0, none⟩) 1 1 rfl HLIT.out (by omega) ?_)
        intro v7 w7 hap
        have HO7 := Lib.hid hap.1
        have HB7 : Hid (Below w1.heap.size w1 w7) := HB2.out.grown hap.2.1 HB2.out.size fun q hq => (HO2.out.lt q hq).1
        clear hap HO1 HO2 HBW HB2 HLIT HW2 HX1
        go_wp2
        go_roundw
        case rel => exact ⟨i + 1, v7, _, rfl, rfl, by omega, HOS2.out, HO7.out, HB7.out⟩
        case measure => simp [intOf]; omega
      · have hd2 : (b1 == k) = false := beq_false_of_ne hp
        have HOS2 : Hid (os = ofM k (ms.take (i + 1))) := by show _ = _; rw [HOT.out, if_neg hp, ← HOS.out]
        clear hp HOS HOT
        go_wp2
        go_roundw
        case rel => exact ⟨i + 1, u, os, rfl, rfl, by omega, HOS2.out, HO1.out, HBW.out⟩
        case measure => simp [intOf]; omega
    · have hd : decide (i < len) = false := decide_eq_false hlt
      have HOE : Hid (os = ofM k ms) := by
        show _ = _
        rw [HOS.out, List.take_of_length_le (by rw [HML.out]; omega)]
      obtain ⟨N, hN⟩ : ∃ N, N = os.length := ⟨_, rfl⟩
      obtain ⟨sad, scap, hu, hsr, -⟩ := OwnRow.row batK_ok HO.out hN.symm
      subst hu
      have HNN := Lib.hid hN
      have hNL : N ≤ 30 := by
        rw [hN, HOE.out]
        have h1 : (ofM k ms).length ≤ ms.length := List.length_filter_le _ _
        have := HML.out
        omega
      have HBAo := Lib.hid (HBA.out.keep HB.out)
      have HSA : Hid (BatsAt wo sad N scap os) := ⟨hsr, fun m hm => HBAo.out.ins m (by rw [HOE.out] at hm; exact ofM_mem hm)⟩
      have HROK := Lib.hid (rowD_ok HRD.out)
      have HSOK : Hid (RowOk (bats os)) := by
        show RowOk _
        rw [HOE.out, ofM_bats]
        exact fun b hb => HROK.out b (List.mem_filter.1 hb).1
      clear hN hsr HOS HO
      go_wp2_with fail
      refine (tcFold_any wo ad len cap ms HBAo.out (by omega) (batsOk_of HROK.out)).mono ?_
      rintro e w2 ⟨kt, km, ps, rfl, ht2, hp2, -, -, hb2⟩
      have HT2 := Lib.hid ht2
      have HP2 := Lib.hid hp2
      have HB2 := Lib.hid (HB.out.trans (hb2.mono HB.out.size))
      have HSA2 := Lib.hid (HSA.out.keep hb2)
      clear ht2 hp2 hb2 HB HBAo HSA
      go_wp2_with fail
      refine (tcFold_any w2 sad N scap os HSA2.out (by omega) (batsOk_of HSOK.out)).mono ?_
      rintro e w3 ⟨kt2, km2, ps2, rfl, ht3, hp3, -, -, hb3⟩
      have HT3 := Lib.hid (HT2.out.keep hb3)
      have HS3 := Lib.hid ht3
      have HP3 := Lib.hid hp3
      have HB3 := Lib.hid (HB2.out.trans (hb3.mono HB2.out.size))
      have HSA3 := Lib.hid (HSA2.out.keep hb3)
      clear ht3 hp3 hb3 HB2 HSA2 HT2
      -- what is known of the producer
      have HFE1 : Hid (fewP (pds ps)) := by show fewP _; rw [HP2.out]; exact foldP_few _ (fun p hp => by cases hp)
      have HFE2 : Hid (fewP (pds ps2)) := by show fewP _; rw [HP3.out]; exact foldP_few _ (fun p hp => by cases hp)
      have HAS2 : Hid (Asc (pds ps2)) := by show Asc _; rw [HP3.out]; exact fold_asc _ asc_nil
      obtain ⟨st, hst⟩ : ∃ st, stateD k none (bats ms) = st := ⟨_, rfl⟩
      have e1 : lookD (pds ps) k = st := by rw [HP2.out, fold_state, hst]
      have e2 : lookD (pds ps2) k = st := by rw [HP3.out, fold_state, HOE.out, ofM_bats, state_some, hst]
      have hiff := state_is k HK0.out.1 none (bats ms) (fun b hb => (HROK.out b hb).1)
      rw [hst] at hiff
      have HSOM : Hid (st.isSome = decide (0 < N)) := by
        show _ = _
        have h3 : N = (ofM k ms).length := by rw [HNN.out, HOE.out]
        by_cases h0 : 0 < N
        · rw [decide_eq_true h0]
          refine hiff.2 (.inr ?_)
          cases hq : ofM k ms with
          | nil => rw [hq] at h3; simp at h3; omega
          | cons m l =>
            have hmem : m ∈ ofM k ms := by rw [hq]; exact List.mem_cons_self
            exact ⟨m.b, List.mem_map.2 ⟨m, ofM_mem hmem, rfl⟩, of_decide_eq_true (List.mem_filter.1 hmem).2⟩
        · rw [decide_eq_false h0]
          cases hs : st.isSome with
          | false => rfl
          | true =>
            rcases hiff.1 hs with h4 | ⟨b, hb, hbk⟩
            · cases h4
            · obtain ⟨m, hm, rfl⟩ := List.mem_map.1 hb
              have : m ∈ ofM k ms := List.mem_filter.2 ⟨hm, decide_eq_true hbk⟩
              have := List.length_pos_of_mem this
              omega
      have HMIN : Hid ((pds ps2).length = min N 1) := by
        show _ = _
        rw [HP3.out, HNN.out]
        have h5 := fold_one k HK0.out.1 (bats os) (fun b hb => (HSOK.out b hb).1) (fun b hb => by
          rw [HOE.out, ofM_bats] at hb
          exact of_decide_eq_true (List.mem_filter.1 hb).2)
        rw [h5]
        unfold bats
        rw [List.length_map]
      have CG1 := tcGet_any w3 kt km ps HT3.out HFE1.out k (by have := HK0.out; omega) (by have := HK0.out; omega)
      rw [e1] at CG1
      obtain ⟨kn, hkn⟩ : ∃ kn, st.isSome = kn := ⟨_, rfl⟩
      obtain ⟨pp, hpp⟩ : ∃ pp, st.getD Pd.zero = pp := ⟨_, rfl⟩
      rw [hkn, hpp] at CG1
      rw [hkn] at HSOM
      have HCG1 := Lib.hid CG1
      have HE2 : Hid (∀ W, TcOk W kt2 km2 ps2 → Calls Tryz.prog 12 #[.pointer (some ⟨kt2, 0, none⟩), .int .i64 k] W (GivesTGet W pp kn)) := by
        intro W hW
        have := tcGet_any W kt2 km2 ps2 hW HFE2.out k (by have := HK0.out; omega) (by have := HK0.out; omega)
        rw [e2, hkn, hpp] at this
        exact this
      have hpn5 : pp.last.length ≤ 5 := by
        rw [← hpp, ← e1]
        cases hq : lookD (pds ps) k with
        | none => decide
        | some p => exact HFE1.out p (look_id hq).2
      clear CG1 hkn hpp hst e1 e2 hiff HP2 HP3
      obtain ⟨pid, pep, pl, po⟩ := pp
      simp only at hpn5
      go_wp2_with fail
      refine HCG1.out.mono ?_
      rintro e w4 ⟨ga, gn, gc, rfl, hg4, hb4⟩
      have hgn := hg4.length
      simp only at hgn hg4
      have HG4 := Lib.hid hg4
      have HS4 := Lib.hid (HS3.out.keep hb4)
      have HB4 := Lib.hid (HB3.out.trans (hb4.mono HB3.out.size))
      have HSA4 := Lib.hid (HSA3.out.keep hb4)
      clear hg4 hb4 HCG1 HT3 HS3 HB3 HSA3
      go_upto_region 14 with fail
      obtain ⟨W5, hW5, hb5, hx5, -⟩ := pd_new w4 pid pep (.slice ga gn gc) po
      obtain ⟨P1, hP1⟩ : ∃ z, z = w4.heap.size := ⟨_, rfl⟩
      rw [← hP1] at hx5
      have HX5 := Lib.hid hx5
      have HG5 := Lib.hid (HG4.out.keep hb5)
      have HS5 := Lib.hid (HS4.out.keep hb5)
      have HB5 := Lib.hid (HB4.out.trans (hb5.mono HB4.out.size))
      have HSA5 := Lib.hid (HSA4.out.keep hb5)
      rw [← hP1, ← hW5]
      clear hW5 hb5 hx5 hP1 HG4 HS4 HB4 HSA4
      have HGN := Lib.hid hgn
      clear hgn
      go_wp2_with fail
      refine (HE2.out W5 HS5.out).mono ?_
      rintro e w6 ⟨ha, hn, hc, rfl, hg6, hb6⟩
      have hhn : gn = hn := by
        have h6 := hg6.length
        simp only at h6
        rw [← HGN.out, h6]
      subst hhn
      simp only at hg6
      have HH6 := Lib.hid hg6
      have HG6 := Lib.hid (HG5.out.keep hb6)
      have HS6 := Lib.hid (HS5.out.keep hb6)
      have HB6 := Lib.hid (HB5.out.trans (hb6.mono HB5.out.size))
      have HSA6 := Lib.hid (HSA5.out.keep hb6)
      have HX6 := Lib.hid (HX5.out.on hb6)
      clear hg6 hb6 HE2 HG5 HS5 HB5 HSA5 HX5
      go_upto_region 15 with fail
      obtain ⟨W7, hW7, hb7, hx7, -⟩ := pd_new w6 pid pep (.slice ha gn hc) po
      obtain ⟨P2, hP2⟩ : ∃ z, z = w6.heap.size := ⟨_, rfl⟩
      rw [← hP2] at hx7
      have HY7 := Lib.hid hx7
      have HH7 := Lib.hid (HH6.out.keep hb7)
      have HG7 := Lib.hid (HG6.out.keep hb7)
      have HS7 := Lib.hid (HS6.out.keep hb7)
      have HB7 := Lib.hid (HB6.out.trans (hb7.mono HB6.out.size))
      have HSA7 := Lib.hid (HSA6.out.keep hb7)
      have HX7 := Lib.hid (HX6.out.on hb7)
      rw [← hP2, ← hW7]
      clear hW7 hb7 hx7 hP2 HH6 HG6 HS6 HB6 HSA6 HX6
      have hgn5 : gn ≤ 5 := by rw [← HGN.out]; exact hpn5
      have q0 := HX7.out.c0
      have q1 := HX7.out.c1
      have q2 := HX7.out.c2
      have q3 := HX7.out.c3
      have y0 := HY7.out.c0
      have y1 := HY7.out.c1
      have y2 := HY7.out.c2
      have y3 := HY7.out.c3
      have hps2 : ps2.length ≤ 30 := by
        have h5 := HMIN.out
        unfold pds at h5
        rw [List.length_map] at h5
        omega
      have CA : Hid (∀ W, TcOk W kt2 km2 ps2 → Calls Tryz.prog 14 #[.pointer (some ⟨kt2, 0, none⟩)] W (GivesTcAll W (pds ps2))) := fun W hW => tcAll_any W kt2 km2 ps2 hW HAS2.out HFE2.out (by omega)
      clear hpn5
      cases kn
      · have hN0 : N = 0 := by
          have h1 := HSOM.out
          have h2 := of_decide_eq_false h1.symm
          omega
        subst hN0
        go_wp2_with fail
        refine (prRefSame_any W7 pid pep po pl ga gn gc HG7.out ha hc HH7.out (by omega)).mono ?_
        rintro e w8 ⟨rfl, hb8⟩
        have HS8 := Lib.hid (HS7.out.keep hb8)
        have HB8 := Lib.hid (HB7.out.trans (hb8.mono HB7.out.size))
        have HSA8 := Lib.hid (HSA7.out.keep hb8)
        clear hb8 HS7 HB7 HSA7 q0 q1 q2 q3 y0 y1 y2 y3
        go_wp2_with fail
        refine (CA.out w8 HS8.out).mono ?_
        rintro e w9 ⟨lad, llen, lcap, oz, rfl, hpo, hpe, hb9⟩
        have hll : llen = 0 := by
          have h1 := congrArg List.length hpe
          rw [HMIN.out] at h1
          unfold pds at h1
          rw [List.length_map, hpo.row.length] at h1
          omega
        subst hll
        have HB9 := Lib.hid (HB8.out.trans (hb9.mono HB8.out.size))
        have HSA9 := Lib.hid (HSA8.out.keep hb9)
        clear hpo hpe hb9 HS8 HB8 HSA8 CA
        have hmn : min (0 : Int) 1 = 0 := by omega
        have hmn2 : min (0 : Nat) 1 = 0 := by omega
        go_wp2_with fail
        refine (refRowsB_any w9 sad 0 scap os HSA9.out (by omega) (batsOk_of HSOK.out)).mono ?_
        rintro e w10 ⟨rfl, hb10⟩
        have HB10 := Lib.hid (HB9.out.trans (hb10.mono HB9.out.size))
        clear hb10 HB9 HSA9
        go_wp2_with fail
        refine (known11_any w10).mono ?_
        rintro e w11 ⟨rfl, hb11⟩
        have HB11 := Lib.hid (HB10.out.trans (hb11.mono HB10.out.size))
        clear hb11 HB10
        go_wp2
        go_ret
        exact ⟨rfl, HB1.out.trans (HB11.out.mono HB1.out.size)⟩
      · have hN0 : 0 < N := of_decide_eq_true HSOM.out.symm
        have hg0 : decide ((0 : Int) < (N : Int)) = true := decide_eq_true (by omega)
        have hg1 : decide (0 < N) = true := decide_eq_true hN0
        go_wp2_with fail
        refine (prRefSame_any W7 pid pep po pl ga gn gc HG7.out ha hc HH7.out (by omega)).mono ?_
        rintro e w8 ⟨rfl, hb8⟩
        have HS8 := Lib.hid (HS7.out.keep hb8)
        have HB8 := Lib.hid (HB7.out.trans (hb8.mono HB7.out.size))
        have HSA8 := Lib.hid (HSA7.out.keep hb8)
        clear hb8 HS7 HB7 HSA7 q0 q1 q2 q3 y0 y1 y2 y3
        go_wp2_with fail
        refine (CA.out w8 HS8.out).mono ?_
        rintro e w9 ⟨lad, llen, lcap, oz, rfl, hpo, hpe, hb9⟩
        have hll : llen = 1 := by
          have h1 := congrArg List.length hpe
          rw [HMIN.out] at h1
          unfold pds at h1
          rw [List.length_map, hpo.row.length] at h1
          omega
        subst hll
        have HB9 := Lib.hid (HB8.out.trans (hb9.mono HB8.out.size))
        have HSA9 := Lib.hid (HSA8.out.keep hb9)
        clear hpo hpe hb9 HS8 HB8 HSA8 CA
        have hmn : min (N : Int) 1 = 1 := by omega
        have hmn2 : min N 1 = 1 := by omega
        go_wp2_with fail
        refine (refRowsB_any w9 sad N scap os HSA9.out (by omega) (batsOk_of HSOK.out)).mono ?_
        rintro e w10 ⟨rfl, hb10⟩
        have HB10 := Lib.hid (HB9.out.trans (hb10.mono HB9.out.size))
        clear hb10 HB9 HSA9
        go_wp2_with fail
        refine (known11_any w10).mono ?_
        rintro e w11 ⟨rfl, hb11⟩
        have HB11 := Lib.hid (HB10.out.trans (hb11.mono HB10.out.size))
        clear hb11 HB10
        go_wp2
        go_ret
        exact ⟨rfl, HB1.out.trans (HB11.out.mono HB1.out.size)⟩
end Go.Proofs.YtmnjobiipfgpoaaGreat
