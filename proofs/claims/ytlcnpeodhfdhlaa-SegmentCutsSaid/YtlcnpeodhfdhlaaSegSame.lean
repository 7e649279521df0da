/- The law's own same. -/
import Derived.Test.YtlcnpeodhfdhlaaSegFrom
namespace Go.Proofs.Ytlcnpeodhfdhlaa
open Go.RowKit
open Go.ProdMath
open Go.SegMath
open Go.IxMath
open Go.BatMath hiding AllB getD_lt take_all
set_option linter.unusedVariables false

theorem IxVal.on {w w' : World} {base : Int} {l : List Bat} {xv : Value} (h : IxVal w base l xv) (hb : Below w.heap.size w w') : IxVal w' base l xv := by
  rcases h with h | ⟨k, F, every, h1, h2⟩
  · exact .inl h
  · exact .inr ⟨k, F, every, h1, h2.on hb⟩
theorem bats_few {ms : List BM} (h : RowOk (bats ms)) : ∀ m ∈ ms, m.b.recs.length ≤ 140737488355328 := fun m hm => by
  have := (ok_of (h m.b (List.mem_map.2 ⟨m, hm, rfl⟩)).1).recs
  omega
theorem filter_ok {l : List Bat} (h : RowOk l) (f : Bat → Bool) : RowOk (l.filter f) := fun b hb => h b (List.mem_filter.1 hb).1
set_option maxRecDepth 100000 in
set_option maxHeartbeats 32000000 in
theorem lawSame_any (w : World) (ad : Option Addr) (len cap : Nat) (p : List Nat) (h : Row w ad len cap p) (hL : len ≤ 100000) (base every off : Int) (hb : I64 base) (he : I64 every) (ho : I64 off) :
    Calls Try.prog 11 #[.slice ad len cap, .int .i64 base, .int .i64 every, .int .i64 off] w fun e w' => e = .returned (.bool true) ∧ Below w.heap.size w w' := by
  have H := Lib.hid h
  have HBA := Lib.hid hb
  have HEV := Lib.hid he
  have HOF := Lib.hid ho
  clear h hb he ho
  go_enter Try.func11, Try.ntmps11
  go_wp2_with fail
  refine (segScan_any w ad len cap p H.out hL base HBA.out).mono ?_
  rintro e w1 ⟨ad1, n1, cap1, ms1, rfl, HM1, HS1, _, HB1⟩
  go_wp2_with fail
  refine (refScan_any w1 ad len cap p (H.out.keep HB1.out (Nat.le_refl _)) hL base HBA.out).mono ?_
  rintro e w2 ⟨ad2, n2, cap2, ms2, rfl, HM2, HS2, _, HB2⟩
  have HM1 := Lib.hid (HM1.out.keep HB2.out)
  have HB2 : Hid (Below w.heap.size w w2) := HB1.out.trans (HB2.out.mono HB1.out.size)
  obtain ⟨L, hL1⟩ : ∃ L, L = bats ms2 := ⟨_, rfl⟩
  have hL2 : bats ms1 = L := by rw [hL1]; exact scans_one _ _ _ _ HS1.out HS2.out
  have HL1 : Hid (bats ms1 = L) := hL2
  have HL2 : Hid (bats ms2 = L) := hL1.symm
  rw [← hL1] at HS2
  rw [hL2, ← hL1]
  obtain ⟨K, hK⟩ : ∃ K, K = (flat L).length := ⟨_, rfl⟩
  have HK := Lib.hid hK
  rw [← hK]
  have HNL : Hid (L.length = n2) := by show _ = _; rw [hL1, bats_len]; exact HM2.out.row.length
  have HN2 : Hid (n2 ≤ 10000 ∧ n1 ≤ 10000) := by
    show _ ∧ _
    have h1 := scans_len HS2.out
    have h2 := (flat_big HS2.out.ok).1
    have h3 : p.length = len := H.out.len
    have h4 : n1 = L.length := by rw [← hL2, bats_len]; exact HM1.out.row.length.symm
    rw [HNL.out] at h2 h4
    omega
  clear hL1 hL2 hK HB1 HS1
  have HOK1 : Hid (RowOk (bats ms1)) := by show RowOk _; rw [HL1.out]; exact HS2.out.ok
  have HOK2 : Hid (RowOk (bats ms2)) := by show RowOk _; rw [HL2.out]; exact HS2.out.ok
  go_wp2_with fail
  refine (refRows_any w2 ad1 ad2 n1 n2 cap1 cap2 ms1 ms2 HM1.out HM2.out (by have := HN2.out; omega) (bats_few HOK1.out) true (by rw [HL1.out, HL2.out]; simp)).mono ?_
  rintro e w3 ⟨rfl, hb3⟩
  have HB3 : Hid (Below w.heap.size w w3) := HB2.out.trans (hb3.mono HB2.out.size)
  have HM1 := Lib.hid (HM1.out.keep hb3)
  have HM2 := Lib.hid (HM2.out.keep hb3)
  clear hb3
  obtain ⟨E, hE⟩ : ∃ E, E = endD base L := ⟨_, rfl⟩
  have HE := Lib.hid hE
  clear hE HB2
  go_wp2_with fail
  refine (segNext_any w3 ad1 n1 cap1 ms1 HM1.out (by have := HN2.out; omega) HOK1.out base HBA.out E (by rw [HL1.out]; exact HE.out.symm)).mono ?_
  rintro e w4 ⟨rfl, hb4⟩
  have HB4 : Hid (Below w.heap.size w w4) := HB3.out.trans (hb4.mono HB3.out.size)
  have HM2 := Lib.hid (HM2.out.keep hb4)
  clear hb4 HB3 HM1
  go_wp2_with fail
  refine (refEnd_any w4 base ad2 n2 cap2 ms2 HM2.out (by have := HN2.out; omega) HOK2.out E (by rw [HL2.out]; exact HE.out.symm)).mono ?_
  rintro e w5 ⟨rfl, hb5⟩
  have HB5 : Hid (Below w.heap.size w w5) := HB4.out.trans (hb5.mono HB4.out.size)
  have HM2 := Lib.hid (HM2.out.keep hb5)
  clear hb5 HB4
  go_wp2_with fail
  refine (segBuild_any w5 ad len cap p (H.out.keep HB5.out (Nat.le_refl _)) hL base every HBA.out HEV.out L HS2.out).mono ?_
  rintro e w6 ⟨hb6, hc⟩
  have HB6 : Hid (Below w.heap.size w w6) := HB5.out.trans (hb6.out.mono HB5.out.size)
  have HM2 := Lib.hid (HM2.out.keep hb6.out)
  clear hb6 HB5
  by_cases d1 : 0 ≤ base
  rotate_left
  · have d1d : decide (0 ≤ base) = false := decide_eq_false d1
    have hbad : badN base every = true := decide_eq_true (by omega)
    rcases hc with ⟨_, rfl⟩ | ⟨hgood, _⟩
    rotate_left
    · rw [hbad] at hgood; cases hgood
    clear hbad
    have HXV : Hid (IxVal w6 base L (.pointer none)) := .inl rfl
    have hn22 : n2 ≤ 10000 := HN2.out.1
    go_wp2_with fail
    go_loopw [15, 79] (fun v15 v79 wr => ∃ (i c : Nat), v79 = .int .i64 (i : Int) ∧ v15 = .int .i64 (c : Int) ∧ i ≤ n2 ∧ c ≤ 2404 * i ∧ Hid (c = (flat ((L.take i).filter fun b => decide (endB b ≤ off))).length) ∧ Hid (Below w6.heap.size w6 wr)) (fun _ v79 _ => n2 - (intOf v79).toNat)
    case atStart => exact ⟨0, 0, rfl, rfl, Nat.zero_le _, Nat.zero_le _, rfl, Below.refl _ w6⟩
    case round =>
      obtain ⟨i, c, rfl, rfl, hin, hci, HC, HBI⟩ := hrel
      obtain ⟨wo, hwo⟩ : ∃ wo : World, wo = wr := ⟨_, rfl⟩
      subst hwo
      by_cases hlt : i < n2
      · have hd : decide (i < n2) = true := decide_eq_true hlt
        have hij : (i : Int) < (n2 : Int) := by omega
        obtain ⟨bx, ox, mx, ex, hbx, hmx, hrx, x0, x1, x2, x3, x4, x5, x6⟩ := (HM2.out.keep HBI.out).get hlt
        subst ex
        have HMX := Lib.hid hmx
        have hin' : mx.b ∈ bats ms2 := List.mem_map.2 ⟨mx, List.mem_of_getElem? hmx, rfl⟩
        have HRT := Lib.hid (HOK2.out mx.b hin')
        have HRX := Lib.hid hrx
        have HTK : Hid ((bats ms2).take (i + 1) = (bats ms2).take i ++ [mx.b]) := by
          show _ = _
          have : (bats ms2)[i]? = some mx.b := by unfold bats; rw [List.getElem?_map, hmx]; rfl
          obtain ⟨h3, e3⟩ := List.getElem?_eq_some_iff.1 this
          rw [List.take_succ_eq_append_getElem h3, e3]
        obtain ⟨cnt, hcnt⟩ : ∃ c, c = countD mx.b := ⟨_, rfl⟩
        have HCB : Hid (1 ≤ cnt ∧ cnt ≤ 16) := by show _ ∧ _; rw [hcnt]; exact count_pos HRT.out.1
        have HB0 : Hid (0 ≤ mx.b.base ∧ mx.b.base ≤ 1099511627776) := ⟨(ok_of HRT.out.1).base0, (ok_of HRT.out.1).base1⟩
        have HEB : Hid (endB mx.b = mx.b.base + cnt) := by show _ = _; rw [hcnt]; rfl
        have HCN : Hid ((if mx.b.marker ≠ 0 then 1 else (mx.b.recs.length : Int)) = cnt) := by show _ = _; rw [hcnt]; rfl
        obtain ⟨Qb, hQb⟩ : ∃ Q, Q = (bytesB mx.b).length := ⟨_, rfl⟩
        have HQB := Lib.hid hQb
        have HQL : Hid (36 ≤ Qb ∧ Qb ≤ 2404) := by show _ ∧ _; rw [hQb]; have := ok_len (ok_of HRT.out.1); omega
        have HSZ : Hid (sizeB mx.b = (Qb : Int)) := by show _ = _; rw [hQb]; unfold sizeB; rw [if_pos HRT.out.1]
        clear hQb
        clear hmx hin' hrx hcnt
        obtain ⟨⟨b0, b1, b2, b3, b4, b5, recs⟩, rd, rc⟩ := mx
        simp only at x0 x1 x2 x3 x4 x5 x6 HB0 HCN HRX HEB HQB HSZ HRT
        obtain ⟨rn, hrn⟩ : ∃ n, n = recs.length := ⟨_, rfl⟩
        have HRN := Lib.hid hrn
        rw [← hrn] at x6
        have HCN2 : Hid ((if b5 ≠ 0 then 1 else (rn : Int)) = cnt) := by show _ = _; rw [hrn]; exact HCN.out
        clear hrn HCN
        have hw1 : IntKind.i64.wrap (b0 + cnt) = b0 + cnt := by rw [IntKind.wrap_i64]; have := HCB.out; have := HB0.out; omega
        go_upto_region 12 with fail
        obtain ⟨W1, hW1⟩ : ∃ z, z = wo.alloc (.cells #[.int .i64 b0, .int .i64 b1, .int .i64 b2, .int .i64 b3, .bool b4, .int .i64 b5, .slice rd rn rc] 51) := ⟨_, rfl⟩
        obtain ⟨kb, hkb⟩ : ∃ z, z = wo.heap.size := ⟨_, rfl⟩
        have HBW : Hid (Below wo.heap.size wo W1) := by show Below _ _ _; rw [hW1]; exact (Below.refl _ _).alloc (Nat.le_refl _) _
        have HX1 : Hid (BoxAt W1 kb b0 b1 b2 b3 b4 b5 (.slice rd rn rc)) := by show BoxAt _ _ _ _ _ _ _ _ _; rw [hW1, hkb]; exact boxAt_new wo _ _ _ _ _ _ _
        rw [← hW1, ← hkb]
        clear hW1 hkb x0 x1 x2 x3 x4 x5 x6
        have hdr : Below W1.heap.size W1 W1.drew := (Below.refl _ W1).drew
        have KS : Hid (∀ V, Below W1.heap.size W1 V → (fun (V : World) => V.cell? ⟨kb, 0, none⟩ = some (.int .i64 b0) ∧ V.cell? ⟨kb, 1, none⟩ = some (.int .i64 b1) ∧ V.cell? ⟨kb, 2, none⟩ = some (.int .i64 b2) ∧ V.cell? ⟨kb, 3, none⟩ = some (.int .i64 b3) ∧ V.cell? ⟨kb, 4, none⟩ = some (.bool b4) ∧ V.cell? ⟨kb, 5, none⟩ = some (.int .i64 b5) ∧ V.cell? ⟨kb, 6, none⟩ = some (.slice rd rn rc)) V) := fun V hV => ⟨(HX1.out.on hV).c0, (HX1.out.on hV).c1, (HX1.out.on hV).c2, (HX1.out.on hV).c3, (HX1.out.on hV).c4, (HX1.out.on hV).c5, (HX1.out.on hV).c6⟩
        refine wp_region_noPanic ?_
        refine wp_region_z [] (fun (V : World) => V.cell? ⟨kb, 0, none⟩ = some (.int .i64 b0) ∧ V.cell? ⟨kb, 1, none⟩ = some (.int .i64 b1) ∧ V.cell? ⟨kb, 2, none⟩ = some (.int .i64 b2) ∧ V.cell? ⟨kb, 3, none⟩ = some (.int .i64 b3) ∧ V.cell? ⟨kb, 4, none⟩ = some (.bool b4) ∧ V.cell? ⟨kb, 5, none⟩ = some (.int .i64 b5) ∧ V.cell? ⟨kb, 6, none⟩ = some (.slice rd rn rc)) (by kernel_rfl) ?_
        have hHeld : (fun (V : World) => V.cell? ⟨kb, 0, none⟩ = some (.int .i64 b0) ∧ V.cell? ⟨kb, 1, none⟩ = some (.int .i64 b1) ∧ V.cell? ⟨kb, 2, none⟩ = some (.int .i64 b2) ∧ V.cell? ⟨kb, 3, none⟩ = some (.int .i64 b3) ∧ V.cell? ⟨kb, 4, none⟩ = some (.bool b4) ∧ V.cell? ⟨kb, 5, none⟩ = some (.int .i64 b5) ∧ V.cell? ⟨kb, 6, none⟩ = some (.slice rd rn rc)) _ := KS.out _ hdr
        obtain ⟨u0, hu0⟩ : ∃ u, u = W1.drew := ⟨_, rfl⟩
        rw [← hu0] at hHeld hdr
        rw [← hu0]
        clear hu0
        have HQ0 := Lib.hid hdr
        clear hdr
        refine wpAnyZ_take (i := 0) (oi := ⟨_, _, _, _, _, _⟩) (v := ?_) rfl (by kernel_rfl) (by kernel_rfl) (by kernel_rfl) (by kernel_rfl) (by kernel_rfl) (fun _ _ _ h => h) (Or.inl ⟨by rfl, ?_⟩) (by assumption) ?_
        rotate_left
        · intro W hSw
          (try dsimp only at hSw)
          go_simp
          (try with_reducible rfl)
        (try simp only [Act.put, List.setIfInBounds_toArray, List.set_cons_zero, List.set_cons_succ])
        refine wpAnyZ_take (i := 1) (oi := ⟨_, _, _, _, _, _⟩) (v := ?_) rfl (by kernel_rfl) (by kernel_rfl) (by kernel_rfl) (by kernel_rfl) (by kernel_rfl) (fun _ _ _ h => h) (Or.inl ⟨by rfl, ?_⟩) (by assumption) ?_
        rotate_left
        · intro W hSw
          (try dsimp only at hSw)
          go_simp
          (try with_reducible rfl)
        (try simp only [Act.put, List.setIfInBounds_toArray, List.set_cons_zero, List.set_cons_succ])
        refine wpAnyZ_take (i := 2) (oi := ⟨_, _, _, _, _, _⟩) (v := ?_) rfl (by kernel_rfl) (by kernel_rfl) (by kernel_rfl) (by kernel_rfl) (by kernel_rfl) (fun _ _ _ h => h) (Or.inl ⟨by rfl, ?_⟩) (by assumption) ?_
        rotate_left
        · intro W hSw
          (try dsimp only at hSw)
          go_simp
          (try with_reducible rfl)
        (try simp only [Act.put, List.setIfInBounds_toArray, List.set_cons_zero, List.set_cons_succ])
        refine wpAnyZ_take (i := 5) (oi := ⟨_, _, _, _, _, _⟩) (v := ?_) rfl (by kernel_rfl) (by kernel_rfl) (by kernel_rfl) (by kernel_rfl) (by kernel_rfl) (fun _ _ _ h => h) (Or.inl ⟨by rfl, ?_⟩) (by assumption) ?_
        rotate_left
        · intro W hSw
          (try dsimp only at hSw)
          go_simp
          (try with_reducible rfl)
        (try simp only [Act.put, List.setIfInBounds_toArray, List.set_cons_zero, List.set_cons_succ])
        refine wpAnyZ_ready (rs := [3]) (by kernel_rfl) (by simp) ?_
        refine AllReadyZ.cons (o := ⟨_, _, _, _, _, _⟩) rfl (fun C hC => ?_) AllReadyZ.nil
        go_simp
        refine (refCount_any u0 b0 b1 b2 b3 b4 b5 rd rn rc cnt HCN2.out).mono ?_
        rintro e u1 ⟨rfl, hb1⟩
        have HQ1 : Hid (Below W1.heap.size W1 u1) := HQ0.out.trans (hb1.mono HQ0.out.size)
        clear hb1
        have hHeld : (fun (V : World) => V.cell? ⟨kb, 0, none⟩ = some (.int .i64 b0) ∧ V.cell? ⟨kb, 1, none⟩ = some (.int .i64 b1) ∧ V.cell? ⟨kb, 2, none⟩ = some (.int .i64 b2) ∧ V.cell? ⟨kb, 3, none⟩ = some (.int .i64 b3) ∧ V.cell? ⟨kb, 4, none⟩ = some (.bool b4) ∧ V.cell? ⟨kb, 5, none⟩ = some (.int .i64 b5) ∧ V.cell? ⟨kb, 6, none⟩ = some (.slice rd rn rc)) u1 := KS.out _ HQ1.out
        refine hC.out _ _ (fun _ => hHeld) (fun _ => ?_)
        clear hC C
        (try simp only [Act.put, List.setIfInBounds_toArray, List.set_cons_zero, List.set_cons_succ])
        refine wpAnyZ_take (i := 4) (oi := ⟨_, _, _, _, _, _⟩) (v := ?_) rfl (by kernel_rfl) (by kernel_rfl) (by kernel_rfl) (by kernel_rfl) (by kernel_rfl) (fun _ _ _ h => h) (Or.inl ⟨by rfl, ?_⟩) (by assumption) ?_
        rotate_left
        · intro W hSw
          (try dsimp only at hSw)
          go_simp
          (try with_reducible rfl)
        (try simp only [Act.put, List.setIfInBounds_toArray, List.set_cons_zero, List.set_cons_succ])
        refine wpAnyZ_take (i := 6) (oi := ⟨_, _, _, _, _, _⟩) (v := ?_) rfl (by kernel_rfl) (by kernel_rfl) (by kernel_rfl) (by kernel_rfl) (by kernel_rfl) (fun _ _ _ h => h) (Or.inl ⟨by rfl, ?_⟩) (by assumption) ?_
        rotate_left
        · intro W hSw
          (try dsimp only at hSw)
          go_simp
          (try with_reducible rfl)
        (try simp only [Act.put, List.setIfInBounds_toArray, List.set_cons_zero, List.set_cons_succ])
        refine wpAnyZ_done (by kernel_rfl) ?_ _
        refine NoPanic.normal ?_
        clear hHeld KS
        have HX2 := Lib.hid (HX1.out.on HQ1.out)
        have HB2 : Hid (Below wo.heap.size wo u1) := HBW.out.trans (HQ1.out.mono HBW.out.size)
        clear HX1 HBW HQ0
        have q0 := HX2.out.c0
        have q1 := HX2.out.c1
        have q2 := HX2.out.c2
        have q3 := HX2.out.c3
        have q4 := HX2.out.c4
        have q5 := HX2.out.c5
        have q6 := HX2.out.c6
        by_cases hof : b0 + cnt ≤ off
        · have hdo : decide (b0 + cnt ≤ off) = true := decide_eq_true hof
          have HCX : Hid (c + Qb = (flat ((L.take (i + 1)).filter fun b => decide (endB b ≤ off))).length) := by
            show _ = _
            rw [← HL2.out, HTK.out, filter_snoc, if_pos (decide_eq_true (by rw [HEB.out]; exact hof)), flat_snoc, List.length_append, HL2.out, ← HC.out, HQB.out]
          have hw2 : IntKind.i64.wrap ((c : Int) + (Qb : Int)) = (c : Int) + (Qb : Int) := by rw [IntKind.wrap_i64]; have := HQL.out; have := HN2.out; omega
          go_wp2_with fail
          refine (refSize_any u1 ⟨b0, b1, b2, b3, b4, b5, recs⟩ rd rn rc (by rw [HRN.out]; exact HRX.out.keep HB2.out) (texts_of (ok_of HRT.out.1).texts) (by rw [HRN.out]; have h16 : recs.length ≤ 16 := (ok_of HRT.out.1).recs; omega) HRT.out.2.prod.2).mono ?_
          rintro e u2 ⟨rfl, hb9⟩
          have HB9 : Hid (Below w6.heap.size w6 u2) := HBI.out.trans ((HB2.out.trans (hb9.mono HB2.out.size)).mono HBI.out.size)
          rw [HSZ.out]
          clear hb9
          go_wp2_with fail
          go_roundw
          case rel => exact ⟨i + 1, c + Qb, by go_num, by go_num, by omega, by have := HQL.out; omega, HCX.out, HB9.out⟩
          case measure => simp [intOf]; omega
        · have hdo : decide (b0 + cnt ≤ off) = false := decide_eq_false hof
          have HCX : Hid (c = (flat ((L.take (i + 1)).filter fun b => decide (endB b ≤ off))).length) := by
            show _ = _
            rw [← HL2.out, HTK.out, filter_snoc, if_neg (by rw [HEB.out]; simpa using hof), HL2.out, ← HC.out]
          have HB9 : Hid (Below w6.heap.size w6 u1) := HBI.out.trans (HB2.out.mono HBI.out.size)

          go_wp2_with fail
          go_roundw
          case rel => exact ⟨i + 1, c, by go_num, rfl, by omega, by omega, HCX.out, HB9.out⟩
          case measure => simp [intOf]; omega
      · have hd : decide (i < n2) = false := decide_eq_false hlt
        have HCF : Hid (c = (flat (L.filter fun b => decide (endB b ≤ off))).length) := by
          show _ = _
          have h3 := HC.out
          rw [List.take_of_length_le (by rw [HNL.out]; omega)] at h3
          exact h3
        have HB7 : Hid (Below w.heap.size w wo) := HB6.out.trans (HBI.out.mono HB6.out.size)
        have HXV7 := Lib.hid (HXV.out.on HBI.out)
        have HM7 := Lib.hid (HM2.out.keep HBI.out)
        clear HXV HM2 HBI HB6
        go_wp2_with fail
        refine (segFrom_any wo ad len cap p (H.out.keep HB7.out (Nat.le_refl _)) hL base off HBA.out HOF.out L HS2.out _ HXV7.out).mono ?_
        rintro e w8 ⟨ad8, n8, cap8, ms8, rfl, HM8, HF8, HB8⟩
        have HB8' : Hid (Below w.heap.size w w8) := HB7.out.trans (HB8.out.mono HB7.out.size)
        have HM7 := Lib.hid (HM7.out.keep HB8.out)
        clear HB8 HB7 HXV7
        go_wp2_with fail
        refine (lawFrom_any w8 ad2 n2 cap2 ms2 HM7.out HN2.out.1 HOK2.out off HOF.out).mono ?_
        rintro e w9 ⟨ad9, n9, cap9, ms9, rfl, HM9, HF9, HB9⟩
        rw [HL2.out] at HF9
        have HB9' : Hid (Below w.heap.size w w9) := HB8'.out.trans (HB9.out.mono HB8'.out.size)
        have HM7 := Lib.hid (HM7.out.keep HB9.out)
        have HM8 := Lib.hid (HM8.out.keep HB9.out)
        clear HB9 HB8'
        have HOK8 : Hid (RowOk (bats ms8)) := by show RowOk _; rw [HF8.out]; exact filter_ok HS2.out.ok _
        have HN8 : Hid (n8 ≤ 140737488355328) := by
          show _ ≤ _
          have h3 : (bats ms8).length ≤ L.length := by rw [HF8.out]; exact List.length_filter_le _ _
          rw [bats_len, HM8.out.row.length, HNL.out] at h3
          have := HN2.out
          omega
        go_wp2_with fail
        refine (refRows_any w9 ad8 ad9 n8 n9 cap8 cap9 ms8 ms9 HM8.out HM9.out HN8.out (bats_few HOK8.out) true (by rw [HF8.out, HF9.out]; simp)).mono ?_
        rintro e w10 ⟨rfl, hb10⟩
        have HB10 : Hid (Below w.heap.size w w10) := HB9'.out.trans (hb10.mono HB9'.out.size)
        have HM7 := Lib.hid (HM7.out.keep hb10)
        clear hb10 HB9' HM8 HM9 HF8 HF9 HOK8 HN8
        go_wp2_with fail
        refine (segFrom_any w10 ad len cap p (H.out.keep HB10.out (Nat.le_refl _)) hL base off HBA.out HOF.out L HS2.out _ (.inl rfl)).mono ?_
        rintro e w8 ⟨ad8, n8, cap8, ms8, rfl, HM8, HF8, HB8⟩
        have HB8' : Hid (Below w.heap.size w w8) := HB10.out.trans (HB8.out.mono HB10.out.size)
        have HM7 := Lib.hid (HM7.out.keep HB8.out)
        clear HB8 HB10
        go_wp2_with fail
        refine (lawFrom_any w8 ad2 n2 cap2 ms2 HM7.out HN2.out.1 HOK2.out off HOF.out).mono ?_
        rintro e w9 ⟨ad9, n9, cap9, ms9, rfl, HM9, HF9, HB9⟩
        rw [HL2.out] at HF9
        have HB9' : Hid (Below w.heap.size w w9) := HB8'.out.trans (HB9.out.mono HB8'.out.size)
        have HM8 := Lib.hid (HM8.out.keep HB9.out)
        clear HB9 HB8' HM7
        have HOK8 : Hid (RowOk (bats ms8)) := by show RowOk _; rw [HF8.out]; exact filter_ok HS2.out.ok _
        have HN8 : Hid (n8 ≤ 140737488355328) := by
          show _ ≤ _
          have h3 : (bats ms8).length ≤ L.length := by rw [HF8.out]; exact List.length_filter_le _ _
          rw [bats_len, HM8.out.row.length, HNL.out] at h3
          have := HN2.out
          omega
        go_wp2_with fail
        refine (refRows_any w9 ad8 ad9 n8 n9 cap8 cap9 ms8 ms9 HM8.out HM9.out HN8.out (bats_few HOK8.out) true (by rw [HF8.out, HF9.out]; simp)).mono ?_
        rintro e w10 ⟨rfl, hb10⟩
        have HB10 : Hid (Below w.heap.size w w10) := HB9'.out.trans (hb10.mono HB9'.out.size)
        clear hb10 HB9' HM8 HM9 HF8 HF9 HOK8 HN8
        go_wp2_with fail
        refine (segCut_any w10 ad len cap p (H.out.keep HB10.out (Nat.le_refl _)) hL base off HBA.out HOF.out L HS2.out).mono ?_
        rintro e w11 ⟨rfl, HB11⟩
        rw [← HCF.out]
        have HB12 : Hid (Below w.heap.size w w11) := HB10.out.trans (HB11.out.mono HB10.out.size)
        clear HB11 HB10
        go_wp2_with fail
        go_ret
        exact ⟨rfl, HB12.out⟩
  have d1d : decide (0 ≤ base) = true := decide_eq_true d1
  by_cases d2 : base ≤ 1099511627776
  rotate_left
  · have d2d : decide (base ≤ 1099511627776) = false := decide_eq_false d2
    have hbad : badN base every = true := decide_eq_true (by omega)
    rcases hc with ⟨_, rfl⟩ | ⟨hgood, _⟩
    rotate_left
    · rw [hbad] at hgood; cases hgood
    clear hbad
    have HXV : Hid (IxVal w6 base L (.pointer none)) := .inl rfl
    have hn22 : n2 ≤ 10000 := HN2.out.1
    go_wp2_with fail
    go_loopw [15, 79] (fun v15 v79 wr => ∃ (i c : Nat), v79 = .int .i64 (i : Int) ∧ v15 = .int .i64 (c : Int) ∧ i ≤ n2 ∧ c ≤ 2404 * i ∧ Hid (c = (flat ((L.take i).filter fun b => decide (endB b ≤ off))).length) ∧ Hid (Below w6.heap.size w6 wr)) (fun _ v79 _ => n2 - (intOf v79).toNat)
    case atStart => exact ⟨0, 0, rfl, rfl, Nat.zero_le _, Nat.zero_le _, rfl, Below.refl _ w6⟩
    case round =>
      obtain ⟨i, c, rfl, rfl, hin, hci, HC, HBI⟩ := hrel
      obtain ⟨wo, hwo⟩ : ∃ wo : World, wo = wr := ⟨_, rfl⟩
      subst hwo
      by_cases hlt : i < n2
      · have hd : decide (i < n2) = true := decide_eq_true hlt
        have hij : (i : Int) < (n2 : Int) := by omega
        obtain ⟨bx, ox, mx, ex, hbx, hmx, hrx, x0, x1, x2, x3, x4, x5, x6⟩ := (HM2.out.keep HBI.out).get hlt
        subst ex
        have HMX := Lib.hid hmx
        have hin' : mx.b ∈ bats ms2 := List.mem_map.2 ⟨mx, List.mem_of_getElem? hmx, rfl⟩
        have HRT := Lib.hid (HOK2.out mx.b hin')
        have HRX := Lib.hid hrx
        have HTK : Hid ((bats ms2).take (i + 1) = (bats ms2).take i ++ [mx.b]) := by
          show _ = _
          have : (bats ms2)[i]? = some mx.b := by unfold bats; rw [List.getElem?_map, hmx]; rfl
          obtain ⟨h3, e3⟩ := List.getElem?_eq_some_iff.1 this
          rw [List.take_succ_eq_append_getElem h3, e3]
        obtain ⟨cnt, hcnt⟩ : ∃ c, c = countD mx.b := ⟨_, rfl⟩
        have HCB : Hid (1 ≤ cnt ∧ cnt ≤ 16) := by show _ ∧ _; rw [hcnt]; exact count_pos HRT.out.1
        have HB0 : Hid (0 ≤ mx.b.base ∧ mx.b.base ≤ 1099511627776) := ⟨(ok_of HRT.out.1).base0, (ok_of HRT.out.1).base1⟩
        have HEB : Hid (endB mx.b = mx.b.base + cnt) := by show _ = _; rw [hcnt]; rfl
        have HCN : Hid ((if mx.b.marker ≠ 0 then 1 else (mx.b.recs.length : Int)) = cnt) := by show _ = _; rw [hcnt]; rfl
        obtain ⟨Qb, hQb⟩ : ∃ Q, Q = (bytesB mx.b).length := ⟨_, rfl⟩
        have HQB := Lib.hid hQb
        have HQL : Hid (36 ≤ Qb ∧ Qb ≤ 2404) := by show _ ∧ _; rw [hQb]; have := ok_len (ok_of HRT.out.1); omega
        have HSZ : Hid (sizeB mx.b = (Qb : Int)) := by show _ = _; rw [hQb]; unfold sizeB; rw [if_pos HRT.out.1]
        clear hQb
        clear hmx hin' hrx hcnt
        obtain ⟨⟨b0, b1, b2, b3, b4, b5, recs⟩, rd, rc⟩ := mx
        simp only at x0 x1 x2 x3 x4 x5 x6 HB0 HCN HRX HEB HQB HSZ HRT
        obtain ⟨rn, hrn⟩ : ∃ n, n = recs.length := ⟨_, rfl⟩
        have HRN := Lib.hid hrn
        rw [← hrn] at x6
        have HCN2 : Hid ((if b5 ≠ 0 then 1 else (rn : Int)) = cnt) := by show _ = _; rw [hrn]; exact HCN.out
        clear hrn HCN
        have hw1 : IntKind.i64.wrap (b0 + cnt) = b0 + cnt := by rw [IntKind.wrap_i64]; have := HCB.out; have := HB0.out; omega
        go_upto_region 12 with fail
        obtain ⟨W1, hW1⟩ : ∃ z, z = wo.alloc (.cells #[.int .i64 b0, .int .i64 b1, .int .i64 b2, .int .i64 b3, .bool b4, .int .i64 b5, .slice rd rn rc] 51) := ⟨_, rfl⟩
        obtain ⟨kb, hkb⟩ : ∃ z, z = wo.heap.size := ⟨_, rfl⟩
        have HBW : Hid (Below wo.heap.size wo W1) := by show Below _ _ _; rw [hW1]; exact (Below.refl _ _).alloc (Nat.le_refl _) _
        have HX1 : Hid (BoxAt W1 kb b0 b1 b2 b3 b4 b5 (.slice rd rn rc)) := by show BoxAt _ _ _ _ _ _ _ _ _; rw [hW1, hkb]; exact boxAt_new wo _ _ _ _ _ _ _
        rw [← hW1, ← hkb]
        clear hW1 hkb x0 x1 x2 x3 x4 x5 x6
        have hdr : Below W1.heap.size W1 W1.drew := (Below.refl _ W1).drew
        have KS : Hid (∀ V, Below W1.heap.size W1 V → (fun (V : World) => V.cell? ⟨kb, 0, none⟩ = some (.int .i64 b0) ∧ V.cell? ⟨kb, 1, none⟩ = some (.int .i64 b1) ∧ V.cell? ⟨kb, 2, none⟩ = some (.int .i64 b2) ∧ V.cell? ⟨kb, 3, none⟩ = some (.int .i64 b3) ∧ V.cell? ⟨kb, 4, none⟩ = some (.bool b4) ∧ V.cell? ⟨kb, 5, none⟩ = some (.int .i64 b5) ∧ V.cell? ⟨kb, 6, none⟩ = some (.slice rd rn rc)) V) := fun V hV => ⟨(HX1.out.on hV).c0, (HX1.out.on hV).c1, (HX1.out.on hV).c2, (HX1.out.on hV).c3, (HX1.out.on hV).c4, (HX1.out.on hV).c5, (HX1.out.on hV).c6⟩
        refine wp_region_noPanic ?_
        refine wp_region_z [] (fun (V : World) => V.cell? ⟨kb, 0, none⟩ = some (.int .i64 b0) ∧ V.cell? ⟨kb, 1, none⟩ = some (.int .i64 b1) ∧ V.cell? ⟨kb, 2, none⟩ = some (.int .i64 b2) ∧ V.cell? ⟨kb, 3, none⟩ = some (.int .i64 b3) ∧ V.cell? ⟨kb, 4, none⟩ = some (.bool b4) ∧ V.cell? ⟨kb, 5, none⟩ = some (.int .i64 b5) ∧ V.cell? ⟨kb, 6, none⟩ = some (.slice rd rn rc)) (by kernel_rfl) ?_
        have hHeld : (fun (V : World) => V.cell? ⟨kb, 0, none⟩ = some (.int .i64 b0) ∧ V.cell? ⟨kb, 1, none⟩ = some (.int .i64 b1) ∧ V.cell? ⟨kb, 2, none⟩ = some (.int .i64 b2) ∧ V.cell? ⟨kb, 3, none⟩ = some (.int .i64 b3) ∧ V.cell? ⟨kb, 4, none⟩ = some (.bool b4) ∧ V.cell? ⟨kb, 5, none⟩ = some (.int .i64 b5) ∧ V.cell? ⟨kb, 6, none⟩ = some (.slice rd rn rc)) _ := KS.out _ hdr
        obtain ⟨u0, hu0⟩ : ∃ u, u = W1.drew := ⟨_, rfl⟩
        rw [← hu0] at hHeld hdr
        rw [← hu0]
        clear hu0
        have HQ0 := Lib.hid hdr
        clear hdr
        refine wpAnyZ_take (i := 0) (oi := ⟨_, _, _, _, _, _⟩) (v := ?_) rfl (by kernel_rfl) (by kernel_rfl) (by kernel_rfl) (by kernel_rfl) (by kernel_rfl) (fun _ _ _ h => h) (Or.inl ⟨by rfl, ?_⟩) (by assumption) ?_
        rotate_left
        · intro W hSw
          (try dsimp only at hSw)
          go_simp
          (try with_reducible rfl)
        (try simp only [Act.put, List.setIfInBounds_toArray, List.set_cons_zero, List.set_cons_succ])
        refine wpAnyZ_take (i := 1) (oi := ⟨_, _, _, _, _, _⟩) (v := ?_) rfl (by kernel_rfl) (by kernel_rfl) (by kernel_rfl) (by kernel_rfl) (by kernel_rfl) (fun _ _ _ h => h) (Or.inl ⟨by rfl, ?_⟩) (by assumption) ?_
        rotate_left
        · intro W hSw
          (try dsimp only at hSw)
          go_simp
          (try with_reducible rfl)
        (try simp only [Act.put, List.setIfInBounds_toArray, List.set_cons_zero, List.set_cons_succ])
        refine wpAnyZ_take (i := 2) (oi := ⟨_, _, _, _, _, _⟩) (v := ?_) rfl (by kernel_rfl) (by kernel_rfl) (by kernel_rfl) (by kernel_rfl) (by kernel_rfl) (fun _ _ _ h => h) (Or.inl ⟨by rfl, ?_⟩) (by assumption) ?_
        rotate_left
        · intro W hSw
          (try dsimp only at hSw)
          go_simp
          (try with_reducible rfl)
        (try simp only [Act.put, List.setIfInBounds_toArray, List.set_cons_zero, List.set_cons_succ])
        refine wpAnyZ_take (i := 5) (oi := ⟨_, _, _, _, _, _⟩) (v := ?_) rfl (by kernel_rfl) (by kernel_rfl) (by kernel_rfl) (by kernel_rfl) (by kernel_rfl) (fun _ _ _ h => h) (Or.inl ⟨by rfl, ?_⟩) (by assumption) ?_
        rotate_left
        · intro W hSw
          (try dsimp only at hSw)
          go_simp
          (try with_reducible rfl)
        (try simp only [Act.put, List.setIfInBounds_toArray, List.set_cons_zero, List.set_cons_succ])
        refine wpAnyZ_ready (rs := [3]) (by kernel_rfl) (by simp) ?_
        refine AllReadyZ.cons (o := ⟨_, _, _, _, _, _⟩) rfl (fun C hC => ?_) AllReadyZ.nil
        go_simp
        refine (refCount_any u0 b0 b1 b2 b3 b4 b5 rd rn rc cnt HCN2.out).mono ?_
        rintro e u1 ⟨rfl, hb1⟩
        have HQ1 : Hid (Below W1.heap.size W1 u1) := HQ0.out.trans (hb1.mono HQ0.out.size)
        clear hb1
        have hHeld : (fun (V : World) => V.cell? ⟨kb, 0, none⟩ = some (.int .i64 b0) ∧ V.cell? ⟨kb, 1, none⟩ = some (.int .i64 b1) ∧ V.cell? ⟨kb, 2, none⟩ = some (.int .i64 b2) ∧ V.cell? ⟨kb, 3, none⟩ = some (.int .i64 b3) ∧ V.cell? ⟨kb, 4, none⟩ = some (.bool b4) ∧ V.cell? ⟨kb, 5, none⟩ = some (.int .i64 b5) ∧ V.cell? ⟨kb, 6, none⟩ = some (.slice rd rn rc)) u1 := KS.out _ HQ1.out
        refine hC.out _ _ (fun _ => hHeld) (fun _ => ?_)
        clear hC C
        (try simp only [Act.put, List.setIfInBounds_toArray, List.set_cons_zero, List.set_cons_succ])
        refine wpAnyZ_take (i := 4) (oi := ⟨_, _, _, _, _, _⟩) (v := ?_) rfl (by kernel_rfl) (by kernel_rfl) (by kernel_rfl) (by kernel_rfl) (by kernel_rfl) (fun _ _ _ h => h) (Or.inl ⟨by rfl, ?_⟩) (by assumption) ?_
        rotate_left
        · intro W hSw
          (try dsimp only at hSw)
          go_simp
          (try with_reducible rfl)
        (try simp only [Act.put, List.setIfInBounds_toArray, List.set_cons_zero, List.set_cons_succ])
        refine wpAnyZ_take (i := 6) (oi := ⟨_, _, _, _, _, _⟩) (v := ?_) rfl (by kernel_rfl) (by kernel_rfl) (by kernel_rfl) (by kernel_rfl) (by kernel_rfl) (fun _ _ _ h => h) (Or.inl ⟨by rfl, ?_⟩) (by assumption) ?_
        rotate_left
        · intro W hSw
          (try dsimp only at hSw)
          go_simp
          (try with_reducible rfl)
        (try simp only [Act.put, List.setIfInBounds_toArray, List.set_cons_zero, List.set_cons_succ])
        refine wpAnyZ_done (by kernel_rfl) ?_ _
        refine NoPanic.normal ?_
        clear hHeld KS
        have HX2 := Lib.hid (HX1.out.on HQ1.out)
        have HB2 : Hid (Below wo.heap.size wo u1) := HBW.out.trans (HQ1.out.mono HBW.out.size)
        clear HX1 HBW HQ0
        have q0 := HX2.out.c0
        have q1 := HX2.out.c1
        have q2 := HX2.out.c2
        have q3 := HX2.out.c3
        have q4 := HX2.out.c4
        have q5 := HX2.out.c5
        have q6 := HX2.out.c6
        by_cases hof : b0 + cnt ≤ off
        · have hdo : decide (b0 + cnt ≤ off) = true := decide_eq_true hof
          have HCX : Hid (c + Qb = (flat ((L.take (i + 1)).filter fun b => decide (endB b ≤ off))).length) := by
            show _ = _
            rw [← HL2.out, HTK.out, filter_snoc, if_pos (decide_eq_true (by rw [HEB.out]; exact hof)), flat_snoc, List.length_append, HL2.out, ← HC.out, HQB.out]
          have hw2 : IntKind.i64.wrap ((c : Int) + (Qb : Int)) = (c : Int) + (Qb : Int) := by rw [IntKind.wrap_i64]; have := HQL.out; have := HN2.out; omega
          go_wp2_with fail
          refine (refSize_any u1 ⟨b0, b1, b2, b3, b4, b5, recs⟩ rd rn rc (by rw [HRN.out]; exact HRX.out.keep HB2.out) (texts_of (ok_of HRT.out.1).texts) (by rw [HRN.out]; have h16 : recs.length ≤ 16 := (ok_of HRT.out.1).recs; omega) HRT.out.2.prod.2).mono ?_
          rintro e u2 ⟨rfl, hb9⟩
          have HB9 : Hid (Below w6.heap.size w6 u2) := HBI.out.trans ((HB2.out.trans (hb9.mono HB2.out.size)).mono HBI.out.size)
          rw [HSZ.out]
          clear hb9
          go_wp2_with fail
          go_roundw
          case rel => exact ⟨i + 1, c + Qb, by go_num, by go_num, by omega, by have := HQL.out; omega, HCX.out, HB9.out⟩
          case measure => simp [intOf]; omega
        · have hdo : decide (b0 + cnt ≤ off) = false := decide_eq_false hof
          have HCX : Hid (c = (flat ((L.take (i + 1)).filter fun b => decide (endB b ≤ off))).length) := by
            show _ = _
            rw [← HL2.out, HTK.out, filter_snoc, if_neg (by rw [HEB.out]; simpa using hof), HL2.out, ← HC.out]
          have HB9 : Hid (Below w6.heap.size w6 u1) := HBI.out.trans (HB2.out.mono HBI.out.size)

          go_wp2_with fail
          go_roundw
          case rel => exact ⟨i + 1, c, by go_num, rfl, by omega, by omega, HCX.out, HB9.out⟩
          case measure => simp [intOf]; omega
      · have hd : decide (i < n2) = false := decide_eq_false hlt
        have HCF : Hid (c = (flat (L.filter fun b => decide (endB b ≤ off))).length) := by
          show _ = _
          have h3 := HC.out
          rw [List.take_of_length_le (by rw [HNL.out]; omega)] at h3
          exact h3
        have HB7 : Hid (Below w.heap.size w wo) := HB6.out.trans (HBI.out.mono HB6.out.size)
        have HXV7 := Lib.hid (HXV.out.on HBI.out)
        have HM7 := Lib.hid (HM2.out.keep HBI.out)
        clear HXV HM2 HBI HB6
        go_wp2_with fail
        refine (segFrom_any wo ad len cap p (H.out.keep HB7.out (Nat.le_refl _)) hL base off HBA.out HOF.out L HS2.out _ HXV7.out).mono ?_
        rintro e w8 ⟨ad8, n8, cap8, ms8, rfl, HM8, HF8, HB8⟩
        have HB8' : Hid (Below w.heap.size w w8) := HB7.out.trans (HB8.out.mono HB7.out.size)
        have HM7 := Lib.hid (HM7.out.keep HB8.out)
        clear HB8 HB7 HXV7
        go_wp2_with fail
        refine (lawFrom_any w8 ad2 n2 cap2 ms2 HM7.out HN2.out.1 HOK2.out off HOF.out).mono ?_
        rintro e w9 ⟨ad9, n9, cap9, ms9, rfl, HM9, HF9, HB9⟩
        rw [HL2.out] at HF9
        have HB9' : Hid (Below w.heap.size w w9) := HB8'.out.trans (HB9.out.mono HB8'.out.size)
        have HM7 := Lib.hid (HM7.out.keep HB9.out)
        have HM8 := Lib.hid (HM8.out.keep HB9.out)
        clear HB9 HB8'
        have HOK8 : Hid (RowOk (bats ms8)) := by show RowOk _; rw [HF8.out]; exact filter_ok HS2.out.ok _
        have HN8 : Hid (n8 ≤ 140737488355328) := by
          show _ ≤ _
          have h3 : (bats ms8).length ≤ L.length := by rw [HF8.out]; exact List.length_filter_le _ _
          rw [bats_len, HM8.out.row.length, HNL.out] at h3
          have := HN2.out
          omega
        go_wp2_with fail
        refine (refRows_any w9 ad8 ad9 n8 n9 cap8 cap9 ms8 ms9 HM8.out HM9.out HN8.out (bats_few HOK8.out) true (by rw [HF8.out, HF9.out]; simp)).mono ?_
        rintro e w10 ⟨rfl, hb10⟩
        have HB10 : Hid (Below w.heap.size w w10) := HB9'.out.trans (hb10.mono HB9'.out.size)
        have HM7 := Lib.hid (HM7.out.keep hb10)
        clear hb10 HB9' HM8 HM9 HF8 HF9 HOK8 HN8
        go_wp2_with fail
        refine (segFrom_any w10 ad len cap p (H.out.keep HB10.out (Nat.le_refl _)) hL base off HBA.out HOF.out L HS2.out _ (.inl rfl)).mono ?_
        rintro e w8 ⟨ad8, n8, cap8, ms8, rfl, HM8, HF8, HB8⟩
        have HB8' : Hid (Below w.heap.size w w8) := HB10.out.trans (HB8.out.mono HB10.out.size)
        have HM7 := Lib.hid (HM7.out.keep HB8.out)
        clear HB8 HB10
        go_wp2_with fail
        refine (lawFrom_any w8 ad2 n2 cap2 ms2 HM7.out HN2.out.1 HOK2.out off HOF.out).mono ?_
        rintro e w9 ⟨ad9, n9, cap9, ms9, rfl, HM9, HF9, HB9⟩
        rw [HL2.out] at HF9
        have HB9' : Hid (Below w.heap.size w w9) := HB8'.out.trans (HB9.out.mono HB8'.out.size)
        have HM8 := Lib.hid (HM8.out.keep HB9.out)
        clear HB9 HB8' HM7
        have HOK8 : Hid (RowOk (bats ms8)) := by show RowOk _; rw [HF8.out]; exact filter_ok HS2.out.ok _
        have HN8 : Hid (n8 ≤ 140737488355328) := by
          show _ ≤ _
          have h3 : (bats ms8).length ≤ L.length := by rw [HF8.out]; exact List.length_filter_le _ _
          rw [bats_len, HM8.out.row.length, HNL.out] at h3
          have := HN2.out
          omega
        go_wp2_with fail
        refine (refRows_any w9 ad8 ad9 n8 n9 cap8 cap9 ms8 ms9 HM8.out HM9.out HN8.out (bats_few HOK8.out) true (by rw [HF8.out, HF9.out]; simp)).mono ?_
        rintro e w10 ⟨rfl, hb10⟩
        have HB10 : Hid (Below w.heap.size w w10) := HB9'.out.trans (hb10.mono HB9'.out.size)
        clear hb10 HB9' HM8 HM9 HF8 HF9 HOK8 HN8
        go_wp2_with fail
        refine (segCut_any w10 ad len cap p (H.out.keep HB10.out (Nat.le_refl _)) hL base off HBA.out HOF.out L HS2.out).mono ?_
        rintro e w11 ⟨rfl, HB11⟩
        rw [← HCF.out]
        have HB12 : Hid (Below w.heap.size w w11) := HB10.out.trans (HB11.out.mono HB10.out.size)
        clear HB11 HB10
        go_wp2_with fail
        go_ret
        exact ⟨rfl, HB12.out⟩
  have d2d : decide (base ≤ 1099511627776) = true := decide_eq_true d2
  by_cases d3 : 1 ≤ every
  rotate_left
  · have d3d : decide (1 ≤ every) = false := decide_eq_false d3
    have hbad : badN base every = true := decide_eq_true (by omega)
    rcases hc with ⟨_, rfl⟩ | ⟨hgood, _⟩
    rotate_left
    · rw [hbad] at hgood; cases hgood
    clear hbad
    have HXV : Hid (IxVal w6 base L (.pointer none)) := .inl rfl
    have hn22 : n2 ≤ 10000 := HN2.out.1
    go_wp2_with fail
    go_loopw [15, 79] (fun v15 v79 wr => ∃ (i c : Nat), v79 = .int .i64 (i : Int) ∧ v15 = .int .i64 (c : Int) ∧ i ≤ n2 ∧ c ≤ 2404 * i ∧ Hid (c = (flat ((L.take i).filter fun b => decide (endB b ≤ off))).length) ∧ Hid (Below w6.heap.size w6 wr)) (fun _ v79 _ => n2 - (intOf v79).toNat)
    case atStart => exact ⟨0, 0, rfl, rfl, Nat.zero_le _, Nat.zero_le _, rfl, Below.refl _ w6⟩
    case round =>
      obtain ⟨i, c, rfl, rfl, hin, hci, HC, HBI⟩ := hrel
      obtain ⟨wo, hwo⟩ : ∃ wo : World, wo = wr := ⟨_, rfl⟩
      subst hwo
      by_cases hlt : i < n2
      · have hd : decide (i < n2) = true := decide_eq_true hlt
        have hij : (i : Int) < (n2 : Int) := by omega
        obtain ⟨bx, ox, mx, ex, hbx, hmx, hrx, x0, x1, x2, x3, x4, x5, x6⟩ := (HM2.out.keep HBI.out).get hlt
        subst ex
        have HMX := Lib.hid hmx
        have hin' : mx.b ∈ bats ms2 := List.mem_map.2 ⟨mx, List.mem_of_getElem? hmx, rfl⟩
        have HRT := Lib.hid (HOK2.out mx.b hin')
        have HRX := Lib.hid hrx
        have HTK : Hid ((bats ms2).take (i + 1) = (bats ms2).take i ++ [mx.b]) := by
          show _ = _
          have : (bats ms2)[i]? = some mx.b := by unfold bats; rw [List.getElem?_map, hmx]; rfl
          obtain ⟨h3, e3⟩ := List.getElem?_eq_some_iff.1 this
          rw [List.take_succ_eq_append_getElem h3, e3]
        obtain ⟨cnt, hcnt⟩ : ∃ c, c = countD mx.b := ⟨_, rfl⟩
        have HCB : Hid (1 ≤ cnt ∧ cnt ≤ 16) := by show _ ∧ _; rw [hcnt]; exact count_pos HRT.out.1
        have HB0 : Hid (0 ≤ mx.b.base ∧ mx.b.base ≤ 1099511627776) := ⟨(ok_of HRT.out.1).base0, (ok_of HRT.out.1).base1⟩
        have HEB : Hid (endB mx.b = mx.b.base + cnt) := by show _ = _; rw [hcnt]; rfl
        have HCN : Hid ((if mx.b.marker ≠ 0 then 1 else (mx.b.recs.length : Int)) = cnt) := by show _ = _; rw [hcnt]; rfl
        obtain ⟨Qb, hQb⟩ : ∃ Q, Q = (bytesB mx.b).length := ⟨_, rfl⟩
        have HQB := Lib.hid hQb
        have HQL : Hid (36 ≤ Qb ∧ Qb ≤ 2404) := by show _ ∧ _; rw [hQb]; have := ok_len (ok_of HRT.out.1); omega
        have HSZ : Hid (sizeB mx.b = (Qb : Int)) := by show _ = _; rw [hQb]; unfold sizeB; rw [if_pos HRT.out.1]
        clear hQb
        clear hmx hin' hrx hcnt
        obtain ⟨⟨b0, b1, b2, b3, b4, b5, recs⟩, rd, rc⟩ := mx
        simp only at x0 x1 x2 x3 x4 x5 x6 HB0 HCN HRX HEB HQB HSZ HRT
        obtain ⟨rn, hrn⟩ : ∃ n, n = recs.length := ⟨_, rfl⟩
        have HRN := Lib.hid hrn
        rw [← hrn] at x6
        have HCN2 : Hid ((if b5 ≠ 0 then 1 else (rn : Int)) = cnt) := by show _ = _; rw [hrn]; exact HCN.out
        clear hrn HCN
        have hw1 : IntKind.i64.wrap (b0 + cnt) = b0 + cnt := by rw [IntKind.wrap_i64]; have := HCB.out; have := HB0.out; omega
        go_upto_region 12 with fail
        obtain ⟨W1, hW1⟩ : ∃ z, z = wo.alloc (.cells #[.int .i64 b0, .int .i64 b1, .int .i64 b2, .int .i64 b3, .bool b4, .int .i64 b5, .slice rd rn rc] 51) := ⟨_, rfl⟩
        obtain ⟨kb, hkb⟩ : ∃ z, z = wo.heap.size := ⟨_, rfl⟩
        have HBW : Hid (Below wo.heap.size wo W1) := by show Below _ _ _; rw [hW1]; exact (Below.refl _ _).alloc (Nat.le_refl _) _
        have HX1 : Hid (BoxAt W1 kb b0 b1 b2 b3 b4 b5 (.slice rd rn rc)) := by show BoxAt _ _ _ _ _ _ _ _ _; rw [hW1, hkb]; exact boxAt_new wo _ _ _ _ _ _ _
        rw [← hW1, ← hkb]
        clear hW1 hkb x0 x1 x2 x3 x4 x5 x6
        have hdr : Below W1.heap.size W1 W1.drew := (Below.refl _ W1).drew
        have KS : Hid (∀ V, Below W1.heap.size W1 V → (fun (V : World) => V.cell? ⟨kb, 0, none⟩ = some (.int .i64 b0) ∧ V.cell? ⟨kb, 1, none⟩ = some (.int .i64 b1) ∧ V.cell? ⟨kb, 2, none⟩ = some (.int .i64 b2) ∧ V.cell? ⟨kb, 3, none⟩ = some (.int .i64 b3) ∧ V.cell? ⟨kb, 4, none⟩ = some (.bool b4) ∧ V.cell? ⟨kb, 5, none⟩ = some (.int .i64 b5) ∧ V.cell? ⟨kb, 6, none⟩ = some (.slice rd rn rc)) V) := fun V hV => ⟨(HX1.out.on hV).c0, (HX1.out.on hV).c1, (HX1.out.on hV).c2, (HX1.out.on hV).c3, (HX1.out.on hV).c4, (HX1.out.on hV).c5, (HX1.out.on hV).c6⟩
        refine wp_region_noPanic ?_
        refine wp_region_z [] (fun (V : World) => V.cell? ⟨kb, 0, none⟩ = some (.int .i64 b0) ∧ V.cell? ⟨kb, 1, none⟩ = some (.int .i64 b1) ∧ V.cell? ⟨kb, 2, none⟩ = some (.int .i64 b2) ∧ V.cell? ⟨kb, 3, none⟩ = some (.int .i64 b3) ∧ V.cell? ⟨kb, 4, none⟩ = some (.bool b4) ∧ V.cell? ⟨kb, 5, none⟩ = some (.int .i64 b5) ∧ V.cell? ⟨kb, 6, none⟩ = some (.slice rd rn rc)) (by kernel_rfl) ?_
        have hHeld : (fun (V : World) => V.cell? ⟨kb, 0, none⟩ = some (.int .i64 b0) ∧ V.cell? ⟨kb, 1, none⟩ = some (.int .i64 b1) ∧ V.cell? ⟨kb, 2, none⟩ = some (.int .i64 b2) ∧ V.cell? ⟨kb, 3, none⟩ = some (.int .i64 b3) ∧ V.cell? ⟨kb, 4, none⟩ = some (.bool b4) ∧ V.cell? ⟨kb, 5, none⟩ = some (.int .i64 b5) ∧ V.cell? ⟨kb, 6, none⟩ = some (.slice rd rn rc)) _ := KS.out _ hdr
        obtain ⟨u0, hu0⟩ : ∃ u, u = W1.drew := ⟨_, rfl⟩
        rw [← hu0] at hHeld hdr
        rw [← hu0]
        clear hu0
        have HQ0 := Lib.hid hdr
        clear hdr
        refine wpAnyZ_take (i := 0) (oi := ⟨_, _, _, _, _, _⟩) (v := ?_) rfl (by kernel_rfl) (by kernel_rfl) (by kernel_rfl) (by kernel_rfl) (by kernel_rfl) (fun _ _ _ h => h) (Or.inl ⟨by rfl, ?_⟩) (by assumption) ?_
        rotate_left
        · intro W hSw
          (try dsimp only at hSw)
          go_simp
          (try with_reducible rfl)
        (try simp only [Act.put, List.setIfInBounds_toArray, List.set_cons_zero, List.set_cons_succ])
        refine wpAnyZ_take (i := 1) (oi := ⟨_, _, _, _, _, _⟩) (v := ?_) rfl (by kernel_rfl) (by kernel_rfl) (by kernel_rfl) (by kernel_rfl) (by kernel_rfl) (fun _ _ _ h => h) (Or.inl ⟨by rfl, ?_⟩) (by assumption) ?_
        rotate_left
        · intro W hSw
          (try dsimp only at hSw)
          go_simp
          (try with_reducible rfl)
        (try simp only [Act.put, List.setIfInBounds_toArray, List.set_cons_zero, List.set_cons_succ])
        refine wpAnyZ_take (i := 2) (oi := ⟨_, _, _, _, _, _⟩) (v := ?_) rfl (by kernel_rfl) (by kernel_rfl) (by kernel_rfl) (by kernel_rfl) (by kernel_rfl) (fun _ _ _ h => h) (Or.inl ⟨by rfl, ?_⟩) (by assumption) ?_
        rotate_left
        · intro W hSw
          (try dsimp only at hSw)
          go_simp
          (try with_reducible rfl)
        (try simp only [Act.put, List.setIfInBounds_toArray, List.set_cons_zero, List.set_cons_succ])
        refine wpAnyZ_take (i := 5) (oi := ⟨_, _, _, _, _, _⟩) (v := ?_) rfl (by kernel_rfl) (by kernel_rfl) (by kernel_rfl) (by kernel_rfl) (by kernel_rfl) (fun _ _ _ h => h) (Or.inl ⟨by rfl, ?_⟩) (by assumption) ?_
        rotate_left
        · intro W hSw
          (try dsimp only at hSw)
          go_simp
          (try with_reducible rfl)
        (try simp only [Act.put, List.setIfInBounds_toArray, List.set_cons_zero, List.set_cons_succ])
        refine wpAnyZ_ready (rs := [3]) (by kernel_rfl) (by simp) ?_
        refine AllReadyZ.cons (o := ⟨_, _, _, _, _, _⟩) rfl (fun C hC => ?_) AllReadyZ.nil
        go_simp
        refine (refCount_any u0 b0 b1 b2 b3 b4 b5 rd rn rc cnt HCN2.out).mono ?_
        rintro e u1 ⟨rfl, hb1⟩
        have HQ1 : Hid (Below W1.heap.size W1 u1) := HQ0.out.trans (hb1.mono HQ0.out.size)
        clear hb1
        have hHeld : (fun (V : World) => V.cell? ⟨kb, 0, none⟩ = some (.int .i64 b0) ∧ V.cell? ⟨kb, 1, none⟩ = some (.int .i64 b1) ∧ V.cell? ⟨kb, 2, none⟩ = some (.int .i64 b2) ∧ V.cell? ⟨kb, 3, none⟩ = some (.int .i64 b3) ∧ V.cell? ⟨kb, 4, none⟩ = some (.bool b4) ∧ V.cell? ⟨kb, 5, none⟩ = some (.int .i64 b5) ∧ V.cell? ⟨kb, 6, none⟩ = some (.slice rd rn rc)) u1 := KS.out _ HQ1.out
        refine hC.out _ _ (fun _ => hHeld) (fun _ => ?_)
        clear hC C
        (try simp only [Act.put, List.setIfInBounds_toArray, List.set_cons_zero, List.set_cons_succ])
        refine wpAnyZ_take (i := 4) (oi := ⟨_, _, _, _, _, _⟩) (v := ?_) rfl (by kernel_rfl) (by kernel_rfl) (by kernel_rfl) (by kernel_rfl) (by kernel_rfl) (fun _ _ _ h => h) (Or.inl ⟨by rfl, ?_⟩) (by assumption) ?_
        rotate_left
        · intro W hSw
          (try dsimp only at hSw)
          go_simp
          (try with_reducible rfl)
        (try simp only [Act.put, List.setIfInBounds_toArray, List.set_cons_zero, List.set_cons_succ])
        refine wpAnyZ_take (i := 6) (oi := ⟨_, _, _, _, _, _⟩) (v := ?_) rfl (by kernel_rfl) (by kernel_rfl) (by kernel_rfl) (by kernel_rfl) (by kernel_rfl) (fun _ _ _ h => h) (Or.inl ⟨by rfl, ?_⟩) (by assumption) ?_
        rotate_left
        · intro W hSw
          (try dsimp only at hSw)
          go_simp
          (try with_reducible rfl)
        (try simp only [Act.put, List.setIfInBounds_toArray, List.set_cons_zero, List.set_cons_succ])
        refine wpAnyZ_done (by kernel_rfl) ?_ _
        refine NoPanic.normal ?_
        clear hHeld KS
        have HX2 := Lib.hid (HX1.out.on HQ1.out)
        have HB2 : Hid (Below wo.heap.size wo u1) := HBW.out.trans (HQ1.out.mono HBW.out.size)
        clear HX1 HBW HQ0
        have q0 := HX2.out.c0
        have q1 := HX2.out.c1
        have q2 := HX2.out.c2
        have q3 := HX2.out.c3
        have q4 := HX2.out.c4
        have q5 := HX2.out.c5
        have q6 := HX2.out.c6
        by_cases hof : b0 + cnt ≤ off
        · have hdo : decide (b0 + cnt ≤ off) = true := decide_eq_true hof
          have HCX : Hid (c + Qb = (flat ((L.take (i + 1)).filter fun b => decide (endB b ≤ off))).length) := by
            show _ = _
            rw [← HL2.out, HTK.out, filter_snoc, if_pos (decide_eq_true (by rw [HEB.out]; exact hof)), flat_snoc, List.length_append, HL2.out, ← HC.out, HQB.out]
          have hw2 : IntKind.i64.wrap ((c : Int) + (Qb : Int)) = (c : Int) + (Qb : Int) := by rw [IntKind.wrap_i64]; have := HQL.out; have := HN2.out; omega
          go_wp2_with fail
          refine (refSize_any u1 ⟨b0, b1, b2, b3, b4, b5, recs⟩ rd rn rc (by rw [HRN.out]; exact HRX.out.keep HB2.out) (texts_of (ok_of HRT.out.1).texts) (by rw [HRN.out]; have h16 : recs.length ≤ 16 := (ok_of HRT.out.1).recs; omega) HRT.out.2.prod.2).mono ?_
          rintro e u2 ⟨rfl, hb9⟩
          have HB9 : Hid (Below w6.heap.size w6 u2) := HBI.out.trans ((HB2.out.trans (hb9.mono HB2.out.size)).mono HBI.out.size)
          rw [HSZ.out]
          clear hb9
          go_wp2_with fail
          go_roundw
          case rel => exact ⟨i + 1, c + Qb, by go_num, by go_num, by omega, by have := HQL.out; omega, HCX.out, HB9.out⟩
          case measure => simp [intOf]; omega
        · have hdo : decide (b0 + cnt ≤ off) = false := decide_eq_false hof
          have HCX : Hid (c = (flat ((L.take (i + 1)).filter fun b => decide (endB b ≤ off))).length) := by
            show _ = _
            rw [← HL2.out, HTK.out, filter_snoc, if_neg (by rw [HEB.out]; simpa using hof), HL2.out, ← HC.out]
          have HB9 : Hid (Below w6.heap.size w6 u1) := HBI.out.trans (HB2.out.mono HBI.out.size)

          go_wp2_with fail
          go_roundw
          case rel => exact ⟨i + 1, c, by go_num, rfl, by omega, by omega, HCX.out, HB9.out⟩
          case measure => simp [intOf]; omega
      · have hd : decide (i < n2) = false := decide_eq_false hlt
        have HCF : Hid (c = (flat (L.filter fun b => decide (endB b ≤ off))).length) := by
          show _ = _
          have h3 := HC.out
          rw [List.take_of_length_le (by rw [HNL.out]; omega)] at h3
          exact h3
        have HB7 : Hid (Below w.heap.size w wo) := HB6.out.trans (HBI.out.mono HB6.out.size)
        have HXV7 := Lib.hid (HXV.out.on HBI.out)
        have HM7 := Lib.hid (HM2.out.keep HBI.out)
        clear HXV HM2 HBI HB6
        go_wp2_with fail
        refine (segFrom_any wo ad len cap p (H.out.keep HB7.out (Nat.le_refl _)) hL base off HBA.out HOF.out L HS2.out _ HXV7.out).mono ?_
        rintro e w8 ⟨ad8, n8, cap8, ms8, rfl, HM8, HF8, HB8⟩
        have HB8' : Hid (Below w.heap.size w w8) := HB7.out.trans (HB8.out.mono HB7.out.size)
        have HM7 := Lib.hid (HM7.out.keep HB8.out)
        clear HB8 HB7 HXV7
        go_wp2_with fail
        refine (lawFrom_any w8 ad2 n2 cap2 ms2 HM7.out HN2.out.1 HOK2.out off HOF.out).mono ?_
        rintro e w9 ⟨ad9, n9, cap9, ms9, rfl, HM9, HF9, HB9⟩
        rw [HL2.out] at HF9
        have HB9' : Hid (Below w.heap.size w w9) := HB8'.out.trans (HB9.out.mono HB8'.out.size)
        have HM7 := Lib.hid (HM7.out.keep HB9.out)
        have HM8 := Lib.hid (HM8.out.keep HB9.out)
        clear HB9 HB8'
        have HOK8 : Hid (RowOk (bats ms8)) := by show RowOk _; rw [HF8.out]; exact filter_ok HS2.out.ok _
        have HN8 : Hid (n8 ≤ 140737488355328) := by
          show _ ≤ _
          have h3 : (bats ms8).length ≤ L.length := by rw [HF8.out]; exact List.length_filter_le _ _
          rw [bats_len, HM8.out.row.length, HNL.out] at h3
          have := HN2.out
          omega
        go_wp2_with fail
        refine (refRows_any w9 ad8 ad9 n8 n9 cap8 cap9 ms8 ms9 HM8.out HM9.out HN8.out (bats_few HOK8.out) true (by rw [HF8.out, HF9.out]; simp)).mono ?_
        rintro e w10 ⟨rfl, hb10⟩
        have HB10 : Hid (Below w.heap.size w w10) := HB9'.out.trans (hb10.mono HB9'.out.size)
        have HM7 := Lib.hid (HM7.out.keep hb10)
        clear hb10 HB9' HM8 HM9 HF8 HF9 HOK8 HN8
        go_wp2_with fail
        refine (segFrom_any w10 ad len cap p (H.out.keep HB10.out (Nat.le_refl _)) hL base off HBA.out HOF.out L HS2.out _ (.inl rfl)).mono ?_
        rintro e w8 ⟨ad8, n8, cap8, ms8, rfl, HM8, HF8, HB8⟩
        have HB8' : Hid (Below w.heap.size w w8) := HB10.out.trans (HB8.out.mono HB10.out.size)
        have HM7 := Lib.hid (HM7.out.keep HB8.out)
        clear HB8 HB10
        go_wp2_with fail
        refine (lawFrom_any w8 ad2 n2 cap2 ms2 HM7.out HN2.out.1 HOK2.out off HOF.out).mono ?_
        rintro e w9 ⟨ad9, n9, cap9, ms9, rfl, HM9, HF9, HB9⟩
        rw [HL2.out] at HF9
        have HB9' : Hid (Below w.heap.size w w9) := HB8'.out.trans (HB9.out.mono HB8'.out.size)
        have HM8 := Lib.hid (HM8.out.keep HB9.out)
        clear HB9 HB8' HM7
        have HOK8 : Hid (RowOk (bats ms8)) := by show RowOk _; rw [HF8.out]; exact filter_ok HS2.out.ok _
        have HN8 : Hid (n8 ≤ 140737488355328) := by
          show _ ≤ _
          have h3 : (bats ms8).length ≤ L.length := by rw [HF8.out]; exact List.length_filter_le _ _
          rw [bats_len, HM8.out.row.length, HNL.out] at h3
          have := HN2.out
          omega
        go_wp2_with fail
        refine (refRows_any w9 ad8 ad9 n8 n9 cap8 cap9 ms8 ms9 HM8.out HM9.out HN8.out (bats_few HOK8.out) true (by rw [HF8.out, HF9.out]; simp)).mono ?_
        rintro e w10 ⟨rfl, hb10⟩
        have HB10 : Hid (Below w.heap.size w w10) := HB9'.out.trans (hb10.mono HB9'.out.size)
        clear hb10 HB9' HM8 HM9 HF8 HF9 HOK8 HN8
        go_wp2_with fail
        refine (segCut_any w10 ad len cap p (H.out.keep HB10.out (Nat.le_refl _)) hL base off HBA.out HOF.out L HS2.out).mono ?_
        rintro e w11 ⟨rfl, HB11⟩
        rw [← HCF.out]
        have HB12 : Hid (Below w.heap.size w w11) := HB10.out.trans (HB11.out.mono HB10.out.size)
        clear HB11 HB10
        go_wp2_with fail
        go_ret
        exact ⟨rfl, HB12.out⟩
  have d3d : decide (1 ≤ every) = true := decide_eq_true d3
  by_cases d4 : every ≤ 1073741824
  rotate_left
  · have d4d : decide (every ≤ 1073741824) = false := decide_eq_false d4
    have hbad : badN base every = true := decide_eq_true (by omega)
    rcases hc with ⟨_, rfl⟩ | ⟨hgood, _⟩
    rotate_left
    · rw [hbad] at hgood; cases hgood
    clear hbad
    have HXV : Hid (IxVal w6 base L (.pointer none)) := .inl rfl
    have hn22 : n2 ≤ 10000 := HN2.out.1
    go_wp2_with fail
    go_loopw [15, 79] (fun v15 v79 wr => ∃ (i c : Nat), v79 = .int .i64 (i : Int) ∧ v15 = .int .i64 (c : Int) ∧ i ≤ n2 ∧ c ≤ 2404 * i ∧ Hid (c = (flat ((L.take i).filter fun b => decide (endB b ≤ off))).length) ∧ Hid (Below w6.heap.size w6 wr)) (fun _ v79 _ => n2 - (intOf v79).toNat)
    case atStart => exact ⟨0, 0, rfl, rfl, Nat.zero_le _, Nat.zero_le _, rfl, Below.refl _ w6⟩
    case round =>
      obtain ⟨i, c, rfl, rfl, hin, hci, HC, HBI⟩ := hrel
      obtain ⟨wo, hwo⟩ : ∃ wo : World, wo = wr := ⟨_, rfl⟩
      subst hwo
      by_cases hlt : i < n2
      · have hd : decide (i < n2) = true := decide_eq_true hlt
        have hij : (i : Int) < (n2 : Int) := by omega
        obtain ⟨bx, ox, mx, ex, hbx, hmx, hrx, x0, x1, x2, x3, x4, x5, x6⟩ := (HM2.out.keep HBI.out).get hlt
        subst ex
        have HMX := Lib.hid hmx
        have hin' : mx.b ∈ bats ms2 := List.mem_map.2 ⟨mx, List.mem_of_getElem? hmx, rfl⟩
        have HRT := Lib.hid (HOK2.out mx.b hin')
        have HRX := Lib.hid hrx
        have HTK : Hid ((bats ms2).take (i + 1) = (bats ms2).take i ++ [mx.b]) := by
          show _ = _
          have : (bats ms2)[i]? = some mx.b := by unfold bats; rw [List.getElem?_map, hmx]; rfl
          obtain ⟨h3, e3⟩ := List.getElem?_eq_some_iff.1 this
          rw [List.take_succ_eq_append_getElem h3, e3]
        obtain ⟨cnt, hcnt⟩ : ∃ c, c = countD mx.b := ⟨_, rfl⟩
        have HCB : Hid (1 ≤ cnt ∧ cnt ≤ 16) := by show _ ∧ _; rw [hcnt]; exact count_pos HRT.out.1
        have HB0 : Hid (0 ≤ mx.b.base ∧ mx.b.base ≤ 1099511627776) := ⟨(ok_of HRT.out.1).base0, (ok_of HRT.out.1).base1⟩
        have HEB : Hid (endB mx.b = mx.b.base + cnt) := by show _ = _; rw [hcnt]; rfl
        have HCN : Hid ((if mx.b.marker ≠ 0 then 1 else (mx.b.recs.length : Int)) = cnt) := by show _ = _; rw [hcnt]; rfl
        obtain ⟨Qb, hQb⟩ : ∃ Q, Q = (bytesB mx.b).length := ⟨_, rfl⟩
        have HQB := Lib.hid hQb
        have HQL : Hid (36 ≤ Qb ∧ Qb ≤ 2404) := by show _ ∧ _; rw [hQb]; have := ok_len (ok_of HRT.out.1); omega
        have HSZ : Hid (sizeB mx.b = (Qb : Int)) := by show _ = _; rw [hQb]; unfold sizeB; rw [if_pos HRT.out.1]
        clear hQb
        clear hmx hin' hrx hcnt
        obtain ⟨⟨b0, b1, b2, b3, b4, b5, recs⟩, rd, rc⟩ := mx
        simp only at x0 x1 x2 x3 x4 x5 x6 HB0 HCN HRX HEB HQB HSZ HRT
        obtain ⟨rn, hrn⟩ : ∃ n, n = recs.length := ⟨_, rfl⟩
        have HRN := Lib.hid hrn
        rw [← hrn] at x6
        have HCN2 : Hid ((if b5 ≠ 0 then 1 else (rn : Int)) = cnt) := by show _ = _; rw [hrn]; exact HCN.out
        clear hrn HCN
        have hw1 : IntKind.i64.wrap (b0 + cnt) = b0 + cnt := by rw [IntKind.wrap_i64]; have := HCB.out; have := HB0.out; omega
        go_upto_region 12 with fail
        obtain ⟨W1, hW1⟩ : ∃ z, z = wo.alloc (.cells #[.int .i64 b0, .int .i64 b1, .int .i64 b2, .int .i64 b3, .bool b4, .int .i64 b5, .slice rd rn rc] 51) := ⟨_, rfl⟩
        obtain ⟨kb, hkb⟩ : ∃ z, z = wo.heap.size := ⟨_, rfl⟩
        have HBW : Hid (Below wo.heap.size wo W1) := by show Below _ _ _; rw [hW1]; exact (Below.refl _ _).alloc (Nat.le_refl _) _
        have HX1 : Hid (BoxAt W1 kb b0 b1 b2 b3 b4 b5 (.slice rd rn rc)) := by show BoxAt _ _ _ _ _ _ _ _ _; rw [hW1, hkb]; exact boxAt_new wo _ _ _ _ _ _ _
        rw [← hW1, ← hkb]
        clear hW1 hkb x0 x1 x2 x3 x4 x5 x6
        have hdr : Below W1.heap.size W1 W1.drew := (Below.refl _ W1).drew
        have KS : Hid (∀ V, Below W1.heap.size W1 V → (fun (V : World) => V.cell? ⟨kb, 0, none⟩ = some (.int .i64 b0) ∧ V.cell? ⟨kb, 1, none⟩ = some (.int .i64 b1) ∧ V.cell? ⟨kb, 2, none⟩ = some (.int .i64 b2) ∧ V.cell? ⟨kb, 3, none⟩ = some (.int .i64 b3) ∧ V.cell? ⟨kb, 4, none⟩ = some (.bool b4) ∧ V.cell? ⟨kb, 5, none⟩ = some (.int .i64 b5) ∧ V.cell? ⟨kb, 6, none⟩ = some (.slice rd rn rc)) V) := fun V hV => ⟨(HX1.out.on hV).c0, (HX1.out.on hV).c1, (HX1.out.on hV).c2, (HX1.out.on hV).c3, (HX1.out.on hV).c4, (HX1.out.on hV).c5, (HX1.out.on hV).c6⟩
        refine wp_region_noPanic ?_
        refine wp_region_z [] (fun (V : World) => V.cell? ⟨kb, 0, none⟩ = some (.int .i64 b0) ∧ V.cell? ⟨kb, 1, none⟩ = some (.int .i64 b1) ∧ V.cell? ⟨kb, 2, none⟩ = some (.int .i64 b2) ∧ V.cell? ⟨kb, 3, none⟩ = some (.int .i64 b3) ∧ V.cell? ⟨kb, 4, none⟩ = some (.bool b4) ∧ V.cell? ⟨kb, 5, none⟩ = some (.int .i64 b5) ∧ V.cell? ⟨kb, 6, none⟩ = some (.slice rd rn rc)) (by kernel_rfl) ?_
        have hHeld : (fun (V : World) => V.cell? ⟨kb, 0, none⟩ = some (.int .i64 b0) ∧ V.cell? ⟨kb, 1, none⟩ = some (.int .i64 b1) ∧ V.cell? ⟨kb, 2, none⟩ = some (.int .i64 b2) ∧ V.cell? ⟨kb, 3, none⟩ = some (.int .i64 b3) ∧ V.cell? ⟨kb, 4, none⟩ = some (.bool b4) ∧ V.cell? ⟨kb, 5, none⟩ = some (.int .i64 b5) ∧ V.cell? ⟨kb, 6, none⟩ = some (.slice rd rn rc)) _ := KS.out _ hdr
        obtain ⟨u0, hu0⟩ : ∃ u, u = W1.drew := ⟨_, rfl⟩
        rw [← hu0] at hHeld hdr
        rw [← hu0]
        clear hu0
        have HQ0 := Lib.hid hdr
        clear hdr
        refine wpAnyZ_take (i := 0) (oi := ⟨_, _, _, _, _, _⟩) (v := ?_) rfl (by kernel_rfl) (by kernel_rfl) (by kernel_rfl) (by kernel_rfl) (by kernel_rfl) (fun _ _ _ h => h) (Or.inl ⟨by rfl, ?_⟩) (by assumption) ?_
        rotate_left
        · intro W hSw
          (try dsimp only at hSw)
          go_simp
          (try with_reducible rfl)
        (try simp only [Act.put, List.setIfInBounds_toArray, List.set_cons_zero, List.set_cons_succ])
        refine wpAnyZ_take (i := 1) (oi := ⟨_, _, _, _, _, _⟩) (v := ?_) rfl (by kernel_rfl) (by kernel_rfl) (by kernel_rfl) (by kernel_rfl) (by kernel_rfl) (fun _ _ _ h => h) (Or.inl ⟨by rfl, ?_⟩) (by assumption) ?_
        rotate_left
        · intro W hSw
          (try dsimp only at hSw)
          go_simp
          (try with_reducible rfl)
        (try simp only [Act.put, List.setIfInBounds_toArray, List.set_cons_zero, List.set_cons_succ])
        refine wpAnyZ_take (i := 2) (oi := ⟨_, _, _, _, _, _⟩) (v := ?_) rfl (by kernel_rfl) (by kernel_rfl) (by kernel_rfl) (by kernel_rfl) (by kernel_rfl) (fun _ _ _ h => h) (Or.inl ⟨by rfl, ?_⟩) (by assumption) ?_
        rotate_left
        · intro W hSw
          (try dsimp only at hSw)
          go_simp
          (try with_reducible rfl)
        (try simp only [Act.put, List.setIfInBounds_toArray, List.set_cons_zero, List.set_cons_succ])
        refine wpAnyZ_take (i := 5) (oi := ⟨_, _, _, _, _, _⟩) (v := ?_) rfl (by kernel_rfl) (by kernel_rfl) (by kernel_rfl) (by kernel_rfl) (by kernel_rfl) (fun _ _ _ h => h) (Or.inl ⟨by rfl, ?_⟩) (by assumption) ?_
        rotate_left
        · intro W hSw
          (try dsimp only at hSw)
          go_simp
          (try with_reducible rfl)
        (try simp only [Act.put, List.setIfInBounds_toArray, List.set_cons_zero, List.set_cons_succ])
        refine wpAnyZ_ready (rs := [3]) (by kernel_rfl) (by simp) ?_
        refine AllReadyZ.cons (o := ⟨_, _, _, _, _, _⟩) rfl (fun C hC => ?_) AllReadyZ.nil
        go_simp
        refine (refCount_any u0 b0 b1 b2 b3 b4 b5 rd rn rc cnt HCN2.out).mono ?_
        rintro e u1 ⟨rfl, hb1⟩
        have HQ1 : Hid (Below W1.heap.size W1 u1) := HQ0.out.trans (hb1.mono HQ0.out.size)
        clear hb1
        have hHeld : (fun (V : World) => V.cell? ⟨kb, 0, none⟩ = some (.int .i64 b0) ∧ V.cell? ⟨kb, 1, none⟩ = some (.int .i64 b1) ∧ V.cell? ⟨kb, 2, none⟩ = some (.int .i64 b2) ∧ V.cell? ⟨kb, 3, none⟩ = some (.int .i64 b3) ∧ V.cell? ⟨kb, 4, none⟩ = some (.bool b4) ∧ V.cell? ⟨kb, 5, none⟩ = some (.int .i64 b5) ∧ V.cell? ⟨kb, 6, none⟩ = some (.slice rd rn rc)) u1 := KS.out _ HQ1.out
        refine hC.out _ _ (fun _ => hHeld) (fun _ => ?_)
        clear hC C
        (try simp only [Act.put, List.setIfInBounds_toArray, List.set_cons_zero, List.set_cons_succ])
        refine wpAnyZ_take (i := 4) (oi := ⟨_, _, _, _, _, _⟩) (v := ?_) rfl (by kernel_rfl) (by kernel_rfl) (by kernel_rfl) (by kernel_rfl) (by kernel_rfl) (fun _ _ _ h => h) (Or.inl ⟨by rfl, ?_⟩) (by assumption) ?_
        rotate_left
        · intro W hSw
          (try dsimp only at hSw)
          go_simp
          (try with_reducible rfl)
        (try simp only [Act.put, List.setIfInBounds_toArray, List.set_cons_zero, List.set_cons_succ])
        refine wpAnyZ_take (i := 6) (oi := ⟨_, _, _, _, _, _⟩) (v := ?_) rfl (by kernel_rfl) (by kernel_rfl) (by kernel_rfl) (by kernel_rfl) (by kernel_rfl) (fun _ _ _ h => h) (Or.inl ⟨by rfl, ?_⟩) (by assumption) ?_
        rotate_left
        · intro W hSw
          (try dsimp only at hSw)
          go_simp
          (try with_reducible rfl)
        (try simp only [Act.put, List.setIfInBounds_toArray, List.set_cons_zero, List.set_cons_succ])
        refine wpAnyZ_done (by kernel_rfl) ?_ _
        refine NoPanic.normal ?_
        clear hHeld KS
        have HX2 := Lib.hid (HX1.out.on HQ1.out)
        have HB2 : Hid (Below wo.heap.size wo u1) := HBW.out.trans (HQ1.out.mono HBW.out.size)
        clear HX1 HBW HQ0
        have q0 := HX2.out.c0
        have q1 := HX2.out.c1
        have q2 := HX2.out.c2
        have q3 := HX2.out.c3
        have q4 := HX2.out.c4
        have q5 := HX2.out.c5
        have q6 := HX2.out.c6
        by_cases hof : b0 + cnt ≤ off
        · have hdo : decide (b0 + cnt ≤ off) = true := decide_eq_true hof
          have HCX : Hid (c + Qb = (flat ((L.take (i + 1)).filter fun b => decide (endB b ≤ off))).length) := by
            show _ = _
            rw [← HL2.out, HTK.out, filter_snoc, if_pos (decide_eq_true (by rw [HEB.out]; exact hof)), flat_snoc, List.length_append, HL2.out, ← HC.out, HQB.out]
          have hw2 : IntKind.i64.wrap ((c : Int) + (Qb : Int)) = (c : Int) + (Qb : Int) := by rw [IntKind.wrap_i64]; have := HQL.out; have := HN2.out; omega
          go_wp2_with fail
          refine (refSize_any u1 ⟨b0, b1, b2, b3, b4, b5, recs⟩ rd rn rc (by rw [HRN.out]; exact HRX.out.keep HB2.out) (texts_of (ok_of HRT.out.1).texts) (by rw [HRN.out]; have h16 : recs.length ≤ 16 := (ok_of HRT.out.1).recs; omega) HRT.out.2.prod.2).mono ?_
          rintro e u2 ⟨rfl, hb9⟩
          have HB9 : Hid (Below w6.heap.size w6 u2) := HBI.out.trans ((HB2.out.trans (hb9.mono HB2.out.size)).mono HBI.out.size)
          rw [HSZ.out]
          clear hb9
          go_wp2_with fail
          go_roundw
          case rel => exact ⟨i + 1, c + Qb, by go_num, by go_num, by omega, by have := HQL.out; omega, HCX.out, HB9.out⟩
          case measure => simp [intOf]; omega
        · have hdo : decide (b0 + cnt ≤ off) = false := decide_eq_false hof
          have HCX : Hid (c = (flat ((L.take (i + 1)).filter fun b => decide (endB b ≤ off))).length) := by
            show _ = _
            rw [← HL2.out, HTK.out, filter_snoc, if_neg (by rw [HEB.out]; simpa using hof), HL2.out, ← HC.out]
          have HB9 : Hid (Below w6.heap.size w6 u1) := HBI.out.trans (HB2.out.mono HBI.out.size)

          go_wp2_with fail
          go_roundw
          case rel => exact ⟨i + 1, c, by go_num, rfl, by omega, by omega, HCX.out, HB9.out⟩
          case measure => simp [intOf]; omega
      · have hd : decide (i < n2) = false := decide_eq_false hlt
        have HCF : Hid (c = (flat (L.filter fun b => decide (endB b ≤ off))).length) := by
          show _ = _
          have h3 := HC.out
          rw [List.take_of_length_le (by rw [HNL.out]; omega)] at h3
          exact h3
        have HB7 : Hid (Below w.heap.size w wo) := HB6.out.trans (HBI.out.mono HB6.out.size)
        have HXV7 := Lib.hid (HXV.out.on HBI.out)
        have HM7 := Lib.hid (HM2.out.keep HBI.out)
        clear HXV HM2 HBI HB6
        go_wp2_with fail
        refine (segFrom_any wo ad len cap p (H.out.keep HB7.out (Nat.le_refl _)) hL base off HBA.out HOF.out L HS2.out _ HXV7.out).mono ?_
        rintro e w8 ⟨ad8, n8, cap8, ms8, rfl, HM8, HF8, HB8⟩
        have HB8' : Hid (Below w.heap.size w w8) := HB7.out.trans (HB8.out.mono HB7.out.size)
        have HM7 := Lib.hid (HM7.out.keep HB8.out)
        clear HB8 HB7 HXV7
        go_wp2_with fail
        refine (lawFrom_any w8 ad2 n2 cap2 ms2 HM7.out HN2.out.1 HOK2.out off HOF.out).mono ?_
        rintro e w9 ⟨ad9, n9, cap9, ms9, rfl, HM9, HF9, HB9⟩
        rw [HL2.out] at HF9
        have HB9' : Hid (Below w.heap.size w w9) := HB8'.out.trans (HB9.out.mono HB8'.out.size)
        have HM7 := Lib.hid (HM7.out.keep HB9.out)
        have HM8 := Lib.hid (HM8.out.keep HB9.out)
        clear HB9 HB8'
        have HOK8 : Hid (RowOk (bats ms8)) := by show RowOk _; rw [HF8.out]; exact filter_ok HS2.out.ok _
        have HN8 : Hid (n8 ≤ 140737488355328) := by
          show _ ≤ _
          have h3 : (bats ms8).length ≤ L.length := by rw [HF8.out]; exact List.length_filter_le _ _
          rw [bats_len, HM8.out.row.length, HNL.out] at h3
          have := HN2.out
          omega
        go_wp2_with fail
        refine (refRows_any w9 ad8 ad9 n8 n9 cap8 cap9 ms8 ms9 HM8.out HM9.out HN8.out (bats_few HOK8.out) true (by rw [HF8.out, HF9.out]; simp)).mono ?_
        rintro e w10 ⟨rfl, hb10⟩
        have HB10 : Hid (Below w.heap.size w w10) := HB9'.out.trans (hb10.mono HB9'.out.size)
        have HM7 := Lib.hid (HM7.out.keep hb10)
        clear hb10 HB9' HM8 HM9 HF8 HF9 HOK8 HN8
        go_wp2_with fail
        refine (segFrom_any w10 ad len cap p (H.out.keep HB10.out (Nat.le_refl _)) hL base off HBA.out HOF.out L HS2.out _ (.inl rfl)).mono ?_
        rintro e w8 ⟨ad8, n8, cap8, ms8, rfl, HM8, HF8, HB8⟩
        have HB8' : Hid (Below w.heap.size w w8) := HB10.out.trans (HB8.out.mono HB10.out.size)
        have HM7 := Lib.hid (HM7.out.keep HB8.out)
        clear HB8 HB10
        go_wp2_with fail
        refine (lawFrom_any w8 ad2 n2 cap2 ms2 HM7.out HN2.out.1 HOK2.out off HOF.out).mono ?_
        rintro e w9 ⟨ad9, n9, cap9, ms9, rfl, HM9, HF9, HB9⟩
        rw [HL2.out] at HF9
        have HB9' : Hid (Below w.heap.size w w9) := HB8'.out.trans (HB9.out.mono HB8'.out.size)
        have HM8 := Lib.hid (HM8.out.keep HB9.out)
        clear HB9 HB8' HM7
        have HOK8 : Hid (RowOk (bats ms8)) := by show RowOk _; rw [HF8.out]; exact filter_ok HS2.out.ok _
        have HN8 : Hid (n8 ≤ 140737488355328) := by
          show _ ≤ _
          have h3 : (bats ms8).length ≤ L.length := by rw [HF8.out]; exact List.length_filter_le _ _
          rw [bats_len, HM8.out.row.length, HNL.out] at h3
          have := HN2.out
          omega
        go_wp2_with fail
        refine (refRows_any w9 ad8 ad9 n8 n9 cap8 cap9 ms8 ms9 HM8.out HM9.out HN8.out (bats_few HOK8.out) true (by rw [HF8.out, HF9.out]; simp)).mono ?_
        rintro e w10 ⟨rfl, hb10⟩
        have HB10 : Hid (Below w.heap.size w w10) := HB9'.out.trans (hb10.mono HB9'.out.size)
        clear hb10 HB9' HM8 HM9 HF8 HF9 HOK8 HN8
        go_wp2_with fail
        refine (segCut_any w10 ad len cap p (H.out.keep HB10.out (Nat.le_refl _)) hL base off HBA.out HOF.out L HS2.out).mono ?_
        rintro e w11 ⟨rfl, HB11⟩
        rw [← HCF.out]
        have HB12 : Hid (Below w.heap.size w w11) := HB10.out.trans (HB11.out.mono HB10.out.size)
        clear HB11 HB10
        go_wp2_with fail
        go_ret
        exact ⟨rfl, HB12.out⟩
  have d4d : decide (every ≤ 1073741824) = true := decide_eq_true d4
  have hgood : badN base every = false := decide_eq_false (by omega)
  rcases hc with ⟨hbad, _⟩ | ⟨_, kx, FX, rfl, HIX, _⟩
  · rw [hgood] at hbad; cases hbad
  clear hgood
  have HXV : Hid (IxVal w6 base L (.pointer (some ⟨kx, 0, none⟩))) := .inr ⟨kx, FX, every, rfl, HIX.out⟩
  clear HIX
  have hn22 : n2 ≤ 10000 := HN2.out.1
  go_wp2_with fail
  go_loopw [15, 79] (fun v15 v79 wr => ∃ (i c : Nat), v79 = .int .i64 (i : Int) ∧ v15 = .int .i64 (c : Int) ∧ i ≤ n2 ∧ c ≤ 2404 * i ∧ Hid (c = (flat ((L.take i).filter fun b => decide (endB b ≤ off))).length) ∧ Hid (Below w6.heap.size w6 wr)) (fun _ v79 _ => n2 - (intOf v79).toNat)
  case atStart => exact ⟨0, 0, rfl, rfl, Nat.zero_le _, Nat.zero_le _, rfl, Below.refl _ w6⟩
  case round =>
    obtain ⟨i, c, rfl, rfl, hin, hci, HC, HBI⟩ := hrel
    obtain ⟨wo, hwo⟩ : ∃ wo : World, wo = wr := ⟨_, rfl⟩
    subst hwo
    by_cases hlt : i < n2
    · have hd : decide (i < n2) = true := decide_eq_true hlt
      have hij : (i : Int) < (n2 : Int) := by omega
      obtain ⟨bx, ox, mx, ex, hbx, hmx, hrx, x0, x1, x2, x3, x4, x5, x6⟩ := (HM2.out.keep HBI.out).get hlt
      subst ex
      have HMX := Lib.hid hmx
      have hin' : mx.b ∈ bats ms2 := List.mem_map.2 ⟨mx, List.mem_of_getElem? hmx, rfl⟩
      have HRT := Lib.hid (HOK2.out mx.b hin')
      have HRX := Lib.hid hrx
      have HTK : Hid ((bats ms2).take (i + 1) = (bats ms2).take i ++ [mx.b]) := by
        show _ = _
        have : (bats ms2)[i]? = some mx.b := by unfold bats; rw [List.getElem?_map, hmx]; rfl
        obtain ⟨h3, e3⟩ := List.getElem?_eq_some_iff.1 this
        rw [List.take_succ_eq_append_getElem h3, e3]
      obtain ⟨cnt, hcnt⟩ : ∃ c, c = countD mx.b := ⟨_, rfl⟩
      have HCB : Hid (1 ≤ cnt ∧ cnt ≤ 16) := by show _ ∧ _; rw [hcnt]; exact count_pos HRT.out.1
      have HB0 : Hid (0 ≤ mx.b.base ∧ mx.b.base ≤ 1099511627776) := ⟨(ok_of HRT.out.1).base0, (ok_of HRT.out.1).base1⟩
      have HEB : Hid (endB mx.b = mx.b.base + cnt) := by show _ = _; rw [hcnt]; rfl
      have HCN : Hid ((if mx.b.marker ≠ 0 then 1 else (mx.b.recs.length : Int)) = cnt) := by show _ = _; rw [hcnt]; rfl
      obtain ⟨Qb, hQb⟩ : ∃ Q, Q = (bytesB mx.b).length := ⟨_, rfl⟩
      have HQB := Lib.hid hQb
      have HQL : Hid (36 ≤ Qb ∧ Qb ≤ 2404) := by show _ ∧ _; rw [hQb]; have := ok_len (ok_of HRT.out.1); omega
      have HSZ : Hid (sizeB mx.b = (Qb : Int)) := by show _ = _; rw [hQb]; unfold sizeB; rw [if_pos HRT.out.1]
      clear hQb
      clear hmx hin' hrx hcnt
      obtain ⟨⟨b0, b1, b2, b3, b4, b5, recs⟩, rd, rc⟩ := mx
      simp only at x0 x1 x2 x3 x4 x5 x6 HB0 HCN HRX HEB HQB HSZ HRT
      obtain ⟨rn, hrn⟩ : ∃ n, n = recs.length := ⟨_, rfl⟩
      have HRN := Lib.hid hrn
      rw [← hrn] at x6
      have HCN2 : Hid ((if b5 ≠ 0 then 1 else (rn : Int)) = cnt) := by show _ = _; rw [hrn]; exact HCN.out
      clear hrn HCN
      have hw1 : IntKind.i64.wrap (b0 + cnt) = b0 + cnt := by rw [IntKind.wrap_i64]; have := HCB.out; have := HB0.out; omega
      go_upto_region 12 with fail
      obtain ⟨W1, hW1⟩ : ∃ z, z = wo.alloc (.cells #[.int .i64 b0, .int .i64 b1, .int .i64 b2, .int .i64 b3, .bool b4, .int .i64 b5, .slice rd rn rc] 51) := ⟨_, rfl⟩
      obtain ⟨kb, hkb⟩ : ∃ z, z = wo.heap.size := ⟨_, rfl⟩
      have HBW : Hid (Below wo.heap.size wo W1) := by show Below _ _ _; rw [hW1]; exact (Below.refl _ _).alloc (Nat.le_refl _) _
      have HX1 : Hid (BoxAt W1 kb b0 b1 b2 b3 b4 b5 (.slice rd rn rc)) := by show BoxAt _ _ _ _ _ _ _ _ _; rw [hW1, hkb]; exact boxAt_new wo _ _ _ _ _ _ _
      rw [← hW1, ← hkb]
      clear hW1 hkb x0 x1 x2 x3 x4 x5 x6
      have hdr : Below W1.heap.size W1 W1.drew := (Below.refl _ W1).drew
      have KS : Hid (∀ V, Below W1.heap.size W1 V → (fun (V : World) => V.cell? ⟨kb, 0, none⟩ = some (.int .i64 b0) ∧ V.cell? ⟨kb, 1, none⟩ = some (.int .i64 b1) ∧ V.cell? ⟨kb, 2, none⟩ = some (.int .i64 b2) ∧ V.cell? ⟨kb, 3, none⟩ = some (.int .i64 b3) ∧ V.cell? ⟨kb, 4, none⟩ = some (.bool b4) ∧ V.cell? ⟨kb, 5, none⟩ = some (.int .i64 b5) ∧ V.cell? ⟨kb, 6, none⟩ = some (.slice rd rn rc)) V) := fun V hV => ⟨(HX1.out.on hV).c0, (HX1.out.on hV).c1, (HX1.out.on hV).c2, (HX1.out.on hV).c3, (HX1.out.on hV).c4, (HX1.out.on hV).c5, (HX1.out.on hV).c6⟩
      refine wp_region_noPanic ?_
      refine wp_region_z [] (fun (V : World) => V.cell? ⟨kb, 0, none⟩ = some (.int .i64 b0) ∧ V.cell? ⟨kb, 1, none⟩ = some (.int .i64 b1) ∧ V.cell? ⟨kb, 2, none⟩ = some (.int .i64 b2) ∧ V.cell? ⟨kb, 3, none⟩ = some (.int .i64 b3) ∧ V.cell? ⟨kb, 4, none⟩ = some (.bool b4) ∧ V.cell? ⟨kb, 5, none⟩ = some (.int .i64 b5) ∧ V.cell? ⟨kb, 6, none⟩ = some (.slice rd rn rc)) (by kernel_rfl) ?_
      have hHeld : (fun (V : World) => V.cell? ⟨kb, 0, none⟩ = some (.int .i64 b0) ∧ V.cell? ⟨kb, 1, none⟩ = some (.int .i64 b1) ∧ V.cell? ⟨kb, 2, none⟩ = some (.int .i64 b2) ∧ V.cell? ⟨kb, 3, none⟩ = some (.int .i64 b3) ∧ V.cell? ⟨kb, 4, none⟩ = some (.bool b4) ∧ V.cell? ⟨kb, 5, none⟩ = some (.int .i64 b5) ∧ V.cell? ⟨kb, 6, none⟩ = some (.slice rd rn rc)) _ := KS.out _ hdr
      obtain ⟨u0, hu0⟩ : ∃ u, u = W1.drew := ⟨_, rfl⟩
      rw [← hu0] at hHeld hdr
      rw [← hu0]
      clear hu0
      have HQ0 := Lib.hid hdr
      clear hdr
      refine wpAnyZ_take (i := 0) (oi := ⟨_, _, _, _, _, _⟩) (v := ?_) rfl (by kernel_rfl) (by kernel_rfl) (by kernel_rfl) (by kernel_rfl) (by kernel_rfl) (fun _ _ _ h => h) (Or.inl ⟨by rfl, ?_⟩) (by assumption) ?_
      rotate_left
      · intro W hSw
        (try dsimp only at hSw)
        go_simp
        (try with_reducible rfl)
      (try simp only [Act.put, List.setIfInBounds_toArray, List.set_cons_zero, List.set_cons_succ])
      refine wpAnyZ_take (i := 1) (oi := ⟨_, _, _, _, _, _⟩) (v := ?_) rfl (by kernel_rfl) (by kernel_rfl) (by kernel_rfl) (by kernel_rfl) (by kernel_rfl) (fun _ _ _ h => h) (Or.inl ⟨by rfl, ?_⟩) (by assumption) ?_
      rotate_left
      · intro W hSw
        (try dsimp only at hSw)
        go_simp
        (try with_reducible rfl)
      (try simp only [Act.put, List.setIfInBounds_toArray, List.set_cons_zero, List.set_cons_succ])
      refine wpAnyZ_take (i := 2) (oi := ⟨_, _, _, _, _, _⟩) (v := ?_) rfl (by kernel_rfl) (by kernel_rfl) (by kernel_rfl) (by kernel_rfl) (by kernel_rfl) (fun _ _ _ h => h) (Or.inl ⟨by rfl, ?_⟩) (by assumption) ?_
      rotate_left
      · intro W hSw
        (try dsimp only at hSw)
        go_simp
        (try with_reducible rfl)
      (try simp only [Act.put, List.setIfInBounds_toArray, List.set_cons_zero, List.set_cons_succ])
      refine wpAnyZ_take (i := 5) (oi := ⟨_, _, _, _, _, _⟩) (v := ?_) rfl (by kernel_rfl) (by kernel_rfl) (by kernel_rfl) (by kernel_rfl) (by kernel_rfl) (fun _ _ _ h => h) (Or.inl ⟨by rfl, ?_⟩) (by assumption) ?_
      rotate_left
      · intro W hSw
        (try dsimp only at hSw)
        go_simp
        (try with_reducible rfl)
      (try simp only [Act.put, List.setIfInBounds_toArray, List.set_cons_zero, List.set_cons_succ])
      refine wpAnyZ_ready (rs := [3]) (by kernel_rfl) (by simp) ?_
      refine AllReadyZ.cons (o := ⟨_, _, _, _, _, _⟩) rfl (fun C hC => ?_) AllReadyZ.nil
      go_simp
      refine (refCount_any u0 b0 b1 b2 b3 b4 b5 rd rn rc cnt HCN2.out).mono ?_
      rintro e u1 ⟨rfl, hb1⟩
      have HQ1 : Hid (Below W1.heap.size W1 u1) := HQ0.out.trans (hb1.mono HQ0.out.size)
      clear hb1
      have hHeld : (fun (V : World) => V.cell? ⟨kb, 0, none⟩ = some (.int .i64 b0) ∧ V.cell? ⟨kb, 1, none⟩ = some (.int .i64 b1) ∧ V.cell? ⟨kb, 2, none⟩ = some (.int .i64 b2) ∧ V.cell? ⟨kb, 3, none⟩ = some (.int .i64 b3) ∧ V.cell? ⟨kb, 4, none⟩ = some (.bool b4) ∧ V.cell? ⟨kb, 5, none⟩ = some (.int .i64 b5) ∧ V.cell? ⟨kb, 6, none⟩ = some (.slice rd rn rc)) u1 := KS.out _ HQ1.out
      refine hC.out _ _ (fun _ => hHeld) (fun _ => ?_)
      clear hC C
      (try simp only [Act.put, List.setIfInBounds_toArray, List.set_cons_zero, List.set_cons_succ])
      refine wpAnyZ_take (i := 4) (oi := ⟨_, _, _, _, _, _⟩) (v := ?_) rfl (by kernel_rfl) (by kernel_rfl) (by kernel_rfl) (by kernel_rfl) (by kernel_rfl) (fun _ _ _ h => h) (Or.inl ⟨by rfl, ?_⟩) (by assumption) ?_
      rotate_left
      · intro W hSw
        (try dsimp only at hSw)
        go_simp
        (try with_reducible rfl)
      (try simp only [Act.put, List.setIfInBounds_toArray, List.set_cons_zero, List.set_cons_succ])
      refine wpAnyZ_take (i := 6) (oi := ⟨_, _, _, _, _, _⟩) (v := ?_) rfl (by kernel_rfl) (by kernel_rfl) (by kernel_rfl) (by kernel_rfl) (by kernel_rfl) (fun _ _ _ h => h) (Or.inl ⟨by rfl, ?_⟩) (by assumption) ?_
      rotate_left
      · intro W hSw
        (try dsimp only at hSw)
        go_simp
        (try with_reducible rfl)
      (try simp only [Act.put, List.setIfInBounds_toArray, List.set_cons_zero, List.set_cons_succ])
      refine wpAnyZ_done (by kernel_rfl) ?_ _
      refine NoPanic.normal ?_
      clear hHeld KS
      have HX2 := Lib.hid (HX1.out.on HQ1.out)
      have HB2 : Hid (Below wo.heap.size wo u1) := HBW.out.trans (HQ1.out.mono HBW.out.size)
      clear HX1 HBW HQ0
      have q0 := HX2.out.c0
      have q1 := HX2.out.c1
      have q2 := HX2.out.c2
      have q3 := HX2.out.c3
      have q4 := HX2.out.c4
      have q5 := HX2.out.c5
      have q6 := HX2.out.c6
      by_cases hof : b0 + cnt ≤ off
      · have hdo : decide (b0 + cnt ≤ off) = true := decide_eq_true hof
        have HCX : Hid (c + Qb = (flat ((L.take (i + 1)).filter fun b => decide (endB b ≤ off))).length) := by
          show _ = _
          rw [← HL2.out, HTK.out, filter_snoc, if_pos (decide_eq_true (by rw [HEB.out]; exact hof)), flat_snoc, List.length_append, HL2.out, ← HC.out, HQB.out]
        have hw2 : IntKind.i64.wrap ((c : Int) + (Qb : Int)) = (c : Int) + (Qb : Int) := by rw [IntKind.wrap_i64]; have := HQL.out; have := HN2.out; omega
        go_wp2_with fail
        refine (refSize_any u1 ⟨b0, b1, b2, b3, b4, b5, recs⟩ rd rn rc (by rw [HRN.out]; exact HRX.out.keep HB2.out) (texts_of (ok_of HRT.out.1).texts) (by rw [HRN.out]; have h16 : recs.length ≤ 16 := (ok_of HRT.out.1).recs; omega) HRT.out.2.prod.2).mono ?_
        rintro e u2 ⟨rfl, hb9⟩
        have HB9 : Hid (Below w6.heap.size w6 u2) := HBI.out.trans ((HB2.out.trans (hb9.mono HB2.out.size)).mono HBI.out.size)
        rw [HSZ.out]
        clear hb9
        go_wp2_with fail
        go_roundw
        case rel => exact ⟨i + 1, c + Qb, by go_num, by go_num, by omega, by have := HQL.out; omega, HCX.out, HB9.out⟩
        case measure => simp [intOf]; omega
      · have hdo : decide (b0 + cnt ≤ off) = false := decide_eq_false hof
        have HCX : Hid (c = (flat ((L.take (i + 1)).filter fun b => decide (endB b ≤ off))).length) := by
          show _ = _
          rw [← HL2.out, HTK.out, filter_snoc, if_neg (by rw [HEB.out]; simpa using hof), HL2.out, ← HC.out]
        have HB9 : Hid (Below w6.heap.size w6 u1) := HBI.out.trans (HB2.out.mono HBI.out.size)

        go_wp2_with fail
        go_roundw
        case rel => exact ⟨i + 1, c, by go_num, rfl, by omega, by omega, HCX.out, HB9.out⟩
        case measure => simp [intOf]; omega
    · have hd : decide (i < n2) = false := decide_eq_false hlt
      have HCF : Hid (c = (flat (L.filter fun b => decide (endB b ≤ off))).length) := by
        show _ = _
        have h3 := HC.out
        rw [List.take_of_length_le (by rw [HNL.out]; omega)] at h3
        exact h3
      have HB7 : Hid (Below w.heap.size w wo) := HB6.out.trans (HBI.out.mono HB6.out.size)
      have HXV7 := Lib.hid (HXV.out.on HBI.out)
      have HM7 := Lib.hid (HM2.out.keep HBI.out)
      clear HXV HM2 HBI HB6
      go_wp2_with fail
      refine (segFrom_any wo ad len cap p (H.out.keep HB7.out (Nat.le_refl _)) hL base off HBA.out HOF.out L HS2.out _ HXV7.out).mono ?_
      rintro e w8 ⟨ad8, n8, cap8, ms8, rfl, HM8, HF8, HB8⟩
      have HB8' : Hid (Below w.heap.size w w8) := HB7.out.trans (HB8.out.mono HB7.out.size)
      have HM7 := Lib.hid (HM7.out.keep HB8.out)
      clear HB8 HB7 HXV7
      go_wp2_with fail
      refine (lawFrom_any w8 ad2 n2 cap2 ms2 HM7.out HN2.out.1 HOK2.out off HOF.out).mono ?_
      rintro e w9 ⟨ad9, n9, cap9, ms9, rfl, HM9, HF9, HB9⟩
      rw [HL2.out] at HF9
      have HB9' : Hid (Below w.heap.size w w9) := HB8'.out.trans (HB9.out.mono HB8'.out.size)
      have HM7 := Lib.hid (HM7.out.keep HB9.out)
      have HM8 := Lib.hid (HM8.out.keep HB9.out)
      clear HB9 HB8'
      have HOK8 : Hid (RowOk (bats ms8)) := by show RowOk _; rw [HF8.out]; exact filter_ok HS2.out.ok _
      have HN8 : Hid (n8 ≤ 140737488355328) := by
        show _ ≤ _
        have h3 : (bats ms8).length ≤ L.length := by rw [HF8.out]; exact List.length_filter_le _ _
        rw [bats_len, HM8.out.row.length, HNL.out] at h3
        have := HN2.out
        omega
      go_wp2_with fail
      refine (refRows_any w9 ad8 ad9 n8 n9 cap8 cap9 ms8 ms9 HM8.out HM9.out HN8.out (bats_few HOK8.out) true (by rw [HF8.out, HF9.out]; simp)).mono ?_
      rintro e w10 ⟨rfl, hb10⟩
      have HB10 : Hid (Below w.heap.size w w10) := HB9'.out.trans (hb10.mono HB9'.out.size)
      have HM7 := Lib.hid (HM7.out.keep hb10)
      clear hb10 HB9' HM8 HM9 HF8 HF9 HOK8 HN8
      go_wp2_with fail
      refine (segFrom_any w10 ad len cap p (H.out.keep HB10.out (Nat.le_refl _)) hL base off HBA.out HOF.out L HS2.out _ (.inl rfl)).mono ?_
      rintro e w8 ⟨ad8, n8, cap8, ms8, rfl, HM8, HF8, HB8⟩
      have HB8' : Hid (Below w.heap.size w w8) := HB10.out.trans (HB8.out.mono HB10.out.size)
      have HM7 := Lib.hid (HM7.out.keep HB8.out)
      clear HB8 HB10
      go_wp2_with fail
      refine (lawFrom_any w8 ad2 n2 cap2 ms2 HM7.out HN2.out.1 HOK2.out off HOF.out).mono ?_
      rintro e w9 ⟨ad9, n9, cap9, ms9, rfl, HM9, HF9, HB9⟩
      rw [HL2.out] at HF9
      have HB9' : Hid (Below w.heap.size w w9) := HB8'.out.trans (HB9.out.mono HB8'.out.size)
      have HM8 := Lib.hid (HM8.out.keep HB9.out)
      clear HB9 HB8' HM7
      have HOK8 : Hid (RowOk (bats ms8)) := by show RowOk _; rw [HF8.out]; exact filter_ok HS2.out.ok _
      have HN8 : Hid (n8 ≤ 140737488355328) := by
        show _ ≤ _
        have h3 : (bats ms8).length ≤ L.length := by rw [HF8.out]; exact List.length_filter_le _ _
        rw [bats_len, HM8.out.row.length, HNL.out] at h3
        have := HN2.out
        omega
      go_wp2_with fail
      refine (refRows_any w9 ad8 ad9 n8 n9 cap8 cap9 ms8 ms9 HM8.out HM9.out HN8.out (bats_few HOK8.out) true (by rw [HF8.out, HF9.out]; simp)).mono ?_
      rintro e w10 ⟨rfl, hb10⟩
      have HB10 : Hid (Below w.heap.size w w10) := HB9'.out.trans (hb10.mono HB9'.out.size)
      clear hb10 HB9' HM8 HM9 HF8 HF9 HOK8 HN8
      go_wp2_with fail
      refine (segCut_any w10 ad len cap p (H.out.keep HB10.out (Nat.le_refl _)) hL base off HBA.out HOF.out L HS2.out).mono ?_
      rintro e w11 ⟨rfl, HB11⟩
      rw [← HCF.out]
      have HB12 : Hid (Below w.heap.size w w11) := HB10.out.trans (HB11.out.mono HB10.out.size)
      clear HB11 HB10
      go_wp2_with fail
      go_ret
      exact ⟨rfl, HB12.out⟩
end Go.Proofs.Ytlcnpeodhfdhlaa
