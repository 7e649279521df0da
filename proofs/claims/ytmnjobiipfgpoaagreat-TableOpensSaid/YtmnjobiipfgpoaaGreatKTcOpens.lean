/- Chapter 11's law: the first offset that is open is that of a transaction's batch without a marker behind it. -/
import Derived.Test.YtmnjobiipfgpoaaGreatK11
import Derived.Test.YtmnjobiipfgpoaaGreatK13
namespace Go.Proofs.YtmnjobiipfgpoaaGreat
open Go.RowKit
open Go.SeqMath
open Go.ProdMath
open Go.BatMath hiding AllB getD_lt take_all
set_option linter.unusedVariables false

theorem first_drop {bs : List Bat} {i : Nat} {b : Bat} (h : bs[i]? = some b) : firstOpen (bs.drop i) = if opensB b (bs.drop (i + 1)) = true then b.base else firstOpen (bs.drop (i + 1)) := by
  obtain ⟨hl, e⟩ := List.getElem?_eq_some_iff.1 h
  rw [List.drop_eq_getElem_cons hl, e]
  rfl
theorem ends_take {k : Int} {l : List Bat} {j : Nat} {c : Bat} (h : l[j]? = some c) : endsB k (l.take (j + 1)) = (endsB k (l.take j) || (decide (c.marker ≠ 0) && decide (c.prod = k))) := by
  rw [List.take_add_one, h]
  unfold endsB
  rw [List.any_append]
  simp
set_option maxRecDepth 100000 in
set_option maxHeartbeats 16000000 in
theorem tableOpens_any (w : World) (tad : Option Addr) (tlen tcap : Nat) (zs : List Int) (h : Nums w tad tlen zs) (hL : tlen ≤ 140737488355328) :
    Calls Tryz.prog 5 #[.slice tad tlen tcap] w (GivesBool w true) := by
  go_enter Tryz.func5, Tryz.ntmps5
  go_wp2_with fail
  refine (row_any w tad tlen tcap zs h hL 0 (by decide) (by decide) 30 (by decide)).mono ?_
  rintro e w1 ⟨ad, len, cap, ms, rfl, HBA, HRD, hlen, HB1⟩
  have hml := HBA.out.row.length
  obtain ⟨bs, hbs⟩ : ∃ bs, bs = bats ms := ⟨_, rfl⟩
  rw [← hbs] at HRD
  have hbl : bs.length = len := by rw [hbs]; unfold bats; rw [List.length_map]; exact hml
  have HBS := Lib.hid hbs
  have HBN := Lib.hid hbl
  have HGET : Hid (∀ (i : Nat) m, ms[i]? = some m → bs[i]? = some m.b) := by
    intro i m hm
    rw [hbs]; unfold bats
    rw [List.getElem?_map, hm]; rfl
  clear hml hbs hbl
  go_wp2_with fail
  refine (tcFold_any w1 ad len cap ms HBA.out (by omega) (by rw [← HBS.out]; exact batsOk_of (rowD_ok HRD.out))).mono ?_
  rintro e w2 ⟨kt, km, ps, rfl, ht2, hp2, _, _, hb2⟩
  have HT2 := Lib.hid ht2
  have HP2 : Hid (pds ps = foldP [] bs) := by show _ = _; rw [hp2, HBS.out]
  have HB2 := Lib.hid hb2
  clear ht2 hp2 hb2
  go_wp2_with fail
  refine (tcOpens_any w2 kt km ps HT2.out).mono ?_
  rintro e w3 ⟨v, hv, rfl, hb3⟩
  rw [HP2.out] at hv
  have hvf : v = firstOpen bs := least_one hv (row_least HRD.out (Int.le_refl 0))
  have HV := Lib.hid hvf
  have HB3 := Lib.hid (HB2.out.trans (hb3.mono HB2.out.size))
  have HROW := Lib.hid (row_bases HRD.out (Int.le_refl 0))
  obtain ⟨ok, hok⟩ : ∃ b, (v != -1) = b := ⟨_, rfl⟩
  have HOK := Lib.hid hok
  rw [hok]
  clear hv hvf hb3 hok HB2 HT2 HP2
  go_wp2
  go_loopw [25] (fun v25 wr => ∃ i : Nat, v25 = .int .i64 (i : Int) ∧ i ≤ len ∧ Hid (firstOpen bs = firstOpen (bs.drop i)) ∧ Hid (Below w1.heap.size w1 wr)) (fun v25 _ => len - (intOf v25).toNat)
  case atStart => exact ⟨0, rfl, Nat.zero_le _, rfl, HB3.out⟩
  case round =>
    obtain ⟨i, rfl, hi, HFI, HB⟩ := hrel
    obtain ⟨wo, hwo⟩ : ∃ wo : World, wo = wr := ⟨_, rfl⟩
    subst hwo
    clear HB3
    by_cases hlt : i < len
    · have hd : decide (i < len) = true := decide_eq_true hlt
      have hjl : (i : Int) < (len : Int) := by omega
      have HBO := Lib.hid (HBA.out.keep HB.out)
      obtain ⟨bk, off, m, rfl, hbk, hm, hrec, c0, c1, c2, c3, c4, c5, c6⟩ := HBO.out.get hlt
      have hbm := HGET.out i m hm
      have HBM := Lib.hid hbm
      have HFD := Lib.hid (first_drop hbm)
      have hbase := (HROW.out.2.1 m.b (List.mem_of_getElem? hbm)).1
      obtain ⟨⟨b0, b1, b2, b3, b4, b5, recs⟩, rd, rc⟩ := m
      simp only at c0 c1 c2 c3 c4 c5 c6 HFD hbase
      obtain ⟨rn, hrn⟩ : ∃ n, n = recs.length := ⟨_, rfl⟩
      rw [← hrn] at c6
      have HBASE := Lib.hid hbase
      clear hbm hm hrec hbk hrn hbase
      go_upto_region 9 with fail
      obtain ⟨W1, hW1⟩ : ∃ W1, W1 = wo.alloc (.cells #[.int .i64 b0, .int .i64 b1, .int .i64 b2, .int .i64 b3, .bool b4, .int .i64 b5, .slice rd rn rc] 30) := ⟨_, rfl⟩
      have hb1 : Below wo.heap.size wo W1 := by rw [hW1]; exact (Below.refl _ _).alloc (Nat.le_refl _) _
      obtain ⟨K, hK⟩ : ∃ K, K = wo.heap.size := ⟨_, rfl⟩
      have HX1 : Hid (BoxAt W1 K b0 b1 b2 b3 b4 b5 (.slice rd rn rc)) := by show BoxAt _ _ _ _ _ _ _ _ _; rw [hW1, hK]; exact boxAt_new wo _ _ _ _ _ _ _
      have HBW := Lib.hid (HB.out.trans (hb1.mono HB.out.size))
      have HBO1 := Lib.hid (HBO.out.keep hb1)
      rw [← hW1, ← hK]
      clear hW1 hb1 hK c0 c1 c2 c3 c4 c5 c6 HBO HB
      have p4 := HX1.out.c4
      have p5 := HX1.out.c5
      by_cases ho : b4 = true ∧ b5 = 0
      · obtain ⟨rfl, rfl⟩ := ho
        obtain ⟨fd, fc, hfr, hfrow, _⟩ := row_from batK_ok HBO1.out.row (i + 1) (by omega)
        obtain ⟨n2, hn2⟩ : ∃ n2, n2 = len - (i + 1) := ⟨_, rfl⟩
        rw [← hn2] at hfr hfrow
        have hfr2 : ∀ W, (Instr.slice 23 (.slice (some ⟨bk, off, none⟩) len cap) (some (.int .i64 ((i : Int) + 1))) none none).run Tryz.prog W = .ok (.slice fd n2 fc) W := hfr
        have HTA : Hid (BatsAt W1 fd n2 fc (ms.drop (i + 1))) := ⟨hfrow, fun m hm => HBO1.out.ins m (List.mem_of_mem_drop hm)⟩
        have hn2L : n2 ≤ 100 := by omega
        obtain ⟨bt, hbt⟩ : ∃ bt, bt = bs.drop (i + 1) := ⟨_, rfl⟩
        have HGT : Hid (∀ (j : Nat) m, (ms.drop (i + 1))[j]? = some m → bt[j]? = some m.b) := by
          intro j m hm
          rw [List.getElem?_drop] at hm
          rw [hbt, List.getElem?_drop]
          exact HGET.out _ m hm
        have HBTL : Hid (bt.length = n2) := by show _ = _; rw [hbt, List.length_drop, HBN.out, hn2]
        rw [← hbt] at HFD
        have HBT := Lib.hid hbt
        have hi1 : wrap64 ((i : Int) + 1) = (i : Int) + 1 := by unfold wrap64; omega
        clear hfr hfrow hn2 hbt
        go_wp2
        clear hfr2 p4 p5
        go_loopw [9, 43] (fun v9 v43 wr => ∃ (j : Nat) (e : Bool), v9 = .bool e ∧ v43 = .int .i64 (j : Int) ∧ j ≤ n2 ∧ Hid (endsB b1 (bt.take j) = e) ∧ Hid (Below W1.heap.size W1 wr)) (fun _ v43 _ => n2 - (intOf v43).toNat)
        case atStart => exact ⟨0, false, rfl, rfl, Nat.zero_le _, rfl, Below.refl _ _⟩
        case round =>
          obtain ⟨j, e, rfl, rfl, hj, HEN, HBJ⟩ := hrel
          obtain ⟨wi, hwi⟩ : ∃ wi : World, wi = wr := ⟨_, rfl⟩
          subst hwi
          by_cases hjt : j < n2
          · have hd2 : decide (j < n2) = true := decide_eq_true hjt
            have hjl2 : (j : Int) < (n2 : Int) := by omega
            obtain ⟨gk, goff, m2, rfl, hgk, hm2, _, d0, d1, d2, d3, d4, d5, d6⟩ := (HTA.out.keep HBJ.out).get hjt
            have HET := Lib.hid (ends_take (k := b1) (HGT.out j m2 hm2))
            rw [HEN.out] at HET
            obtain ⟨⟨x0, x1, x2, x3, x4, x5, xrecs⟩, xd, xc⟩ := m2
            simp only at d0 d1 d2 d3 d4 d5 d6 HET
            obtain ⟨xn, hxn⟩ : ∃ n, n = xrecs.length := ⟨_, rfl⟩
            rw [← hxn] at d6
            clear hm2 hgk hxn HEN
            go_upto_region 14 with fail
            obtain ⟨W2, hW2⟩ : ∃ W2, W2 = wi.alloc (.cells #[.int .i64 x0, .int .i64 x1, .int .i64 x2, .int .i64 x3, .bool x4, .int .i64 x5, .slice xd xn xc] 30) := ⟨_, rfl⟩
            obtain ⟨K2, hK2⟩ : ∃ K, K = wi.heap.size := ⟨_, rfl⟩
            have HX2 : Hid (BoxAt W2 K2 x0 x1 x2 x3 x4 x5 (.slice xd xn xc)) := by show BoxAt _ _ _ _ _ _ _ _ _; rw [hW2, hK2]; exact boxAt_new wi _ _ _ _ _ _ _
            have HBJ2 : Hid (Below W1.heap.size W1 W2) := by show Below _ _ _; rw [hW2]; exact HBJ.out.alloc HBJ.out.size _
            rw [← hW2, ← hK2]
            clear hW2 hK2 d0 d1 d2 d3 d4 d5 d6 HBJ
            have HX1b := Lib.hid (HX1.out.on HBJ2.out)
            cases e
            · have x5c := HX2.out.c5
              by_cases hm5 : x5 = 0
              · have hd3 : (x5 != 0) = false := by rw [hm5]; rfl
                have HE2 : Hid (endsB b1 (bt.take (j + 1)) = false) := by show _ = _; rw [HET.out, hm5]; rfl
                clear hm5 HET
                go_wp2
                go_roundw
                case rel => exact ⟨j + 1, false, rfl, rfl, by omega, HE2.out, HBJ2.out⟩
                case measure => simp [intOf]; omega
              · have hd3 : (x5 != 0) = true := by simp [hm5]
                have x1c := HX2.out.c1
                have p1c := HX1b.out.c1
                by_cases he : x1 = b1
                · have hd4 : (x1 == b1) = true := by rw [he]; simp
                  have HE2 : Hid (endsB b1 (bt.take (j + 1)) = true) := by show _ = _; rw [HET.out, decide_eq_true hm5, decide_eq_true he]; rfl
                  clear hm5 he HET
                  go_wp2
                  go_roundw
                  case rel => exact ⟨j + 1, true, rfl, rfl, by omega, HE2.out, HBJ2.out⟩
                  case measure => simp [intOf]; omega
                · have hd4 : (x1 == b1) = false := beq_false_of_ne he
                  have HE2 : Hid (endsB b1 (bt.take (j + 1)) = false) := by show _ = _; rw [HET.out, decide_eq_false he, Bool.and_false]; rfl
                  clear hm5 he HET
                  go_wp2
                  go_roundw
                  case rel => exact ⟨j + 1, false, rfl, rfl, by omega, HE2.out, HBJ2.out⟩
                  case measure => simp [intOf]; omega
            · have HE2 : Hid (endsB b1 (bt.take (j + 1)) = true) := by show _ = _; rw [HET.out]; rfl
              clear HET
              go_wp2
              go_roundw
              case rel => exact ⟨j + 1, true, rfl, rfl, by omega, HE2.out, HBJ2.out⟩
              case measure => simp [intOf]; omega
          · have hd2 : decide (j < n2) = false := decide_eq_false hjt
            have HEF : Hid (endsB b1 bt = e) := by
              show _ = _
              rw [← HEN.out, List.take_of_length_le (by rw [HBTL.out]; omega)]
            have HBF := Lib.hid (HBW.out.trans (HBJ.out.mono HBW.out.size))
            have HXF := Lib.hid (HX1.out.on HBJ.out)
            cases e
            · have HVB : Hid (v = b0) := by
                show _ = _
                rw [HV.out, HFI.out, HFD.out, if_pos (by unfold opensB; simp only [Bool.true_and, decide_true]; rw [HEF.out]; rfl)]
              have hvb : (v == b0) = true := by rw [HVB.out]; simp
              have hokt : ok = true := by
                rw [← HOK.out, HVB.out]
                have := HBASE.out
                simp
                omega
              subst hokt
              have p0 := HXF.out.c0
              clear HEN HFI HFD HBJ
              go_wp2_with fail
              refine (known11_any wi).mono ?_
              rintro e w9 ⟨rfl, hb9⟩
              have HB9 := Lib.hid (HBF.out.trans (hb9.mono HBF.out.size))
              clear hb9
              go_wp2
              go_ret
              exact ⟨rfl, HB1.out.trans (HB9.out.mono HB1.out.size)⟩
            · have HFN : Hid (firstOpen bs = firstOpen (bs.drop (i + 1))) := by
                show _ = _
                rw [HFI.out, HFD.out, if_neg (by unfold opensB; simp only [Bool.true_and, decide_true]; rw [HEF.out]; decide), ← HBT.out]
              clear HEN HFI HFD HBJ
              go_wp2
              go_roundw
              case rel => exact ⟨i + 1, rfl, by omega, HFN.out, HBF.out⟩
              case measure => simp [intOf]; omega
      · have HFN : Hid (firstOpen bs = firstOpen (bs.drop (i + 1))) := by
          show _ = _
          rw [HFI.out, HFD.out, if_neg (fun h => ho (by unfold opensB at h; simp at h; exact ⟨h.1, h.2.1⟩))]
        clear HFI HFD
        cases b4
        · clear ho
          go_wp2
          go_roundw
          case rel => exact ⟨i + 1, rfl, by omega, HFN.out, HBW.out⟩
          case measure => simp [intOf]; omega
        · have hd5 : (b5 != 0) = true := by
            have : b5 ≠ 0 := fun h => ho ⟨rfl, h⟩
            simp [this]
          clear ho
          go_wp2
          go_roundw
          case rel => exact ⟨i + 1, rfl, by omega, HFN.out, HBW.out⟩
          case measure => simp [intOf]; omega
    · have hd : decide (i < len) = false := decide_eq_false hlt
      have hvn : v = -1 := by
        rw [HV.out, HFI.out, List.drop_of_length_le (by rw [HBN.out]; omega)]
        rfl
      have hokf : ok = false := by rw [← HOK.out, hvn]; rfl
      subst hokf
      have hvb : (v == -1) = true := by rw [hvn]; rfl
      clear hvn
      go_wp2_with fail
      refine (known11_any wo).mono ?_
      rintro e w9 ⟨rfl, hb9⟩
      have HB9 := Lib.hid (HB.out.trans (hb9.mono HB.out.size))
      clear hb9
      go_wp2
      go_ret
      exact ⟨rfl, HB1.out.trans (HB9.out.mono HB1.out.size)⟩
end Go.Proofs.YtmnjobiipfgpoaaGreat
