/- The law's own from. -/
import Derived.Test.YtlcnpeodhfdhlaaGSegC
import Derived.Test.YtlcnpeodhfdhlaaRegionZ
namespace Go.Proofs.Ytlcnpeodhfdhlaa
open Go.RowKit
open Go.ProdMath
open Go.SegMath
open Go.IxMath
open Go.BatMath hiding AllB getD_lt take_all
set_option linter.unusedVariables false

set_option maxRecDepth 100000 in
set_option maxHeartbeats 8000000 in
theorem lawFrom_any (w : World) (ad : Option Addr) (n cap : Nat) (ms : List BM) (h : BatsAt w ad n cap ms) (hn : n ≤ 10000) (hok : RowOk (bats ms)) (off : Int) (ho : I64 off) :
    Calls Try.prog 27 #[.slice ad n cap, .int .i64 off] w (GivesFrom w off (bats ms)) := by
  have H := Lib.hid h
  have HOK := Lib.hid hok
  have HL : Hid (ms.length = n) := h.row.length
  have HB0' : Hid (Below w.heap.size w w) := Below.refl _ w
  have HON0 := Lib.hid (ownRow_nil batK w w.heap.size)
  clear h hok
  go_enter Try.func27, Try.ntmps27
  go_wp2_with fail
  go_loopw [5, 10] (fun v5 v10 wr => ∃ (i : Nat) (ad5 : Option Addr) (n5 cap5 : Nat) (fs : List BM), v10 = .int .i64 (i : Int) ∧ v5 = .slice ad5 n5 cap5 ∧ i ≤ n ∧ n5 ≤ i ∧ Hid (fs.length = n5) ∧ Hid (bats fs = ((bats ms).take i).filter fun b => decide (off < endB b)) ∧ Hid (OwnRow batK wr w.heap.size (.slice ad5 n5 cap5) fs) ∧ Hid (RecssAt w fs) ∧ Hid (Below w.heap.size w wr)) (fun _ v10 _ => n - (intOf v10).toNat)
  case atStart => exact ⟨0, none, 0, 0, [], rfl, rfl, Nat.zero_le _, Nat.zero_le _, rfl, rfl, HON0.out, (fun m hm => by cases hm), HB0'.out⟩
  case round =>
    obtain ⟨i, ad5, n5, cap5, fs, rfl, rfl, hin, hn5, HFL, HFE, HFO, HFR, HBI⟩ := hrel
    obtain ⟨wo, hwo⟩ : ∃ wo : World, wo = wr := ⟨_, rfl⟩
    subst hwo
    clear HB0' HON0
    by_cases hlt : i < n
    · have hd : decide (i < n) = true := decide_eq_true hlt
      have hij : (i : Int) < (n : Int) := by omega
      obtain ⟨bx, ox, mx, ex, hbx, hmx, hrx, x0, x1, x2, x3, x4, x5, x6⟩ := (H.out.keep HBI.out).get hlt
      subst ex
      have HMX := Lib.hid hmx
      have hin' : mx.b ∈ bats ms := List.mem_map.2 ⟨mx, List.mem_of_getElem? hmx, rfl⟩
      have HRT := Lib.hid (HOK.out mx.b hin')
      have HRX := Lib.hid hrx
      have HTK : Hid ((bats ms).take (i + 1) = (bats ms).take i ++ [mx.b]) := by
        show _ = _
        have : (bats ms)[i]? = some mx.b := by unfold bats; rw [List.getElem?_map, hmx]; rfl
        obtain ⟨h3, e3⟩ := List.getElem?_eq_some_iff.1 this
        rw [List.take_succ_eq_append_getElem h3, e3]
      obtain ⟨cnt, hcnt⟩ : ∃ c, c = countD mx.b := ⟨_, rfl⟩
      have HCB : Hid (1 ≤ cnt ∧ cnt ≤ 16) := by show _ ∧ _; rw [hcnt]; exact count_pos HRT.out.1
      have HB0 : Hid (0 ≤ mx.b.base ∧ mx.b.base ≤ 1099511627776) := ⟨(ok_of HRT.out.1).base0, (ok_of HRT.out.1).base1⟩
      have HEB : Hid (endB mx.b = mx.b.base + cnt) := by show _ = _; rw [hcnt]; rfl
      have HCN : Hid ((if mx.b.marker ≠ 0 then 1 else (mx.b.recs.length : Int)) = cnt) := by show _ = _; rw [hcnt]; rfl
      have HRO : Hid (RecAt w mx) := by show RecAt _ _; exact H.out.ins mx (List.mem_of_getElem? hmx)
      clear hmx hin' hrx hcnt
      obtain ⟨⟨b0, b1, b2, b3, b4, b5, recs⟩, rd, rc⟩ := mx
      simp only at x0 x1 x2 x3 x4 x5 x6 HB0 HCN HRX HEB
      obtain ⟨rn, hrn⟩ : ∃ n, n = recs.length := ⟨_, rfl⟩
      have HRN := Lib.hid hrn
      rw [← hrn] at x6
      have HCN2 : Hid ((if b5 ≠ 0 then 1 else (rn : Int)) = cnt) := by show _ = _; rw [hrn]; exact HCN.out
      clear hrn HCN
      have hw1 : IntKind.i64.wrap (b0 + cnt) = b0 + cnt := by rw [IntKind.wrap_i64]; have := HCB.out; have := HB0.out; omega
      go_upto_region 5 with fail
      obtain ⟨W1, hW1⟩ : ∃ z, z = wo.alloc (.cells #[.int .i64 b0, .int .i64 b1, .int .i64 b2, .int .i64 b3, .bool b4, .int .i64 b5, .slice rd rn rc] 51) := ⟨_, rfl⟩
      obtain ⟨kb, hkb⟩ : ∃ z, z = wo.heap.size := ⟨_, rfl⟩
      have HBW : Hid (Below wo.heap.size wo W1) := by show Below _ _ _; rw [hW1]; exact (Below.refl _ _).alloc (Nat.le_refl _) _
      have HX1 : Hid (BoxAt W1 kb b0 b1 b2 b3 b4 b5 (.slice rd rn rc)) := by show BoxAt _ _ _ _ _ _ _ _ _; rw [hW1, hkb]; exact boxAt_new wo _ _ _ _ _ _ _
      rw [← hW1, ← hkb]
      clear hW1 hkb x0 x1 x2 x3 x4 x5 x6
      have hdr : Below W1.heap.size W1 W1.drew := (Below.refl _ W1).drew
      have KS : Hid (∀ V, Below W1.heap.size W1 V → (fun (V : World) => V.cell? ⟨kb, 0, none⟩ = some (.int .i64 b0) ∧ V.cell? ⟨kb, 1, none⟩ = some (.int .i64 b1) ∧ V.cell? ⟨kb, 2, none⟩ = some (.int .i64 b2) ∧ V.cell? ⟨kb, 3, none⟩ = some (.int .i64 b3) ∧ V.cell? ⟨kb, 4, none⟩ = some (.bool b4) ∧ V.cell? ⟨kb, 5, none⟩ = some (.int .i64 b5) ∧ V.cell? ⟨kb, 6, none⟩ = some (.slice rd rn rc)) V) := fun V hV => ⟨(HX1.out.on hV).c0, (HX1.out.on hV).c1, (HX1.out.on hV).c2, (HX1.out.on hV).c3, (HX1.out.on hV).c4, (HX1.out.on hV).c5, (HX1.out.on hV).c6⟩
      refine wp_region_noPanic ?_
      refine wp_region_z [] (fun (V : World) => V.cell? ⟨kb, 0, none⟩ = some (.int .i64 b0) ∧ V.cell? ⟨kb, 1, none⟩ = some (.int .i64 b1) ∧ V.cell? ⟨kb, 2, none⟩ = some (.int .i64 b2) ∧ V.cell? ⟨kb, 3, none⟩ = some (.int .i64 b3) ∧ V.cell? ⟨kb, 4, none⟩ = some (.bool b4) ∧ V.cell? ⟨kb, 5, none⟩ = some (.int .i64 b5) ∧ V.cell? ⟨kb, 6, none⟩ = some (.slice rd rn rc)) (by kernel_rfl) ?_
      have hHeld : (fun (V : World) => V.cell? ⟨kb, 0, none⟩ = some (.int .i64 b0) ∧ V.cell? ⟨kb, 1, none⟩ = some (.int .i64 b1) ∧ V.cell? ⟨kb, 2, none⟩ = some (.int .i64 b2) ∧ V.cell? ⟨kb, 3, none⟩ = some (.int .i64 b3) ∧ V.cell? ⟨kb, 4, none⟩ = some (.bool b4) ∧ V.cell? ⟨kb, 5, none⟩ = some (.int .i64 b5) ∧ V.cell? ⟨kb, 6, none⟩ = some (.slice rd rn rc)) _ := KS.out _ hdr
      obtain ⟨u0, hu0⟩ : ∃ u, u = W1.drew := ⟨_, rfl⟩
      rw [← hu0] at hHeld hdr
      rw [← hu0]
      clear hu0
      have HQ0 := Lib.hid hdr
      clear hdr
      refine wpAnyZ_take (i := 0) (oi := ⟨_, _, _, _, _, _⟩) (v := ?_) rfl (by kernel_rfl) (by kernel_rfl) (by kernel_rfl) (by kernel_rfl) (by kernel_rfl) (fun _ _ _ h => h) (Or.inl ⟨by rfl, ?_⟩) (by assumption) ?_
      rotate_left
      · intro W hSw
        (try dsimp only at hSw)
        go_simp
        (try with_reducible rfl)
      (try simp only [Act.put, List.setIfInBounds_toArray, List.set_cons_zero, List.set_cons_succ])
      refine wpAnyZ_take (i := 1) (oi := ⟨_, _, _, _, _, _⟩) (v := ?_) rfl (by kernel_rfl) (by kernel_rfl) (by kernel_rfl) (by kernel_rfl) (by kernel_rfl) (fun _ _ _ h => h) (Or.inl ⟨by rfl, ?_⟩) (by assumption) ?_
      rotate_left
      · intro W hSw
        (try dsimp only at hSw)
        go_simp
        (try with_reducible rfl)
      (try simp only [Act.put, List.setIfInBounds_toArray, List.set_cons_zero, List.set_cons_succ])
      refine wpAnyZ_take (i := 2) (oi := ⟨_, _, _, _, _, _⟩) (v := ?_) rfl (by kernel_rfl) (by kernel_rfl) (by kernel_rfl) (by kernel_rfl) (by kernel_rfl) (fun _ _ _ h => h) (Or.inl ⟨by rfl, ?_⟩) (by assumption) ?_
      rotate_left
      · intro W hSw
        (try dsimp only at hSw)
        go_simp
        (try with_reducible rfl)
      (try simp only [Act.put, List.setIfInBounds_toArray, List.set_cons_zero, List.set_cons_succ])
      refine wpAnyZ_take (i := 5) (oi := ⟨_, _, _, _, _, _⟩) (v := ?_) rfl (by kernel_rfl) (by kernel_rfl) (by kernel_rfl) (by kernel_rfl) (by kernel_rfl) (fun _ _ _ h => h) (Or.inl ⟨by rfl, ?_⟩) (by assumption) ?_
      rotate_left
      · intro W hSw
        (try dsimp only at hSw)
        go_simp
        (try with_reducible rfl)
      (try simp only [Act.put, List.setIfInBounds_toArray, List.set_cons_zero, List.set_cons_succ])
      refine wpAnyZ_ready (rs := [3]) (by kernel_rfl) (by simp) ?_
      refine AllReadyZ.cons (o := ⟨_, _, _, _, _, _⟩) rfl (fun C hC => ?_) AllReadyZ.nil
      go_simp
      refine (refCount_any u0 b0 b1 b2 b3 b4 b5 rd rn rc cnt HCN2.out).mono ?_
      rintro e u1 ⟨rfl, hb1⟩
      have HQ1 : Hid (Below W1.heap.size W1 u1) := HQ0.out.trans (hb1.mono HQ0.out.size)
      clear hb1
      have hHeld : (fun (V : World) => V.cell? ⟨kb, 0, none⟩ = some (.int .i64 b0) ∧ V.cell? ⟨kb, 1, none⟩ = some (.int .i64 b1) ∧ V.cell? ⟨kb, 2, none⟩ = some (.int .i64 b2) ∧ V.cell? ⟨kb, 3, none⟩ = some (.int .i64 b3) ∧ V.cell? ⟨kb, 4, none⟩ = some (.bool b4) ∧ V.cell? ⟨kb, 5, none⟩ = some (.int .i64 b5) ∧ V.cell? ⟨kb, 6, none⟩ = some (.slice rd rn rc)) u1 := KS.out _ HQ1.out
      refine hC.out _ _ (fun _ => hHeld) (fun _ => ?_)
      clear hC C
      (try simp only [Act.put, List.setIfInBounds_toArray, List.set_cons_zero, List.set_cons_succ])
      refine wpAnyZ_take (i := 4) (oi := ⟨_, _, _, _, _, _⟩) (v := ?_) rfl (by kernel_rfl) (by kernel_rfl) (by kernel_rfl) (by kernel_rfl) (by kernel_rfl) (fun _ _ _ h => h) (Or.inl ⟨by rfl, ?_⟩) (by assumption) ?_
      rotate_left
      · intro W hSw
        (try dsimp only at hSw)
        go_simp
        (try with_reducible rfl)
      (try simp only [Act.put, List.setIfInBounds_toArray, List.set_cons_zero, List.set_cons_succ])
      refine wpAnyZ_take (i := 6) (oi := ⟨_, _, _, _, _, _⟩) (v := ?_) rfl (by kernel_rfl) (by kernel_rfl) (by kernel_rfl) (by kernel_rfl) (by kernel_rfl) (fun _ _ _ h => h) (Or.inl ⟨by rfl, ?_⟩) (by assumption) ?_
      rotate_left
      · intro W hSw
        (try dsimp only at hSw)
        go_simp
        (try with_reducible rfl)
      (try simp only [Act.put, List.setIfInBounds_toArray, List.set_cons_zero, List.set_cons_succ])
      refine wpAnyZ_done (by kernel_rfl) ?_ _
      refine NoPanic.normal ?_
      clear hHeld KS
      have HX2 := Lib.hid (HX1.out.on HQ1.out)
      have HB2 : Hid (Below wo.heap.size wo u1) := HBW.out.trans (HQ1.out.mono HBW.out.size)
      clear HX1 HBW HQ0
      have q0 := HX2.out.c0
      have q1 := HX2.out.c1
      have q2 := HX2.out.c2
      have q3 := HX2.out.c3
      have q4 := HX2.out.c4
      have q5 := HX2.out.c5
      have q6 := HX2.out.c6
      by_cases hof : off < b0 + cnt
      · have hdo : decide (off < b0 + cnt) = true := decide_eq_true hof
        have HFN : Hid (bats (fs ++ [⟨⟨b0, b1, b2, b3, b4, b5, recs⟩, rd, rc⟩]) = ((bats ms).take (i + 1)).filter fun b => decide (off < endB b)) := by
          show _ = _
          rw [bats_snoc, HTK.out, filter_snoc, if_pos (decide_eq_true (by rw [HEB.out]; exact hof)), HFE.out]
        have HLIT : Hid (∀ W : World, RowAt batK (W.alloc (.cells #[.int .i64 b0, .int .i64 b1, .int .i64 b2, .int .i64 b3, .bool b4, .int .i64 b5, .slice rd rn rc] 51)) (some ⟨W.heap.size, 0, none⟩) 1 1 [⟨⟨b0, b1, b2, b3, b4, b5, recs⟩, rd, rc⟩]) := fun W => by
          rw [HRN.out]
          exact rowAt_lit batK_ok W [⟨⟨b0, b1, b2, b3, b4, b5, recs⟩, rd, rc⟩] (by simp) _ rfl 1 rfl
        have HRW : Hid (RecssAt w (fs ++ [⟨⟨b0, b1, b2, b3, b4, b5, recs⟩, rd, rc⟩])) := fun m hm => by
          rcases List.mem_append.1 hm with h3 | h3
          · exact HFR.out m h3
          · rw [List.mem_singleton.1 h3]; exact HRO.out
        obtain ⟨my, hmy⟩ : ∃ m, m = (⟨⟨b0, b1, b2, b3, b4, b5, recs⟩, rd, rc⟩ : BM) := ⟨_, rfl⟩
        rw [← hmy] at HFN HLIT HRW
        clear hmy
        have HB6 : Hid (Below u1.heap.size u1 (u1.alloc (.cells #[.int .i64 b0, .int .i64 b1, .int .i64 b2, .int .i64 b3, .bool b4, .int .i64 b5, .slice rd rn rc] 51))) := (Below.refl _ _).alloc (Nat.le_refl _) _
        have HBT : Hid (Below w.heap.size w u1) := HBI.out.trans (HB2.out.mono HBI.out.size)
        have HBS : Hid (w.heap.size ≤ (u1.alloc (.cells #[.int .i64 b0, .int .i64 b1, .int .i64 b2, .int .i64 b3, .bool b4, .int .i64 b5, .slice rd rn rc] 51)).heap.size) := Nat.le_trans HBT.out.size HB6.out.size
        have HON := Lib.hid ((HFO.out.on HB2.out).on HB6.out)
        go_wp2_with (at_builtin; refine list_row (by rfl) batK_ok (.tmp 21) (.tmp 23) rfl w.heap.size fs [my] (.slice ad5 n5 cap5) rfl HON.out HBS.out (some ⟨u1.heap.size, 0, none⟩) 1 1 rfl (HLIT.out u1) (by rw [HFL.out]; omega) ?_)
        intro v6 w6 hap
        obtain ⟨ad6, cap6, hv6, _, _⟩ := OwnRow.row batK_ok hap.1 (n := n5 + 1) (by rw [List.length_append, HFL.out]; rfl)
        subst hv6
        have HO6 := Lib.hid (show OwnRow batK w6 w.heap.size (.slice ad6 (n5 + 1) cap6) (fs ++ [my]) from hap.1)
        have HB7 : Hid (Below w.heap.size w w6) := (HBT.out.trans (HB6.out.mono HBT.out.size)).grown hap.2.1 HBS.out fun q hq => (HON.out.lt q hq).1
        have HNL : Hid ((fs ++ [my]).length = n5 + 1) := by show _ = _; rw [List.length_append, HFL.out]; rfl
        clear hap HON HBS HB6
        go_wp2_with fail
        go_roundw
        case rel => exact ⟨i + 1, ad6, n5 + 1, cap6, fs ++ [my], by go_num, rfl, by omega, by omega, HNL.out, HFN.out, HO6.out, HRW.out, HB7.out⟩
        case measure => simp [intOf]; omega
      · have hdo : decide (off < b0 + cnt) = false := decide_eq_false hof
        have HFN : Hid (bats fs = ((bats ms).take (i + 1)).filter fun b => decide (off < endB b)) := by
          show _ = _
          rw [HTK.out, filter_snoc, if_neg (by rw [HEB.out]; simpa using hof), HFE.out]
        have HFO2 := Lib.hid (HFO.out.on HB2.out)
        have HBT : Hid (Below w.heap.size w u1) := HBI.out.trans (HB2.out.mono HBI.out.size)
        go_wp2_with fail
        go_roundw
        case rel => exact ⟨i + 1, ad5, n5, cap5, fs, by go_num, rfl, by omega, by omega, HFL.out, HFN.out, HFO2.out, HFR.out, HBT.out⟩
        case measure => simp [intOf]; omega
    · have hd : decide (i < n) = false := decide_eq_false hlt
      have HFN : Hid (bats fs = (bats ms).filter fun b => decide (off < endB b)) := by
        have h3 := HFE.out
        rw [List.take_of_length_le (by rw [bats_len, HL.out]; omega)] at h3
        exact h3
      obtain ⟨ad6, cap6, e6, hr6, _⟩ := OwnRow.row batK_ok HFO.out (n := n5) HFL.out
      cases e6
      have HRR := Lib.hid hr6
      clear hr6
      go_wp2_with fail
      go_ret
      exact ⟨ad5, n5, cap5, fs, rfl, ⟨HRR.out, HFR.out.keep HBI.out⟩, HFN.out, HBI.out⟩
end Go.Proofs.Ytlcnpeodhfdhlaa
