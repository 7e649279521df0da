/- Parts of a proof. -/
import Derived.Test.YtjmfdildnojknaaGreatKP13
set_option maxRecDepth 100000
set_option maxHeartbeats 16000000
set_option linter.unusedVariables false
namespace Go.Proofs.YtjmfdildnojknaaGreat
open Go.RowKit
open Go.ProdMath
open Go.BatMath hiding AllB getD_lt take_all
theorem segCount_few {b : Bat} (h : rightE b = 0) : 1 ≤ countD b ∧ countD b ≤ 16 := by
 have h16 := (ok_of h).recs
 unfold countD
 split
 · omega
 rename_i hm
 have hne : b.recs ≠ [] := fun e => by
  unfold rightE at h
  split at h
  · exact absurd h (by decide)
  rw [if_neg (by rintro ⟨_, h2⟩; exact h2 e)] at h
  exact absurd h (by decide)
 have := List.length_pos_iff.2 hne
 omega
theorem segEnd_any (w : World) (b0 b1 b2 b3 : Int) (b4 : Bool) (b5 : Int) (rd : Option Addr) (rn rc : Nat) (cnt : Int) (hn : (if b5 ≠ 0 then 1 else (rn : Int)) = cnt) (hw1 : IntKind.i64.wrap (b0 + cnt) = b0 + cnt) :
 Calls Tryz.prog 116 #[.agg #[.int .i64 b0, .int .i64 b1, .int .i64 b2, .int .i64 b3, .bool b4, .int .i64 b5, .slice rd rn rc]] w (Says (b0 + cnt) w) := by
 have HCN := qh hn
 clear hn
 go_enter Tryz.func116, Tryz.ntmps116
 go_upto_region 1 with fail
 obtain ⟨W1, hW1⟩ := exq (w.alloc (.cells #[.int .i64 b0, .int .i64 b1, .int .i64 b2, .int .i64 b3, .bool b4, .int .i64 b5, .slice rd rn rc] 29))
 obtain ⟨kb, hkb⟩ := exq w.heap.size
 have HBW := hwq hW1
 have HX1 := bxq hW1 hkb
 rw [← hW1, ← hkb]
 clear hW1 hkb
 have KS : Hid (∀ V, Below W1.heap.size W1 V → (fun (V : World) => V.cell? ⟨kb, 0, none⟩ = some (.int .i64 b0) ∧ V.cell? ⟨kb, 1, none⟩ = some (.int .i64 b1) ∧ V.cell? ⟨kb, 2, none⟩ = some (.int .i64 b2) ∧ V.cell? ⟨kb, 3, none⟩ = some (.int .i64 b3) ∧ V.cell? ⟨kb, 4, none⟩ = some (.bool b4) ∧ V.cell? ⟨kb, 5, none⟩ = some (.int .i64 b5) ∧ V.cell? ⟨kb, 6, none⟩ = some (.slice rd rn rc)) V) := fun V hV => ⟨(HX1.out.on hV).c0, (HX1.out.on hV).c1, (HX1.out.on hV).c2, (HX1.out.on hV).c3, (HX1.out.on hV).c4, (HX1.out.on hV).c5, (HX1.out.on hV).c6⟩
 refine zs [] KS fun u0 HQ0 hHeld => ?_
 refine zt 0 ?_
 refine zt 1 ?_
 refine zt 2 ?_
 refine zr 3 (fun C hC => ?_)
 go_simp
 refine (batCount_any u0 b0 b1 b2 b3 b4 b5 rd rn rc cnt HCN.out).mono ?_
 rintro e u1 ⟨rfl, hb1⟩
 have HQ1 : Hid (Below W1.heap.size W1 u1) := HQ0.out.trans (hb1.mono HQ0.out.size)
 clear hb1
 have hHeld := KS.out _ HQ1.out
 refine zc hC hHeld ?_
 clear hC C
 refine zt 4 ?_
 refine zt 5 ?_
 refine zd ?_
 clear hHeld KS
 go_wp2_with fail
 go_ret
 exact says_mk rfl (HBW.out.trans (HQ1.out.mono HBW.out.size))
theorem segNext_any (w : World) (ad : Option Addr) (n cap : Nat) (ms : List BM) (h : BatsAt w ad n cap ms) (hn : n ≤ 100000) (hok : RowOk (bats ms)) (base : Int) (v : Int) (hv : endD base (bats ms) = v) :
 Calls Tryz.prog 81 #[.slice ad n cap, .int .i64 base] w (Says v w) := by
 have HL : Hid (ms.length = n) := h.row.length
 have H := qh h
 have HOK := qh hok
 have HV := qh hv
 clear h hok hv
 rcases Nat.eq_zero_or_pos n with h0 | h0
 · subst h0
   have hms : ms = [] := List.eq_nil_of_length_eq_zero HL.out
   have hv : base = v := by rw [← HV.out, hms]; rfl
   subst hv
   go_enter Tryz.func81, Tryz.ntmps81
   go_wp2_with fail
   go_ret
   exact says_mk rfl (Below.refl _ w)
 have hn0 : ((n : Int) == 0) = false := by simp; omega
 have hn2 : (1 : Int) ≤ (n : Int) := by omega
 have hn5 : (n : Int) - 1 < (n : Int) := by omega
 have hn3 : ((n : Int) - 1).toNat = n - 1 := by omega
 have hn4 : IntKind.i64.wrap ((n : Int) - 1) = (n : Int) - 1 := by rw [IntKind.wrap_i64]; omega
 obtain ⟨bx, ox, mx, ex, hbx, hmx, hrx, x0, x1, x2, x3, x4, x5, x6⟩ := H.out.get (show n - 1 < n by omega)
 subst ex
 have hin' : mx.b ∈ bats ms := List.mem_map.2 ⟨mx, List.mem_of_getElem? hmx, rfl⟩
 have HRT := qh (HOK.out mx.b hin')
 obtain ⟨cnt, hcnt⟩ := exq (countD mx.b)
 have HCB : Hid (1 ≤ cnt ∧ cnt ≤ 16) := by show _ ∧ _; rw [hcnt]; exact segCount_few HRT.out.1
 have HB0 : Hid (0 ≤ mx.b.base ∧ mx.b.base ≤ 1099511627776) := ⟨(ok_of HRT.out.1).base0, (ok_of HRT.out.1).base1⟩
 have HVE : Hid (mx.b.base + cnt = v) := by
  show _ = _
  have hla : (bats ms).getLast? = some mx.b := by
   unfold bats
   rw [List.getLast?_map, List.getLast?_eq_getElem?, HL.out, hmx]
   rfl
  rw [← HV.out, end_last hla, hcnt]
 have HCN : Hid ((if mx.b.marker ≠ 0 then 1 else (mx.b.recs.length : Int)) = cnt) := by show _ = _; rw [hcnt]; rfl
 clear hmx hin' hrx hcnt HRT HV
 obtain ⟨⟨b0, b1, b2, b3, b4, b5, recs⟩, rd, rc⟩ := mx
 simp only at x0 x1 x2 x3 x4 x5 x6 HB0 HCN HVE
 have hw1 : IntKind.i64.wrap (b0 + cnt) = b0 + cnt := by rw [IntKind.wrap_i64]; have := HCB.out; have := HB0.out; omega
 go_enter Tryz.func81, Tryz.ntmps81
 go_wp2_with fail
 refine (segEnd_any w b0 b1 b2 b3 b4 b5 rd recs.length rc cnt HCN.out hw1).mono ?_
 rintro e w1 ⟨rfl, hb1⟩
 rw [HVE.out]
 have HB1 := qh hb1
 clear hb1
 go_wp2_with fail
 go_ret
 exact says_mk rfl HB1.out
end Go.Proofs.YtjmfdildnojknaaGreat
namespace Go.Proofs.YtjmfdildnojknaaGreat
open Go.RowKit
open Go.FoMath
open Go.ProdMath
open Go.BatMath hiding AllB getD_lt take_all
theorem fcEnd_any (w : World) (start : Int) (ad : Option Addr) (len cap : Nat) (ms : List BM) (h : BatsAt w ad len cap ms) (hL : len ≤ 100000) (hok : RowOk (bats ms)) (v : Int) (hv : endD start (bats ms) = v) :
 Calls Tryz.prog 47 #[.int .i64 start, .slice ad len cap] w (GivesI w v) := by
 have H := qh h
 have HOK := qh hok
 have HLL : Hid (len ≤ 100000) := hL
 have HV := qh hv
 clear h hok hL hv
 go_enter Tryz.func47, Tryz.ntmps47
 go_wp2_with fail
 refine (segNext_any w ad len cap ms H.out HLL.out HOK.out start v HV.out).mono ?_
 rintro e w1 ⟨rfl, hb⟩
 have HB1 := qh hb
 clear hb
 go_wp2
 go_ret
 exact ⟨rfl, HB1.out⟩
theorem fcStable_any (w : World) (start : Int) (ad : Option Addr) (len cap : Nat) (ms : List BM) (h : BatsAt w ad len cap ms) (hL : len ≤ 5000) (hr : FoRow start (bats ms)) :
 Calls Tryz.prog 54 #[.int .i64 start, .slice ad len cap] w (GivesI w (stableD start (bats ms))) := by
 have H := qh h
 have HR := qh hr
 have HLL : Hid (len ≤ 5000) := hL
 clear h hr hL
 go_enter Tryz.func54, Tryz.ntmps54
 go_wp2_with fail
 refine (tcFold_any w ad len cap ms H.out (Nat.le_trans HLL.out (by decide)) (batsOk_of HR.out.ok)).mono ?_
 rintro e w1 ⟨kt, km, ps, rfl, htab, hps, -, -, hb⟩
 have HT := qh htab
 have HPS := qh hps
 have HB1 := qh hb
 clear htab hps hb
 go_wp2_with fail
 refine (tcOpens_any w1 kt km ps HT.out).mono ?_
 rintro e w2 ⟨v, hv, rfl, hb⟩
 have HB2 := qh (HB1.out.trans (hb.mono HB1.out.size))
 rw [HPS.out] at hv
 have hvf : v = firstOpen (bats ms) := least_one hv HR.out.least
 subst hvf
 obtain ⟨f, hf⟩ := exq (firstOpen (bats ms))
 rw [← hf]
 have HF := qh hf
 clear hv hb hf
 by_cases h0 : f = -1
 · have hd : (f != -1) = false := by rw [h0]; rfl
   have HS : Hid (stableD start (bats ms) = endD start (bats ms)) := by
    show stableD _ _ = _
    unfold stableD
    rw [← HF.out, if_pos h0]
   rw [hd]
   clear h0 hd
   go_wp2_with fail
   refine (fcEnd_any w2 start ad len cap ms (H.out.keep HB2.out) (Nat.le_trans HLL.out (by decide)) HR.out.ok _ rfl).mono ?_
   rintro e w3 ⟨rfl, hb⟩
   have HB3 := qh (HB2.out.trans (hb.mono HB2.out.size))
   clear hb
   go_wp2
   go_ret
   exact ⟨by rw [HS.out]; rfl, HB3.out⟩
 have hd : (f != -1) = true := by simp [h0]
 have HS : Hid (stableD start (bats ms) = f) := by
  show stableD _ _ = _
  unfold stableD
  rw [← HF.out, if_neg h0]
 rw [hd]
 clear h0 hd
 go_wp2
 go_ret
 exact ⟨by rw [HS.out]; rfl, HB2.out⟩
theorem fcRecords_any (w : World) (start : Int) (ad : Option Addr) (len cap : Nat) (ms : List BM) (h : BatsAt w ad len cap ms) (hL : len ≤ 5000) (hok : GotsOk (bats ms)) (fr t0 : Int) :
 Calls Tryz.prog 93 #[.int .i64 start, .slice ad len cap, .int .i64 fr, .int .i64 t0] w (GivesGots w (recordsD (bats ms) fr t0)) := by
 have H := qh h
 have hlen := h.row.length
 obtain ⟨bs, hbs⟩ := exq (bats ms)
 have hbl : bs.length = len := by rw [hbs]; unfold bats; rw [List.length_map]; exact hlen
 have HGET : Hid (∀ (i : Nat) m, ms[i]? = some m → bs[i]? = some m.b) := by
  intro i m hm
  rw [hbs]; unfold bats
  rw [List.getElem?_map, hm]; rfl
 rw [← hbs] at hok ⊢
 have HOK := qh hok
 have HBL := qh hbl
 clear h hbs hlen hok hbl
 go_enter Tryz.func93, Tryz.ntmps93
 go_wp2
 go_loopw [9, 17] (fun v9 v17 wr => ∃ (j : Nat) (u : Value), u = v9 ∧ v17 = .int .i64 (j : Int) ∧ j ≤ len ∧ Hid (OwnRow gtK wr w.heap.size u (recordsD (bs.take j) fr t0)) ∧ Hid (Below w.heap.size w wr)) (fun _ v17 _ => len - (intOf v17).toNat)
 case atStart => exact ⟨0, _, rfl, rfl, Nat.zero_le _, ownRow_nil _ _ _, Below.refl _ _⟩
 obtain ⟨j, u, rfl, rfl, hj, HO, HB⟩ := hrel
 obtain ⟨wo, hwo⟩ := exq wr
 subst hwo
 by_cases hlt : j < len
 rotate_left
 · have hd : decide (j < len) = false := decide_eq_false hlt
   have hjl : j = len := by omega
   have HFIN : Hid (OwnRow gtK wo w.heap.size u (recordsD bs fr t0)) := by
    have h1 := HO.out
    rw [hjl, ← HBL.out, List.take_length] at h1
    exact h1
   clear hjl
   go_wp2
   go_ret
   obtain ⟨ad, cap, hv, hr, hk⟩ := OwnRow.at gtK_ok HFIN.out
   exact ⟨ad, _, cap, congrArg Ending.returned hv, hr, hk, HB.out⟩
 have hd : decide (j < len) = true := decide_eq_true hlt
 have hjl : (j : Int) < (len : Int) := by omega
 obtain ⟨bk, off, m, rfl, hbk, hm, hrec, c0, c1, c2, c3, c4, c5, c6⟩ := (H.out.keep HB.out).get hlt
 have hbm := HGET.out j m hm
 obtain ⟨hb0, hb1, hrl⟩ := HOK.out m.b (List.mem_of_getElem? hbm)
 have HTK : Hid (recordsD (bs.take (j + 1)) fr t0 = recordsD (bs.take j) fr t0 ++ batG m.b fr t0) := by show _ = _; rw [List.take_add_one, hbm, Option.toList_some, recordsD_snoc]
 have HACC : Hid ((recordsD (bs.take j) fr t0).length ≤ 80000) := by
  show _ ≤ _
  have h1 := recordsD_few (a := fr) (z := t0) (l := bs.take j) (fun b hb => (HOK.out b (List.mem_of_mem_take hb)).2.2)
  rw [List.length_take] at h1
  omega
 have HRC : Hid (RecsAt w m.ad m.b.recs.length m.cap m.b.recs) := H.out.ins m (List.mem_of_getElem? hm)
 obtain ⟨⟨b0, b1, b2, b3, b4, b5, recs⟩, rd, rc⟩ := m
 simp only at c0 c1 c2 c3 c4 c5 c6 hb0 hb1 hrl HTK HRC
 obtain ⟨rn, hrn⟩ : ∃ n, recs.length = n := ⟨_, rfl⟩
 rw [hrn] at c6 hrl HRC
 have HRN := qh hrn
 clear hbm hm hrec hbk hrn
 go_upto_region 5 with fail
 obtain ⟨W1, hW1⟩ := exq (wo.alloc (.cells #[.int .i64 b0, .int .i64 b1, .int .i64 b2, .int .i64 b3, .bool b4, .int .i64 b5, .slice rd rn rc] 29))
 have hb1' : Below wo.heap.size wo W1 := by rw [hW1]; exact (bal _ _)
 obtain ⟨K, hK⟩ := exq wo.heap.size
 have HX1 := bxq hW1 hK
 have HO1 := qh (HO.out.on hb1')
 have HB1 := qh (HB.out.trans (hb1'.mono HB.out.size))
 have HKW : Hid (w.heap.size ≤ K) := by show _ ≤ _; rw [hK]; exact HB.out.size
 have HUK : Hid (∀ q, u.ownBlock = some q → q < K) := fun q hq => by have := (HO.out.lt q hq).2; rw [hK]; exact this
 have HKK : Hid (K < W1.heap.size) := HX1.out.lt
 rw [← hW1, ← hK]
 clear hW1 hb1' hK c0 c1 c2 c3 c4 c5 c6
 have x5 := HX1.out.c5
 by_cases hmk : b5 ≠ 0
 · have hd5 : (b5 != 0) = true := by simp [hmk]
   have HNO : Hid (batG ⟨b0, b1, b2, b3, b4, b5, recs⟩ fr t0 = []) := by
    show batG _ _ _ = []
    unfold batG
    rw [if_neg hmk]
   have HO2 : Hid (OwnRow gtK W1 w.heap.size u (recordsD (bs.take (j + 1)) fr t0)) := by
    have h1 := HO1.out
    rw [← List.append_nil (recordsD (bs.take j) fr t0), ← HNO.out, ← HTK.out] at h1
    exact h1
   clear hmk
   go_wp2
   go_roundw
   case rel => exact ⟨j + 1, u, rfl, rfl, hlt, HO2.out, HB1.out⟩
   simp [intOf]; omega
 have hm0 : b5 = 0 := Classical.byContradiction hmk
 have HM0 := qh hm0
 have hd5 : (b5 != 0) = false := by rw [hm0]; rfl
 clear hmk hm0
 have x6 := HX1.out.c6
 go_wp2
 clear x6 x5 hd5
 go_loopw [9, 27] (fun v9 v27 wr => ∃ (i : Nat) (v : Value), v = v9 ∧ v27 = .int .i64 (i : Int) ∧ i ≤ rn ∧ Hid (OwnRow gtK wr w.heap.size v (recordsD (bs.take j) fr t0 ++ partG ⟨b0, b1, b2, b3, b4, b5, recs⟩ i fr t0)) ∧ Hid (∀ q, v.ownBlock = some q → q ≠ K) ∧ Hid (BoxAt wr K b0 b1 b2 b3 b4 b5 (.slice rd rn rc)) ∧ Hid (Below w.heap.size w wr)) (fun _ v27 _ => rn - (intOf v27).toNat)
 case atStart =>
  refine ⟨0, _, rfl, rfl, Nat.zero_le _, ?_, ?_, HX1.out, HB1.out⟩
  · show OwnRow _ _ _ _ _
    rw [partG_zero, List.append_nil]
    exact HO1.out
  exact fun q hq => Nat.ne_of_lt (HUK.out q hq)
 obtain ⟨i, v, rfl, rfl, hi, HV, HNK, HX, HBB⟩ := hrel
 clear HO1 HX1 HB1
 obtain ⟨wi, hwi⟩ := exq wr
 subst hwi
 by_cases hit : i < rn
 rotate_left
 · have hdi : decide (i < rn) = false := decide_eq_false hit
   have hir : i = rn := by omega
   have HO2 : Hid (OwnRow gtK wi w.heap.size v (recordsD (bs.take (j + 1)) fr t0)) := by
    have h1 := HV.out
    rw [hir, ← HRN.out, partG_all, ← HTK.out] at h1
    exact h1
   clear hir
   go_wp2
   go_roundw
   case rel => exact ⟨j + 1, v, rfl, rfl, hlt, HO2.out, HBB.out⟩
   simp [intOf]; omega
 have hdi : decide (i < rn) = true := decide_eq_true hit
 have hil : (i : Int) < (rn : Int) := by omega
 obtain ⟨rb, ro, r, el, hrb, hri, k0, k1⟩ := rc_get (HRC.out.keep HBB.out) hit
 subst el
 have HRI := qh hri
 obtain ⟨n, hn⟩ : ∃ n : Int, n = b0 + (i : Int) := ⟨_, rfl⟩
 have HN := qh hn
 clear hri hn
 obtain ⟨rk, rv⟩ := r
 simp only at k0 k1
 go_upto_region 9 with fail
 obtain ⟨W2, hW2⟩ := exq (wi.alloc (.cells #[.string rk, .string rv] 84))
 obtain ⟨Q, hQ⟩ := exq wi.heap.size
 have hb2 := wbq hW2
 have HRX : Hid (W2.heap[Q]? = some (.cells #[.string rk, .string rv] 84 (0, 0))) := by show _ = _; rw [hW2, hQ]; exact heap_alloc_new wi _
 have HX2 := qh (HX.out.on hb2)
 have HV2 := qh (HV.out.on hb2)
 have HB2 := qh (HBB.out.trans (hb2.mono HBB.out.size))
 (try rw [← hW2, ← hQ])
 clear hW2 hQ hb2 k0 k1 HX HV HBB hrb
 have x0 := HX2.out.c0
 have x1 := HX2.out.c1
 have s0 : W2.cell? ⟨Q, 0, none⟩ = some (.string rk) := by rw [cell_of_row _ _ 0 _ _ _ HRX.out]; rfl
 have s1 : W2.cell? ⟨Q, 1, none⟩ = some (.string rv) := by rw [cell_of_row _ _ 1 _ _ _ HRX.out]; rfl
 go_upto_region 10 with fail
 rw [← HN.out]
 have hcs : (¬ fr ≤ n) ∨ (fr ≤ n ∧ ¬ n < t0) ∨ (fr ≤ n ∧ n < t0) := by omega
 have h5 := HM0.out
 rcases hcs with h6 | ⟨h6, h7⟩ | ⟨h6, h7⟩
 · have hd6 : decide (fr ≤ n) = false := decide_eq_false h6
   have HP : Hid (partG ⟨b0, b1, b2, b3, b4, b5, recs⟩ (i + 1) fr t0 = partG ⟨b0, b1, b2, b3, b4, b5, recs⟩ i fr t0) := partG_no HRI.out (.inr (.inl (by have := HN.out; simp only; omega)))
   clear h5 h6
   go_wp2
   go_roundw
   case rel => exact ⟨i + 1, v, rfl, rfl, hit, by rw [HP.out]; exact HV2.out, HNK.out, HX2.out, HB2.out⟩
   simp [intOf]; omega
 · have hd6 : decide (fr ≤ n) = true := decide_eq_true h6
   have hd7 : decide (n < t0) = false := decide_eq_false h7
   have HP : Hid (partG ⟨b0, b1, b2, b3, b4, b5, recs⟩ (i + 1) fr t0 = partG ⟨b0, b1, b2, b3, b4, b5, recs⟩ i fr t0) := partG_no HRI.out (.inr (.inr (by have := HN.out; simp only; omega)))
   clear h5 h6 h7
   go_wp2
   go_roundw
   case rel => exact ⟨i + 1, v, rfl, rfl, hit, by rw [HP.out]; exact HV2.out, HNK.out, HX2.out, HB2.out⟩
   simp [intOf]; omega
 have hd6 : decide (fr ≤ n) = true := decide_eq_true h6
 have hd7 : decide (n < t0) = true := decide_eq_true h7
 have HP : Hid (partG ⟨b0, b1, b2, b3, b4, b5, recs⟩ (i + 1) fr t0 = partG ⟨b0, b1, b2, b3, b4, b5, recs⟩ i fr t0 ++ [⟨n, b1, ⟨rk, rv⟩⟩]) := by
  show _ = _
  rw [HN.out]
  exact partG_yes HRI.out h5 (by have := HN.out; simp only; omega) (by have := HN.out; simp only; omega)
 have HPL : Hid ((recordsD (bs.take j) fr t0 ++ partG ⟨b0, b1, b2, b3, b4, b5, recs⟩ i fr t0).length ≤ 90000) := by
  show _ ≤ _
  have h1 := partG_len ⟨b0, b1, b2, b3, b4, b5, recs⟩ i fr t0
  have h2 := HACC.out
  rw [List.length_append]
  omega
 clear h5 h6 h7
 obtain ⟨W3, hW3⟩ := exq (W2.alloc (.cells #[.int .i64 n, .int .i64 b1, .string rk, .string rv] 137))
 have hb3 := wbq hW3
 have HLIT : Hid (RowAt gtK W3 (some ⟨W2.heap.size, 0, none⟩) 1 1 [⟨n, b1, ⟨rk, rv⟩⟩]) := by
  show RowAt _ _ _ _ _ _
  rw [hW3]
  exact rowAt_lit gtK_ok W2 [⟨n, b1, ⟨rk, rv⟩⟩] (by simp) _ rfl 1 rfl
 have HX3 := qh (HX2.out.on hb3)
 have HV3 := qh (HV2.out.on hb3)
 have HB3 := qh (HB2.out.trans (hb3.mono HB2.out.size))
 have HW3 := qh hW3
 clear hb3 hW3
 go_wp2_with (at_builtin; rw [← HW3.out]; refine list_row (by rfl) gtK_ok (.tmp 44) (.tmp 50) rfl w.heap.size (recordsD (bs.take j) fr t0 ++ partG ⟨b0, b1, b2, b3, b4, b5, recs⟩ i fr t0) [⟨n, b1, ⟨rk, rv⟩⟩] v rfl HV3.out HB3.out.size (some ⟨W2.heap.size, 0, none⟩) 1 1 rfl HLIT.out (by have := HPL.out; omega) ?_)
 intro v4 w4 hap
 have HV4 : Hid (OwnRow gtK w4 w.heap.size v4 (recordsD (bs.take j) fr t0 ++ partG ⟨b0, b1, b2, b3, b4, b5, recs⟩ (i + 1) fr t0)) := by
  show OwnRow _ _ _ _ _
  rw [HP.out]
  exact hap.1
 have HX4 : Hid (BoxAt w4 K b0 b1 b2 b3 b4 b5 (.slice (some ⟨rb, ro, none⟩) rn rc)) := (hap.2.1.block K HX3.out.lt (fun e => HNK.out K e.symm rfl)).trans HX3.out
 have HN4 : Hid (∀ q, v4.ownBlock = some q → q ≠ K) := fun q hq => by
  rcases hap.2.2.2 q hq with h1 | h1
  · exact HNK.out q h1
  have := HX3.out.lt; omega
 have HB4 : Hid (Below w.heap.size w w4) := HB3.out.grown hap.2.1 HB3.out.size (fun q hq => (HV3.out.lt q hq).1)
 clear hap HV3 HX3 HB3 HLIT HW3 HV2 HX2 HB2 HRX x0 x1 s0 s1
 go_wp2
 go_roundw
 case rel => exact ⟨i + 1, v4, rfl, rfl, hit, HV4.out, HN4.out, HX4.out, HB4.out⟩
 simp [intOf]; omega
def hitB (g : Gt) (d : Dr) : Bool := decide (g.prod ≠ -1 ∧ d.prod = g.prod ∧ d.first ≤ g.off ∧ g.off ≤ d.last)
def GivesB (w : World) (b : Bool) (e : Ending) (w' : World) : Prop := e = .returned (.bool b) ∧ Below w.heap.size w w'
theorem fcClone_any (w : World) (ad : Option Addr) (len cap : Nat) (l : List Gt) (hr : RowAt gtK w ad len cap l) (hl : len ≤ 1000000) : Calls Tryz.prog 94 #[.slice ad len cap] w (GivesGots w l) := by
 have hroom := hr.room
 have hlen := hr.length
 have HR := qh hr
 clear hr
 cases ad with
 | none =>
   have hc := hroom rfl
   have hfits := HR.out.fits
   have h0 : len = 0 := by omega
   subst hc
   subst h0
   obtain rfl : l = [] := List.eq_nil_of_length_eq_zero hlen
   have hnil : ∀ W, (binOp .eql 70 (.slice none 0 0) (.slice none 0 0)).run Tryz.prog W = .ok (.bool true) W := fun W => Lib.run_eql_slice_nil (P := Tryz.prog) W 70 137 none 0 0 0 0 Tryz.underlying70
   go_enter Tryz.func94, Tryz.ntmps94
   go_wp2
   go_ret
   exact ⟨none, 0, 0, rfl, rowAt_nil _, (fun a ha => by cases ha), Below.refl _ _⟩
 | some a =>
   have hnil : ∀ W, (binOp .eql 70 (.slice (some a) len cap) (.slice none 0 0)).run Tryz.prog W = .ok (.bool false) W := fun W => Lib.run_eql_slice_nil (P := Tryz.prog) W 70 137 (some a) len cap 0 0 Tryz.underlying70
   have HL := qh hlen
   clear hroom hlen
   go_enter Tryz.func94, Tryz.ntmps94
   go_wp2_with (at_builtin; refine list_row (by rfl) gtK_ok (.tmp 5) (.tmp 6) rfl w.heap.size [] l _ rfl (ownRow_lit gtK_ok w w.heap.size [] (Nat.le_refl _) (by simp) _ rfl 0 rfl) (by simp) (some a) len cap rfl (HR.out.keep (bal w _)) (by rw [List.length_nil]; omega) ?_)
   rintro v' w' hap
   have HAP := qh hap
   clear hap
   go_wp2
   go_ret
   have h1 := HAP.out
   obtain ⟨ad', cap', rfl, hr', hk'⟩ := OwnRow.row gtK_ok h1.1 rfl
   refine ⟨ad', _, cap', rfl, hr', hk', ?_⟩
   exact appended_below h1 (ownRow_lit gtK_ok w w.heap.size [] (Nat.le_refl _) (by simp) _ rfl 0 rfl) (bal w _) (Nat.le_refl _) (by simp)
end Go.Proofs.YtjmfdildnojknaaGreat
namespace Go.Proofs.YtjmfdildnojknaaGreat
open Go.RowKit
open Go.AbMath
open Go.ProdMath
open Go.BatMath hiding AllB getD_lt take_all
def AbMakes (R : (Nat → Prop) → World → Addr → List Dr → Prop) (W : World) (l : List Dr) (e : Ending) (w' : World) : Prop :=
 ∃ a F, e = .returned (.pointer (some a)) ∧ R F w' a l ∧ (∀ k, F k → W.heap.size ≤ k) ∧ Below W.heap.size W w'
section
variable {R : (Nat → Prop) → World → Addr → List Dr → Prop}
end
def maxL (l : List Dr) : Int := l.foldl (fun z d => max z d.last) (-1)
theorem maxL_snoc (l : List Dr) (d : Dr) : maxL (l ++ [d]) = max (maxL l) d.last := by unfold maxL; rw [List.foldl_append]; rfl
def AcBox (w : World) (k : Nat) (v : Value) (z : Int) : Prop := w.heap[k]? = some (.cells #[v, .int .i64 z] 166 (0, 0))
section
variable {w w' : World} {k : Nat} {v : Value} {z : Int}
theorem AcBox.c0 (h : AcBox w k v z) : w.cell? ⟨k, 0, none⟩ = some v := by rw [cell_of_row _ _ 0 _ _ _ h]; rfl
theorem AcBox.c1 (h : AcBox w k v z) : w.cell? ⟨k, 1, none⟩ = some (.int .i64 z) := by rw [cell_of_row _ _ 1 _ _ _ h]; rfl
theorem AcBox.free (h : AcBox w k v z) (j : Nat) : w.frozen? ⟨k, j, none⟩ = false := frozen_of_row w k j _ _ h
theorem AcBox.lt (h : AcBox w k v z) : k < w.heap.size := lt_of_block h
theorem AcBox.same (h : AcBox w k v z) (hs : w'.heap[k]? = w.heap[k]?) : AcBox w' k v z := hs.trans h
theorem AcBox.s0 (h : AcBox w k v z) (u : Value) : AcBox (w.setCell ⟨k, 0, none⟩ u) k u z := box_set h 0 _
theorem AcBox.s1 (h : AcBox w k v z) (u : Int) : AcBox (w.setCell ⟨k, 1, none⟩ (.int .i64 u)) k v u := box_set h 1 _
end
theorem ac_type {α : Type} {K : Kind α} {w : World} {b : Nat} {v : Value} {l : List α} {q : Nat} (h : OwnRow K w b v l) (hq : v.ownBlock = some q) : ∃ cur, w.heap[q]? = some (.cells cur K.ty (0, 0)) := by
 rcases h.2 with ⟨h0, _⟩ | ⟨g, cap, cur, h1, _, h2, _⟩
 · rw [h0] at hq; cases hq
 rw [h1] at hq
 cases hq
 exact ⟨cur, h2⟩
structure AcAt (w : World) (k : Nat) (l : List Dr) (v : Value) : Prop where
 box : AcBox w k v (maxL l)
 row : OwnRow drK w 0 v l
def AFoot (k : Nat) (v : Value) (j : Nat) : Prop := j = k ∨ v.ownBlock = some j
theorem ac_vk {w : World} {k : Nat} {l : List Dr} {v u : Value} {z : Int} (hb : AcBox w k u z) (hr : OwnRow drK w 0 v l) : v.ownBlock ≠ some k := fun e => by
 obtain ⟨cur, hc⟩ := ac_type hr e
 unfold AcBox at hb
 rw [hc] at hb
 simp [drK] at hb
section
variable {w w' : World} {k : Nat} {l : List Dr} {v : Value}
theorem AcAt.same (h : AcAt w k l v) (hs : ∀ j, AFoot k v j → w'.heap[j]? = w.heap[j]?) : AcAt w' k l v := ⟨h.box.same (hs k (.inl rfl)), h.row.same fun q hq => hs q (.inr hq)⟩
theorem AcAt.lt (h : AcAt w k l v) {j : Nat} (hj : AFoot k v j) : j < w.heap.size := by
 rcases hj with rfl | h1
 · exact h.box.lt
 exact (h.row.lt j h1).2
theorem AcAt.on (h : AcAt w k l v) (hb : Below w.heap.size w w') : AcAt w' k l v := h.same fun j hj => hb.block j (h.lt hj)
theorem AcAt.vk (h : AcAt w k l v) : v.ownBlock ≠ some k := ac_vk h.box h.row
theorem AcAt.at (h : AcAt w k l v) : ∃ ad cap, v = .slice ad l.length cap ∧ RowAt drK w ad l.length cap l := by
 obtain ⟨ad, cap, h1, h2, _⟩ := h.row.at drK_ok
 exact ⟨ad, cap, h1, h2⟩
theorem AcAt.past_map {km : Nat} (h : AcAt w k l v) (hg : w.grownBy w' (some km)) (hm : IsMap w km) : AcAt w' k l v := h.same fun j hj => hg.block j (h.lt hj) fun e => by
 obtain ⟨es, c, hm⟩ := hm
 rw [← Option.some.inj e] at hm
 rcases hj with rfl | h1
 · have hb := h.box
   unfold AcBox at hb
   rw [hm] at hb
   cases hb
 obtain ⟨cur, hc⟩ := ac_type h.row h1
 rw [hm] at hc
 cases hc
end
def AcR (F : Nat → Prop) (w : World) (a : Addr) (l : List Dr) : Prop := ∃ k v, a = ⟨k, 0, none⟩ ∧ AcAt w k l v ∧ ∀ j, F j ↔ AFoot k v j
def GivesAcPut (w : World) (k : Nat) (v : Value) (l : List Dr) (e : Ending) (w' : World) : Prop :=
 e = .returned (.tuple #[]) ∧ ∃ v', AcAt w' k l v' ∧ Kept w w' (AFoot k v) ∧ ∀ q, v'.ownBlock = some q → v.ownBlock = some q ∨ w.heap.size ≤ q
def ApartR (F : Nat → Prop) (m : PM) : Prop := m.p.last.length = 0 ∨ ∀ a, m.ad = some a → ¬ F a.block
theorem tcOk_kept {w w' : World} {kt km : Nat} {ms : List PM} {F : Nat → Prop} (h : TcOk w kt km ms) (hk : Kept w w' F) (h1 : ¬ F kt) (h2 : ¬ F km) (h3 : ∀ m ∈ ms, ApartR F m) : TcOk w' kt km ms := by
 refine ⟨h.box.same (hk.block kt h.box.lt h1), h.map.same (hk.block km h.map.lt h2), fun m hm => ?_⟩
 rcases h3 m hm with h4 | h4
 · exact ⟨(h.ins m hm).length, (h.ins m hm).fits, (h.ins m hm).room, .inl h4⟩
 exact hk.row (h.ins m hm) h4
theorem tc_kt {w : World} {kt km k : Nat} {l : List Dr} {v : Value} (ht : TcBox w kt km) (hm : IsMap w km) (h : AcAt w k l v) : ¬ AFoot k v kt ∧ ¬ AFoot k v km := by
 refine ⟨fun hj => ?_, fun hj => ?_⟩
 · unfold TcBox at ht
   rcases hj with e | h1
   · have hb := h.box
     unfold AcBox at hb
     rw [← e, ht] at hb
     simp at hb
   obtain ⟨cur, hc⟩ := ac_type h.row h1
   rw [ht] at hc
   simp [drK] at hc
 obtain ⟨es, c, hm⟩ := hm
 rcases hj with e | h1
 · have hb := h.box
   unfold AcBox at hb
   rw [← e, hm] at hb
   cases hb
 obtain ⟨cur, hc⟩ := ac_type h.row h1
 rw [hm] at hc
 cases hc
theorem acNew_any (w : World) : Calls Tryz.prog 123 #[] w fun e w' => ∃ k, e = .returned (.pointer (some ⟨k, 0, none⟩)) ∧ AcAt w' k [] (.slice none 0 0) ∧ w.heap.size ≤ k ∧ Below w.heap.size w w' := by
 go_enter Tryz.func123, Tryz.ntmps123
 go_wp2_with fail
 go_ret
 exact ⟨_, rfl, ⟨heap_alloc_new w _, ownRow_nil _ _ _⟩, Nat.le_refl _, (bal w _)⟩
theorem acPut_any (w : World) (k : Nat) (l : List Dr) (v : Value) (h : AcAt w k l v) (hn : l.length ≤ 1000000) (d : Dr) :
 Calls Tryz.prog 124 #[.pointer (some ⟨k, 0, none⟩), .agg #[.int .i64 d.prod, .int .i64 d.first, .int .i64 d.last]] w (GivesAcPut w k v (l ++ [d])) := by
 obtain ⟨x0, x1, x2⟩ := d
 simp only
 have HA := qh h
 have HN := qh hn
 obtain ⟨z, hz⟩ := exq (maxL l)
 have HZ := qh hz
 clear h hn hz
 go_enter Tryz.func124, Tryz.ntmps124
 go_upto_region 1 with fail
 obtain ⟨w1, hw1⟩ := exq (w.alloc (.cells #[.int .i64 x0, .int .i64 x1, .int .i64 x2] 116))
 obtain ⟨kb, hkb⟩ := exq w.heap.size
 have HB1 := hwq hw1
 have HD1 : Hid (DBox w1 kb ⟨x0, x1, x2⟩) := by rw [hw1, hkb]; exact dbox_new w ⟨x0, x1, x2⟩
 have HKB : Hid (kb = w.heap.size) := hkb
 have HA1 := qh (HA.out.on HB1.out)
 rw [← hw1, ← hkb]
 clear hw1 hkb
 have KS : Hid (∀ V, Below w1.heap.size w1 V → (fun (V : World) => V.cell? ⟨k, 0, none⟩ = some v ∧ V.cell? ⟨kb, 0, none⟩ = some (.int .i64 x0) ∧ V.cell? ⟨kb, 1, none⟩ = some (.int .i64 x1) ∧ V.cell? ⟨kb, 2, none⟩ = some (.int .i64 x2)) V) := fun V hV => ⟨(HA1.out.on hV).box.c0, (HD1.out.on hV).c0, (HD1.out.on hV).c1, (HD1.out.on hV).c2⟩
 refine zs [10] KS fun u0 HQ0 hHeld => ?_
 refine zt 0 ?_
 refine zt 1 ?_
 refine zt 2 ?_
 refine zt 3 ?_
 refine zt 4 ?_
 refine zt 5 ?_
 refine zr 6 (fun C hC => ?_)
 go_simp
 obtain ⟨u1, hu1⟩ := exq (u0.alloc (.cells #[.int .i64 x0, .int .i64 x1, .int .i64 x2] 116))
 obtain ⟨g1, hg1⟩ := exq u0.heap.size
 have hbb := wbq hu1
 have HQ1 : Hid (Below w1.heap.size w1 u1) := HQ0.out.trans (hbb.mono HQ0.out.size)
 have HRX : Hid (RowAt drK u1 (some ⟨g1, 0, none⟩) 1 1 [⟨x0, x1, x2⟩]) := by rw [hu1, hg1]; exact rowAt_lit drK_ok u0 [⟨x0, x1, x2⟩] (by simp) _ rfl 1 rfl
 rw [← hu1, ← hg1]
 clear hu1 hg1 hbb
 have hHeld := KS.out _ HQ1.out
 refine zc hC hHeld ?_
 clear hC C
 have HAU := qh (HA1.out.on HQ1.out)
 refine zr 7 (fun C hC => ?_)
 refine held_row (by rfl) drK_ok (.tmp 8) (.tmp 10) rfl 0 l [⟨x0, x1, x2⟩] v rfl HAU.out.row (Nat.zero_le _) (some ⟨g1, 0, none⟩) 1 1 rfl HRX.out (by have := HN.out; omega) ?_
 rintro v6 u2 hap
 obtain ⟨n6, hn6⟩ : ∃ n, (l ++ [(⟨x0, x1, x2⟩ : Dr)]).length = n := ⟨_, rfl⟩
 obtain ⟨ad6, cap6, hv6, _, _⟩ := OwnRow.row drK_ok hap.1 hn6
 have HV6 := qh hv6
 clear hn6 hv6
 have HAP := qh hap
 have hbk : AcBox u2 k v z := by rw [HZ.out]; exact HAU.out.box.same (hap.2.1.block k HAU.out.box.lt fun e => HAU.out.vk e.symm)
 have HBK := qh hbk
 have HDU : Hid (DBox u2 kb ⟨x0, x1, x2⟩) := (HD1.out.on HQ1.out).grown hap.2.1 fun e => by
  have h1 := (HA.out.row.lt kb e).2
  have := HKB.out
  omega
 have hs2 := hq KS u2 ⟨HBK.out.c0, HDU.out.c0, HDU.out.c1, HDU.out.c2⟩
 clear hap hbk
 have hHeld := hq KS u2 (hs2)
 refine zc hC hHeld ?_
 clear hC C
 refine zt 8 ?_
 refine zt 9 ?_
 have p0 := HBK.out.c0
 have f0 := HBK.out.free 0
 rw [HV6.out]
 refine zr 10 (fun C hC => ?_)
 go_simp
 refine zl hC ?_
 clear hC C
 refine zd ?_
 rw [← HV6.out]
 obtain ⟨w3, hw3⟩ := exq (u2.setCell ⟨k, 0, none⟩ v6)
 have hvk : v6.ownBlock ≠ some k := ac_vk HBK.out HAP.out.1
 have HBX3 : Hid (AcBox w3 k v6 z) := by rw [hw3]; exact HBK.out.s0 v6
 have HOW3 : Hid (OwnRow drK w3 0 v6 (l ++ [⟨x0, x1, x2⟩])) := by rw [hw3]; exact HAP.out.1.grown (grow_one u2 k 0 v6) fun q hq e => hvk (hq.trans e)
 have HKN : Hid (kb ≠ k) := by show kb ≠ k; have h1 := HA.out.box.lt; have := HKB.out; omega
 have HDX3 : Hid (DBox w3 kb ⟨x0, x1, x2⟩) := by rw [hw3]; exact box_off HDU.out (fun e => HKN.out e.symm) _
 have HKP3 : Hid (Kept w w3 (AFoot k v)) := by
  show Kept _ _ _
  rw [hw3]
  exact ((Kept.of_below (F := AFoot k v) (HB1.out.trans (HQ1.out.mono HB1.out.size))).trans (Kept.of_own (F := AFoot k v) HAP.out.2.1 fun q hq => .inl (.inr hq)) (fun i hi => .inl hi)).trans (Kept.of_grown (F := AFoot k v) (grow_one _ _ _ _) (.inl (.inl rfl))) fun i hi => .inl hi
 have HFT : Hid (∀ q, v6.ownBlock = some q → v.ownBlock = some q ∨ w.heap.size ≤ q) := fun q hq => (HAP.out.2.2.2 q hq).imp_right fun h => Nat.le_trans (Nat.le_trans HB1.out.size HQ1.out.size) h
 rw [← hw3]
 clear hw3 hvk p0 f0 hHeld KS hs2 HAP HBK HDU HAU HA1 HD1 HQ0 HQ1 HB1
 go_upto_region 2 with fail
 have hdr : Below w3.heap.size w3 w3.drew := (Below.refl _ w3).drew
 refine wp_region_noPanic ?_
 refine wp_region_z [10] (fun (V : World) => V.cell? ⟨k, 1, none⟩ = some (.int .i64 z) ∧ V.cell? ⟨kb, 2, none⟩ = some (.int .i64 x2)) (by kernel_rfl) ?_
 have hHeld : (fun (V : World) => V.cell? ⟨k, 1, none⟩ = some (.int .i64 z) ∧ V.cell? ⟨kb, 2, none⟩ = some (.int .i64 x2)) _ := ⟨(HBX3.out.same (hdr.block k HBX3.out.lt)).c1, (HDX3.out.on hdr).c2⟩
 obtain ⟨u0, hu0⟩ := exq w3.drew
 rw [← hu0] at hHeld hdr
 rw [← hu0]
 clear hu0
 have HQ0 := qh hdr
 clear hdr
 have HBU : Hid (AcBox u0 k v6 z) := HBX3.out.same (HQ0.out.block k HBX3.out.lt)
 refine zt 0 ?_
 refine zt 1 ?_
 refine zt 2 ?_
 refine zt 3 ?_
 refine zt 4 ?_
 refine zt 5 ?_
 refine zt 6 ?_
 refine zt 7 ?_
 refine zt 8 ?_
 refine zt 9 ?_
 have p1 := HBU.out.c1
 have f1 := HBU.out.free 1
 refine zr 10 (fun C hC => ?_)
 go_simp
 refine zl hC ?_
 clear hC C
 refine zd ?_
 have hmm : (if z < x2 then x2 else z) = max z x2 := by split <;> omega
 (try rw [hmm])
 clear hmm
 have hmx : AcBox (u0.setCell ⟨k, 1, none⟩ (.int .i64 (max z x2))) k v6 (maxL (l ++ [⟨x0, x1, x2⟩])) := by
  rw [maxL_snoc, ← HZ.out]
  exact HBU.out.s1 _
 obtain ⟨w4, hw4⟩ := exq (u0.setCell ⟨k, 1, none⟩ (.int .i64 (max z x2)))
 have hvk : v6.ownBlock ≠ some k := ac_vk HBX3.out HOW3.out
 have HBX4 : Hid (AcBox w4 k v6 (maxL (l ++ [⟨x0, x1, x2⟩]))) := by rw [hw4]; exact hmx
 have HOW4 : Hid (OwnRow drK w4 0 v6 (l ++ [⟨x0, x1, x2⟩])) := by rw [hw4]; exact (HOW3.out.on HQ0.out).grown (grow_one u0 k 1 _) fun q hq e => hvk (hq.trans e)
 have HKP4 : Hid (Kept w w4 (AFoot k v)) := by
  show Kept _ _ _
  rw [hw4]
  exact (HKP3.out.trans (Kept.of_below (F := AFoot k v) HQ0.out) (fun i hi => .inl hi)).trans (Kept.of_grown (F := AFoot k v) (grow_one _ _ _ _) (.inl (.inl rfl))) fun i hi => .inl hi
 rw [← hw4]
 clear hw4 hmx hvk p1 f1 hHeld
 go_wp2_with fail
 go_end0
 exact ⟨rfl, v6, ⟨HBX4.out, HOW4.out⟩, HKP4.out, HFT.out⟩
end Go.Proofs.YtjmfdildnojknaaGreat
namespace Go.Proofs.YtjmfdildnojknaaGreat
open Go.RowKit
open Go.AbMath
open Go.SeqMath
open Go.ProdMath
open Go.BatMath hiding AllB getD_lt take_all
def ApartsR (F : Nat → Prop) (ps : List PM) : Prop := ∀ m ∈ ps, ApartR F m
theorem aparts_new {w : World} {k : Nat} {l : List Dr} {v : Value} {ps ps2 : List PM} (h : ApartsR (AFoot k v) ps) (hat : AcAt w k l v) (hn : TcNew w ps ps2) : ApartsR (AFoot k v) ps2 := fun m hm => by
 rcases hn m hm with h1 | h1
 · exact h m h1
 exact .inr fun a ha hf => by have h2 := h1 a ha; have h3 := hat.lt hf; omega
theorem aparts_put {w : World} {k kt km : Nat} {v v' : Value} {ps : List PM} (h : ApartsR (AFoot k v) ps) (ht : TcOk w kt km ps) (hf : ∀ q, v'.ownBlock = some q → v.ownBlock = some q ∨ w.heap.size ≤ q) : ApartsR (AFoot k v') ps := fun m hm => by
 rcases h m hm with h1 | h1
 · exact .inl h1
 rcases Nat.eq_zero_or_pos m.p.last.length with h0 | h0
 · exact .inl h0
 refine .inr fun a ha hx => ?_
 rcases hx with h2 | h2
 · exact h1 a ha (.inl h2)
 rcases hf _ h2 with h3 | h3
 · exact h1 a ha (.inr h3)
 have h4 := (ht.ins m hm).lt h0 a ha
 omega
theorem acOf_any (w : World) (ad : Option Addr) (len cap : Nat) (ms : List BM) (h : BatsAt w ad len cap ms) (hL : len ≤ 5000) (hok : BatsOk (bats ms)) :
 Calls Tryz.prog 95 #[.slice ad len cap] w (AbMakes AcR w (foldR [] (bats ms))) := by
 have H := qh h
 have hlen := h.row.length
 obtain ⟨bs, hbs⟩ := exq (bats ms)
 have hbl : bs.length = len := by rw [hbs]; unfold bats; rw [List.length_map]; exact hlen
 have HGET : Hid (∀ (i : Nat) m, ms[i]? = some m → bs[i]? = some m.b) := by
  intro i m hm
  rw [hbs]; unfold bats
  rw [List.getElem?_map, hm]; rfl
 rw [← hbs] at hok
 rw [← hbs]
 have HOK := qh hok
 have HBL := qh hbl
 have HLM : Hid (len ≤ 5000) := hL
 clear h hbs hlen hok hbl
 go_enter Tryz.func95, Tryz.ntmps95
 go_wp2_with fail
 refine (acNew_any w).mono ?_
 rintro e w0 ⟨k, rfl, hat0, hk0, hb0⟩
 have HAT0 := qh hat0
 have HB0 := qh hb0
 have HK : Hid (w.heap.size ≤ k) := hk0
 clear hat0 hb0 hk0
 go_wp2_with fail
 refine (tcNew_any w0).mono ?_
 rintro e w1 ⟨kt, km, rfl, ht1, hb1, hk1, hk2⟩
 have HT1 := qh ht1
 have HAT1 := qh (HAT0.out.on hb1)
 have HB1 := qh (HB0.out.trans (hb1.mono HB0.out.size))
 have HKT : Hid (w.heap.size ≤ kt ∧ w.heap.size ≤ km) := ⟨Nat.le_trans HB0.out.size hk1, Nat.le_trans HB0.out.size hk2⟩
 clear ht1 hb1 hk1 hk2 HAT0 HB0
 go_wp2_with fail
 go_loopw [13] (fun v13 wr => ∃ j ps v, v13 = .int .i64 ((j : Nat) : Int) ∧ j ≤ len ∧ Hid (TcOk wr kt km ps) ∧ Hid (pds ps = foldP [] (bs.take j)) ∧ Hid (AcAt wr k (foldR [] (bs.take j)) v) ∧ Hid (∀ q, v.ownBlock = some q → w.heap.size ≤ q) ∧ Hid (ApartsR (AFoot k v) ps) ∧ Hid (Below w.heap.size w wr)) (fun v13 _ => len - (intOf v13).toNat)
 case atStart => exact ⟨0, [], _, rfl, Nat.zero_le _, HT1.out, rfl, HAT1.out, (fun q hq => by cases hq), (fun m hm => by cases hm), HB1.out⟩
 obtain ⟨j, ps, v, rfl, hj, HT, HPS, HAT, HFT, HSEP, HB⟩ := hrel
 clear HT1 HB1 HAT1
 obtain ⟨wo, hwo⟩ := exq wr
 subst hwo
 by_cases hlt : j < len
 rotate_left
 · have hd : decide (j < len) = false := decide_eq_false hlt
   have hjl : j = len := by omega
   have HFIN : Hid (AcAt wo k (foldR [] bs) v) := by
    have h1 := HAT.out
    rw [hjl, ← HBL.out, List.take_length] at h1
    exact h1
   clear HPS hjl HAT
   go_wp2_with fail
   go_ret
   refine ⟨⟨k, 0, none⟩, AFoot k v, rfl, ⟨k, v, rfl, HFIN.out, fun j => Iff.rfl⟩, fun i hi => ?_, HB.out⟩
   rcases hi with rfl | h1
   · exact HK.out
   exact HFT.out i h1
 have hd : decide (j < len) = true := decide_eq_true hlt
 have hjl : (j : Int) < (len : Int) := by omega
 obtain ⟨bk, off, m, rfl, hbk, hm, hrec, c0, c1, c2, c3, c4, c5, c6⟩ := (H.out.keep HB.out).get hlt
 have hbm := HGET.out j m hm
 have htk : bs.take (j + 1) = bs.take j ++ [m.b] := by
  rw [List.take_add_one, hbm]; rfl
 have HTK := qh htk
 obtain ⟨hk1, hk2, hk3⟩ := HOK.out m.b (List.mem_of_getElem? hbm)
 have HK1 := qh hk1
 have HFEW : Hid (fewP (pds ps)) := by rw [HPS.out]; exact foldP_few _ (fun p hp => by cases hp)
 have HASC : Hid (Asc (pds ps)) := by rw [HPS.out]; exact fold_asc _ asc_nil
 have HRC := qh hrec
 have HDL : Hid ((foldR [] (bs.take j)).length ≤ 1000000) := by
  show _ ≤ _
  have h1 := drops_len (bs.take j) []
  have h2 := HBL.out
  have h3 := HLM.out
  rw [List.length_take] at h1
  omega
 clear hbm htk hk1 hm hrec hbk
 go_upto_region 5 with fail
 obtain ⟨W1, hW1⟩ := exq (wo.alloc (.cells #[.int .i64 m.b.base, .int .i64 m.b.prod, .int .i64 m.b.epoch, .int .i64 m.b.seq, .bool m.b.txn, .int .i64 m.b.marker, .slice m.ad m.b.recs.length m.cap] 29))
 have hb1 := wbq hW1
 obtain ⟨K, hK⟩ := exq wo.heap.size
 have HX1 := bxq hW1 hK
 have HT1 := qh (HT.out.keep hb1)
 have HAT1 := qh (HAT.out.on hb1)
 have HB1 := qh (HB.out.trans (hb1.mono HB.out.size))
 have HRC1 := qh (HRC.out.keep hb1)
 rw [← hW1, ← hK]
 clear hW1 hb1 hK c0 c1 c2 c3 c4 c5 c6
 obtain ⟨p0, p1, p2, p3, p4, p5, p6⟩ := HX1.out.cs
 obtain ⟨l', hl'⟩ : ∃ l', tapplyD (pds ps) m.b = l' := ⟨_, rfl⟩
 obtain ⟨dr, hdr⟩ : ∃ dr, tdropD (pds ps) m.b = dr := ⟨_, rfl⟩
 have CA := tcApply2_any W1 kt km ps HT1.out HASC.out HFEW.out m.b m.ad m.b.recs.length m.cap HRC1.out HK1.out hk3 hk2
 rw [hl', hdr] at CA
 have CAH := qh CA
 have HP2 : Hid (l' = foldP [] (bs.take (j + 1))) := by show _ = _; rw [HTK.out, foldP_snoc, ← HPS.out, hl']
 have HD2 : Hid (foldR [] (bs.take (j + 1)) = foldR [] (bs.take j) ++ dr.toList) := by show _ = _; rw [HTK.out, foldR_snoc, ← HPS.out, hdr]
 obtain ⟨L, hLL⟩ := exq (foldR [] (bs.take j))
 rw [← hLL] at HAT1 HDL HD2
 clear CA hl' hdr HPS HTK HFEW HASC HK1 HAT hLL
 go_wp2_with fail
 refine CAH.out.mono ?_
 rintro e w2 ⟨⟨x0, x1, x2⟩, ps2, rfl, hdd, ht2, hp2, hg2, hnew⟩
 have HT2 := qh ht2
 have HAT2 := qh (HAT1.out.past_map hg2 HT1.out.map.is)
 have HSEP2 := qh (aparts_new HSEP.out HAT1.out hnew)
 have HP3 : Hid (pds ps2 = foldP [] (bs.take (j + 1))) := by show _ = _; rw [hp2, HP2.out]
 have HB2 : Hid (Below w.heap.size w w2) := HB1.out.trans (below_grown hg2 HKT.out.2 HB1.out.size)
 have HDD := qh hdd
 clear ht2 hp2 hg2 CAH p0 p1 p2 p3 p4 p5 p6 HT1 HX1 HP2 hdd HT HB HRC hnew HSEP HB1 HAT1
 simp only
 cases dr with
 | none =>
   have HL2 : Hid (foldR [] (bs.take (j + 1)) = L) := by show _ = _; rw [HD2.out]; exact List.append_nil _
   simp only [Option.isSome_none]
   go_upto_region 6 with fail
   obtain ⟨W3, hW3⟩ := exq (w2.alloc (.cells #[.int .i64 x0, .int .i64 x1, .int .i64 x2] 116))
   have hb3 := wbq hW3
   have HT3 := qh (HT2.out.keep hb3)
   have HAT3 : Hid (AcAt W3 k (foldR [] (bs.take (j + 1))) v) := by rw [HL2.out]; exact HAT2.out.on hb3
   have HB3 := qh (HB2.out.trans (hb3.mono HB2.out.size))
   rw [← hW3]
   clear hW3 hb3 HT2 HAT2 HB2 HD2
   go_wp2_with fail
   go_roundw
   case rel => exact ⟨j + 1, ps2, v, rfl, by omega, HT3.out, HP3.out, HAT3.out, HFT.out, HSEP2.out, HB3.out⟩
   simp [intOf]; omega
 | some q =>
   have HL2 : Hid (foldR [] (bs.take (j + 1)) = L ++ [⟨x0, x1, x2⟩]) := by
    show _ = _
    rw [HD2.out]
    have h1 : q = ⟨x0, x1, x2⟩ := HDD.out
    rw [h1]
    rfl
   simp only [Option.isSome_some]
   go_upto_region 6 with fail
   obtain ⟨W3, hW3⟩ := exq (w2.alloc (.cells #[.int .i64 x0, .int .i64 x1, .int .i64 x2] 116))
   obtain ⟨P, hP⟩ := exq w2.heap.size
   have hb3 := wbq hW3
   have HPB : Hid (DBox W3 P ⟨x0, x1, x2⟩) := by rw [hW3, hP]; exact dbox_new w2 ⟨x0, x1, x2⟩
   have HT3 := qh (HT2.out.keep hb3)
   have HAT3 := qh (HAT2.out.on hb3)
   have HB3 := qh (HB2.out.trans (hb3.mono HB2.out.size))
   rw [← hW3, ← hP]
   clear hW3 hP hb3 HT2 HAT2 HB2 HD2
   have r0 := HPB.out.c0
   have r1 := HPB.out.c1
   have r2 := HPB.out.c2
   go_wp2_with fail
   refine (acPut_any W3 k L v HAT3.out HDL.out ⟨x0, x1, x2⟩).mono ?_
   rintro e w4 ⟨rfl, v4, hat4, hkp4, hft4⟩
   have hap := tc_kt HT3.out.box HT3.out.map.is HAT3.out
   have HT4 := qh (tcOk_kept HT3.out hkp4 hap.1 hap.2 HSEP2.out)
   have HAT4 : Hid (AcAt w4 k (foldR [] (bs.take (j + 1))) v4) := by rw [HL2.out]; exact hat4
   have HSEP4 := qh (aparts_put HSEP2.out HT3.out hft4)
   have HB4 : Hid (Below w.heap.size w w4) := HB3.out.trans (hkp4.below (fun i hi => by
    rcases hi with rfl | h1
    · exact HK.out
    exact HFT.out i h1) HB3.out.size)
   have HFT4 : Hid (∀ q, v4.ownBlock = some q → w.heap.size ≤ q) := fun q hq => by
    rcases hft4 q hq with h1 | h1
    · exact HFT.out q h1
    exact Nat.le_trans HB3.out.size h1
   clear hat4 hkp4 hft4 hap r0 r1 r2 HPB HT3 HAT3 HB3 HSEP2 HFT
   go_wp2_with fail
   go_roundw
   case rel => exact ⟨j + 1, ps2, v4, rfl, by omega, HT4.out, HP3.out, HAT4.out, HFT4.out, HSEP4.out, HB4.out⟩
   simp [intOf]; omega
end Go.Proofs.YtjmfdildnojknaaGreat
namespace Go.Proofs.YtjmfdildnojknaaGreat
open Go.RowKit
open Go.AbMath
open Go.ProdMath
open Go.BatMath hiding AllB getD_lt take_all
theorem acWithin_any (F : Nat → Prop) (w : World) (a : Addr) (l : List Dr) (fr t0 : Int) (h : AcR F w a l) (hok : DrsOk l) (hn : l.length ≤ 1000000) :
 Calls Tryz.prog 96 #[.pointer (some a), .int .i64 fr, .int .i64 t0] w (GivesDrs w (withinD l fr t0)) := by
 obtain ⟨k, v, rfl, h, _⟩ := h
 obtain ⟨ad, cap, rfl, hr⟩ := h.at
 have q0 := h.box.c0
 obtain ⟨n, hnl⟩ : ∃ n, l.length = n := ⟨_, rfl⟩
 rw [hnl] at hr q0 hn
 have H := qh hr
 have HNL := qh hnl
 have HOK : Hid (∀ d ∈ l, d.first < d.last) := fun d hd => by have := hok.each d hd; unfold DrOk at this; omega
 clear h hr hnl hok
 go_enter Tryz.func96, Tryz.ntmps96
 go_wp2_with fail
 clear q0
 go_loopw [7, 16] (fun v7 v16 wr => ∃ (j : Nat) (u : Value), u = v7 ∧ v16 = .int .i64 (j : Int) ∧ j ≤ n ∧ Hid (OwnRow drK wr w.heap.size u (withinD (l.take j) fr t0)) ∧ Hid (Below w.heap.size w wr)) (fun _ v16 _ => n - (intOf v16).toNat)
 case atStart => exact ⟨0, _, rfl, rfl, Nat.zero_le _, ownRow_nil _ _ _, Below.refl _ _⟩
 obtain ⟨j, u, rfl, rfl, hj, HO, HB⟩ := hrel
 obtain ⟨wo, hwo⟩ := exq wr
 subst hwo
 by_cases hlt : j < n
 rotate_left
 · have hd : decide (j < n) = false := decide_eq_false hlt
   have hjn : j = n := by omega
   have HFIN : Hid (OwnRow drK wo w.heap.size u (withinD l fr t0)) := by
    have h1 := HO.out
    rw [hjn, List.take_of_length_le (by rw [HNL.out]; exact Nat.le_refl _)] at h1
    exact h1
   clear hjn
   obtain ⟨ad9, cap9, rfl, hr9, _⟩ := OwnRow.row drK_ok HFIN.out rfl
   have HR9 := qh hr9
   clear hr9
   go_wp2
   go_ret
   exact ⟨_, _, _, rfl, HR9.out, HB.out⟩
 have hd : decide (j < n) = true := decide_eq_true hlt
 have hjl : (j : Int) < (n : Int) := by omega
 obtain ⟨bk, off, x, rfl, hbk, hx, p0, p1, p2⟩ := dr_get (H.out.keep HB.out) hlt
 have HT0 := qh (within_take fr t0 hx)
 have HXO := HOK.out x (List.mem_of_getElem? hx)
 have HLEN : Hid ((withinD (l.take j) fr t0).length ≤ 1000000) := by
  show _ ≤ _
  have h1 := within_len (l.take j) fr t0
  rw [List.length_take] at h1
  omega
 obtain ⟨x0, x1, x2⟩ := x
 simp only at p0 p1 p2 HXO
 clear hx
 go_upto_region 5 with fail
 obtain ⟨W1, hW1⟩ := exq (wo.alloc (.cells #[.int .i64 x0, .int .i64 x1, .int .i64 x2] 116))
 obtain ⟨P, hP⟩ := exq wo.heap.size
 have hb := wbq hW1
 have HP : Hid (DBox W1 P ⟨x0, x1, x2⟩) := by rw [hW1, hP]; exact dbox_new wo ⟨x0, x1, x2⟩
 have HO1 := qh (HO.out.on hb)
 have HB1 := qh (HB.out.trans (hb.mono HB.out.size))
 rw [← hW1, ← hP]
 clear hW1 hP hb p0 p1 p2 hbk HO HB
 have r0 := HP.out.c0
 have r1 := HP.out.c1
 have r2 := HP.out.c2
 obtain ⟨m, hm⟩ := exq (max x1 fr)
 have hm1 : max x1 fr = m := hm.symm
 have hcond : (fr < t0 ∧ x1 < t0 ∧ fr ≤ x2) ↔ (m ≤ x2 ∧ m < t0) := by omega
 have HT : Hid (withinD (l.take (j + 1)) fr t0 = withinD (l.take j) fr t0 ++ if m ≤ x2 ∧ m < t0 then [⟨x0, x1, x2⟩] else []) := by
  show _ = _
  rw [HT0.out]
  congr 1
  by_cases hc : m ≤ x2 ∧ m < t0
  · rw [if_pos hc, if_pos (hcond.2 hc)]
  rw [if_neg hc, if_neg (fun h => hc (hcond.1 h))]
 have hm2 : (if x1 < fr then fr else x1) = m := by rw [hm]; split <;> omega
 clear hcond hm HXO HT0
 by_cases hc : m ≤ x2 ∧ m < t0
 rotate_left
 · have HO7 : Hid (OwnRow drK W1 w.heap.size u (withinD (l.take (j + 1)) fr t0)) := by
    show OwnRow _ _ _ _ _
    rw [HT.out, if_neg hc, List.append_nil]
    exact HO1.out
   have hcs : decide (m ≤ x2) = false ∨ (decide (m ≤ x2) = true ∧ decide (m < t0) = false) := by
    simp only [decide_eq_true_eq, decide_eq_false_iff_not]
    omega
   clear hc HT HO1
   rcases hcs with d1 | ⟨d1, d2⟩
   · go_wp2
     go_roundw
     case rel => exact ⟨j + 1, u, rfl, rfl, by omega, HO7.out, HB1.out⟩
     simp [intOf]; omega
   go_wp2
   go_roundw
   case rel => exact ⟨j + 1, u, rfl, rfl, by omega, HO7.out, HB1.out⟩
   simp [intOf]; omega
 obtain ⟨h1, h2⟩ := hc
 have d1 : decide (m ≤ x2) = true := decide_eq_true h1
 have d2 : decide (m < t0) = true := decide_eq_true h2
 have HT2 : Hid (withinD (l.take (j + 1)) fr t0 = withinD (l.take j) fr t0 ++ [⟨x0, x1, x2⟩]) := by show _ = _; rw [HT.out, if_pos ⟨h1, h2⟩]
 clear h1 h2 HT
 obtain ⟨W6, hW6⟩ := exq (W1.alloc (.cells #[.int .i64 x0, .int .i64 x1, .int .i64 x2] 116))
 have hb6 := wbq hW6
 have HLIT : Hid (RowAt drK W6 (some ⟨W1.heap.size, 0, none⟩) 1 1 [⟨x0, x1, x2⟩]) := by
  show RowAt _ _ _ _ _ _
  rw [hW6]
  exact rowAt_lit drK_ok W1 [⟨x0, x1, x2⟩] (by simp) _ rfl 1 rfl
 have HO6 := qh (HO1.out.on hb6)
 have HB6 := qh (HB1.out.trans (hb6.mono HB1.out.size))
 have HW6 := qh hW6
 clear hb6 hW6
 go_wp2_with (at_builtin; rw [← HW6.out]; refine list_row (by rfl) drK_ok (.tmp 33) (.tmp 35) rfl w.heap.size (withinD (l.take j) fr t0) [⟨x0, x1, x2⟩] u rfl HO6.out HB6.out.size (some ⟨W1.heap.size, 0, none⟩) 1 1 rfl HLIT.out (by have := HLEN.out; omega) ?_)
 intro v7 w7 hap
 have HO7 : Hid (OwnRow drK w7 w.heap.size v7 (withinD (l.take (j + 1)) fr t0)) := by
  show OwnRow _ _ _ _ _
  rw [HT2.out]
  exact hap.1
 have HB7 : Hid (Below w.heap.size w w7) := appended_below hap HO6.out HB6.out (Nat.le_refl _) HB6.out.size
 clear hap HO6 HB6 HLIT HW6 HO1 HB1 hm1 hm2
 go_wp2
 go_roundw
 case rel => exact ⟨j + 1, v7, rfl, rfl, by omega, HO7.out, HB7.out⟩
 simp [intOf]; omega
end Go.Proofs.YtjmfdildnojknaaGreat
namespace Go.Proofs.YtjmfdildnojknaaGreat
open Go.RowKit
open Go.FoMath
open Go.AbMath (withinD DrsOk)
open Go.ProdMath
open Go.BatMath hiding AllB getD_lt take_all
theorem resultsFcFetch {tmps : Array Value} {B : Nat} {W : World} {v0 v1 : Value} {x2 x3 : Int} {x : Value} (h : FBox W B v0 v1 x2 x3) (ht : tmps.getD 10 undef = .pointer (some ⟨B, 0, none⟩)) (hx : tmps.getD 11 undef = x) :
 (results Tryz.f61 tmps).run Tryz.prog W = .ok (.tuple #[.agg #[v0, v1, .int .i64 x2, .int .i64 x3], x]) W := by
 rw [results_cell_tmp (p := 10) (u := 11) (ty := 73) Tryz.results61, ht]
 have hl := run_loadVar_row (P := Tryz.prog) W B 73 73 _ (0, 0) _ h Tryz.underlying73 rfl (by kernel_rfl)
 simp only [asAddr, Sem.run_pure, Result.andThen, hl, hx]
theorem fcFetch_any (w : World) (start : Int) (ad : Option Addr) (len cap : Nat) (ms : List BM) (h : BatsAt w ad len cap ms) (hL : len ≤ 5000) (hr : FoRow start (bats ms)) (hdr : DrsOk (foldR [] (bats ms))) (o n : Int) (only : Bool) :
 Calls Tryz.prog 61 #[.int .i64 start, .slice ad len cap, .int .i64 o, .int .i64 n, .bool only] w (GivesFd w (fetchD start (bats ms) o n only)) := by
 have H := qh h
 have HR := qh hr
 have HLL : Hid (len ≤ 5000) := hL
 have HDOK := qh hdr
 clear h hr hL hdr
 obtain ⟨en, hen⟩ := exq (endD start (bats ms))
 obtain ⟨st, hst⟩ := exq (stableD start (bats ms))
 have HEN := qh hen
 have HST := qh hst
 clear hen hst
 go_enter Tryz.func61, Tryz.ntmps61
 go_upto_region 1 with fail
 obtain ⟨W0, hW0⟩ := exq (w.alloc (.cells #[.slice none 0 0, .slice none 0 0, .int .i64 0, .int .i64 0] 73))
 obtain ⟨R, hR⟩ := exq w.heap.size
 have HF0 : Hid (FBox W0 R (.slice none 0 0) (.slice none 0 0) 0 0) := by rw [hW0, hR]; exact fbox_new w _ _ _ _
 have HB0 := hwq hW0
 have HRW : Hid (w.heap.size ≤ R) := by show _ ≤ _; rw [hR]; exact Nat.le_refl _
 (try rw [← hW0, ← hR])
 clear hW0 hR
 have f0 := HF0.out.free 0
 have f1 := HF0.out.free 1
 have f2 := HF0.out.free 2
 have f3 := HF0.out.free 3
 have r0 := HF0.out.c0
 have r1 := HF0.out.c1
 have r2 := HF0.out.c2
 have r3 := HF0.out.c3
 have HZ : Hid (FBox ((((W0.setCell ⟨R, 0, none⟩ (.slice none 0 0)).setCell ⟨R, 1, none⟩ (.slice none 0 0)).setCell ⟨R, 2, none⟩ (.int .i64 0)).setCell ⟨R, 3, none⟩ (.int .i64 0)) R (.slice none 0 0) (.slice none 0 0) 0 0 ∧ Below w.heap.size w ((((W0.setCell ⟨R, 0, none⟩ (.slice none 0 0)).setCell ⟨R, 1, none⟩ (.slice none 0 0)).setCell ⟨R, 2, none⟩ (.int .i64 0)).setCell ⟨R, 3, none⟩ (.int .i64 0))) :=
  ⟨(((HF0.out.s0 _).s1 _).s2 0).s3 0, (((HB0.out.setCell HRW.out _).setCell HRW.out _).setCell HRW.out _).setCell HRW.out _⟩
 have hcs : n < 1 ∨ (¬ n < 1 ∧ 64 < n) ∨ (¬ n < 1 ∧ ¬ 64 < n) := by omega
 rcases hcs with h1 | ⟨h1, h2⟩ | ⟨h1, h2⟩
 · have hd : decide (n < 1) = true := decide_eq_true h1
   have HV : Hid (fetchD start (bats ms) o n only = (Fd.zero, 1)) := if_pos (.inl h1)
   clear h1
   go_wp2
   refine bodyPost_ret (v := .tuple #[.agg #[.slice none 0 0, .slice none 0 0, .int .i64 0, .int .i64 0], .int .i64 1]) (resultsFcFetch HZ.out.1 rfl rfl) rfl ?_
   rw [HV.out]
   exact ⟨_, rfl, ⟨none, 0, 0, none, 0, 0, rfl, rowAt_nil _, rowAt_nil _⟩, HZ.out.2⟩
 · have hd : decide (n < 1) = false := decide_eq_false h1
   have hd2 : decide (64 < n) = true := decide_eq_true h2
   have HV : Hid (fetchD start (bats ms) o n only = (Fd.zero, 1)) := if_pos (.inr h2)
   clear h1 h2
   go_wp2
   refine bodyPost_ret (v := .tuple #[.agg #[.slice none 0 0, .slice none 0 0, .int .i64 0, .int .i64 0], .int .i64 1]) (resultsFcFetch HZ.out.1 rfl rfl) rfl ?_
   rw [HV.out]
   exact ⟨_, rfl, ⟨none, 0, 0, none, 0, 0, rfl, rowAt_nil _, rowAt_nil _⟩, HZ.out.2⟩
 have hd : decide (n < 1) = false := decide_eq_false h1
 have hd2 : decide (64 < n) = false := decide_eq_false h2
 obtain ⟨nn, rfl⟩ : ∃ nn : Nat, n = (nn : Int) := ⟨n.toNat, by omega⟩
 have hn1 : 1 ≤ nn := by omega
 have hn64 : nn ≤ 64 := by omega
 have HE1 := qh (fcEnd_any W0 start ad len cap ms (H.out.keep HB0.out) (Nat.le_trans HLL.out (by decide)) HR.out.ok _ HEN.out.symm)
 clear HZ
 go_wp2_with fail
 refine HE1.out.mono ?_
 rintro e w1 ⟨rfl, hb⟩
 have HB1 := qh (HB0.out.trans (hb.mono HB0.out.size))
 have HF1 := qh (HF0.out.on hb)
 clear hb HE1 HB0 HF0 f0 f1 f2 f3 r0 r1 r2 r3
 have f0 := HF1.out.free 0
 have f1 := HF1.out.free 1
 have f2 := HF1.out.free 2
 have f3 := HF1.out.free 3
 have r0 := HF1.out.c0
 have r1 := HF1.out.c1
 have r2 := HF1.out.c2
 have r3 := HF1.out.c3
 have HZ : Hid (FBox ((((w1.setCell ⟨R, 0, none⟩ (.slice none 0 0)).setCell ⟨R, 1, none⟩ (.slice none 0 0)).setCell ⟨R, 2, none⟩ (.int .i64 0)).setCell ⟨R, 3, none⟩ (.int .i64 0)) R (.slice none 0 0) (.slice none 0 0) 0 0 ∧ Below w.heap.size w ((((w1.setCell ⟨R, 0, none⟩ (.slice none 0 0)).setCell ⟨R, 1, none⟩ (.slice none 0 0)).setCell ⟨R, 2, none⟩ (.int .i64 0)).setCell ⟨R, 3, none⟩ (.int .i64 0))) :=
  ⟨(((HF1.out.s0 _).s1 _).s2 0).s3 0, (((HB1.out.setCell HRW.out _).setCell HRW.out _).setCell HRW.out _).setCell HRW.out _⟩
 by_cases h3 : o < start
 · have hd3 : decide (o < start) = true := decide_eq_true h3
   have HV : Hid (fetchD start (bats ms) o (nn : Int) only = (Fd.zero, 20)) := by
    show fetchD _ _ _ _ _ = _
    unfold fetchD
    rw [if_neg (by omega), if_pos (.inl h3)]
   clear h1 h2 h3
   go_wp2
   refine bodyPost_ret (v := .tuple #[.agg #[.slice none 0 0, .slice none 0 0, .int .i64 0, .int .i64 0], .int .i64 20]) (resultsFcFetch HZ.out.1 rfl rfl) rfl ?_
   rw [HV.out]
   exact ⟨_, rfl, ⟨none, 0, 0, none, 0, 0, rfl, rowAt_nil _, rowAt_nil _⟩, HZ.out.2⟩
 have hd3 : decide (o < start) = false := decide_eq_false h3
 by_cases h4 : en < o
 · have hd4 : decide (en < o) = true := decide_eq_true h4
   have HV : Hid (fetchD start (bats ms) o (nn : Int) only = (Fd.zero, 20)) := by
    show fetchD _ _ _ _ _ = _
    unfold fetchD
    rw [if_neg (by omega), ← HEN.out, if_pos (.inr h4)]
   clear h1 h2 h3 h4
   go_wp2
   refine bodyPost_ret (v := .tuple #[.agg #[.slice none 0 0, .slice none 0 0, .int .i64 0, .int .i64 0], .int .i64 20]) (resultsFcFetch HZ.out.1 rfl rfl) rfl ?_
   rw [HV.out]
   exact ⟨_, rfl, ⟨none, 0, 0, none, 0, 0, rfl, rowAt_nil _, rowAt_nil _⟩, HZ.out.2⟩
 have hd4 : decide (en < o) = false := decide_eq_false h4
 clear r0 r1 r2 r3 f0 f1 f2 f3 HZ
 go_wp2_with fail
 refine (fcStable_any w1 start ad len cap ms (H.out.keep HB1.out) HLL.out HR.out).mono ?_
 rintro e w2 ⟨rfl, hb⟩
 have HB2 := qh (HB1.out.trans (hb.mono HB1.out.size))
 have HF2 := qh (HF1.out.on hb)
 rw [← HST.out]
 clear hb HB1 HF1
 go_upto_region 7 with fail
 obtain ⟨W3, hW3⟩ := exq (w2.alloc (.cells #[.slice none 0 0, .slice none 0 0, .int .i64 0, .int .i64 st] 73))
 obtain ⟨F, hF⟩ := exq w2.heap.size
 have hb3 := wbq hW3
 have HX3 : Hid (FBox W3 F (.slice none 0 0) (.slice none 0 0) 0 st) := by rw [hW3, hF]; exact fbox_new w2 _ _ _ _
 have HF3 := qh (HF2.out.on hb3)
 have HB3 := qh (HB2.out.trans (hb3.mono HB2.out.size))
 have HFW : Hid (w.heap.size ≤ F) := by show _ ≤ _; rw [hF]; exact HB2.out.size
 have HFR : Hid (F ≠ R) := by show _ ≠ _; rw [hF]; exact Nat.ne_of_gt HF2.out.lt
 (try rw [← hW3, ← hF])
 clear hW3 hF hb3 HB2 HF2
 have HNR : Hid (¬ ((nn : Int) < 1 ∨ 64 < (nn : Int)) ∧ ¬ (o < start ∨ en < o)) := by show _ ∧ _; constructor <;> omega
 clear h1 h2 h3 h4
 cases only with
 | false =>
   go_wp2_with fail
   refine (fcRecords_any W3 start ad len cap ms (H.out.keep HB3.out) HLL.out HR.out.few o en).mono ?_
   rintro e w5 ⟨qa, qn, qc, rfl, hrow, hfar, hb⟩
   have HB5 := qh (HB3.out.trans (hb.mono HB3.out.size))
   have HF5 := qh (HF3.out.on hb)
   have HX5 := qh (HX3.out.on hb)
   obtain ⟨rs, hrs⟩ := exq (recordsD (bats ms) o en)
   rw [← hrs] at hrow
   have HRS := qh hrs
   have HQ := qh hrow
   have hqn : rs.length = qn := hrow.length
   have HFAR : Hid (∀ a, qa = some a → a.block ≠ F ∧ a.block ≠ R) := fun a ha => by have h5 := (hfar a ha).1; have h6 := HX3.out.lt; have h7 := HF3.out.lt; exact ⟨by omega, by omega⟩
   have HQN := qh hqn
   have hqb : qn ≤ 80000 := by
    have h5 := recordsD_few (a := o) (z := en) (l := bats ms) (fun b hb => (HR.out.few b hb).2.2)
    have h6 : (bats ms).length = len := by unfold bats; rw [List.length_map]; exact H.out.row.length
    have h7 := HLL.out
    rw [← hrs, h6, hqn] at h5
    omega
   obtain ⟨mx, hmx⟩ := exq (max en o)
   have HMX := qh hmx
   clear hb hrs hrow hfar hqn hmx HB3 HF3 HX3
   have x0 := HX5.out.c0
   have x2 := HX5.out.c2
   have g0 := HX5.out.free 0
   have g2 := HX5.out.free 2
   go_upto_region 10 with fail
   obtain ⟨mv, hmv⟩ : ∃ mv : Int, mv = (if o < en then en else o) := ⟨_, rfl⟩
   rw [← hmv]
   have HMV : Hid (mv = mx) := by show _ = _; rw [hmv, HMX.out]; split <;> omega
   obtain ⟨W6, hW6⟩ : ∃ y, y = (w5.setCell ⟨F, 0, none⟩ (.slice qa qn qc)).setCell ⟨F, 2, none⟩ (.int .i64 mv) := ⟨_, rfl⟩
   have HX6 : Hid (FBox W6 F (.slice qa qn qc) (.slice none 0 0) mv st) := by rw [hW6]; exact (HX5.out.s0 _).s2 _
   have HF6 : Hid (FBox W6 R (.slice none 0 0) (.slice none 0 0) 0 0) := by rw [hW6]; exact (HF5.out.off HFR.out _).off HFR.out _
   have HB6 : Hid (Below w.heap.size w W6) := by rw [hW6]; exact (HB5.out.setCell HFW.out _).setCell HFW.out _
   have HQ6 : Hid (RowAt gtK W6 qa qn qc rs) := by rw [hW6]; exact (HQ.out.off (fun a ha => (HFAR.out a ha).1) _ _).off (fun a ha => (HFAR.out a ha).1) _ _
   rw [← hW6]
   clear hW6 hmv HX5 HF5 HB5 HQ x0 x2 g0 g2
   have x0 := HX6.out.c0
   by_cases hq : nn ≤ qn
   rotate_left
   · have hdq : decide (nn ≤ qn) = false := decide_eq_false hq
     have hdqi : decide ((nn : Int) ≤ (qn : Int)) = false := decide_eq_false (by omega)
     have HNX : Hid (mv = nextD rs nn en o) := by show _ = _; rw [HMV.out, HMX.out, next_none (by rw [HQN.out]; omega)]
     have HQT : Hid (RowAt gtK W6 qa qn qc (rs.take nn)) := by show RowAt _ _ _ _ _ _; rw [List.take_of_length_le (by rw [HQN.out]; omega)]; exact HQ6.out
     clear hq x0 HQ6
     have y0 := HX6.out.c0
     have y1 := HX6.out.c1
     have y2 := HX6.out.c2
     have y3 := HX6.out.c3
     have z0 := HF6.out.c0
     have g0 := HF6.out.free 0
     have z1 := HF6.out.c1
     have g1 := HF6.out.free 1
     have z2 := HF6.out.c2
     have g2 := HF6.out.free 2
     have z3 := HF6.out.c3
     have g3 := HF6.out.free 3
     have HZ : Hid (FBox ((((W6.setCell ⟨R, 0, none⟩ (.slice qa qn qc)).setCell ⟨R, 1, none⟩ (.slice none 0 0)).setCell ⟨R, 2, none⟩ (.int .i64 mv)).setCell ⟨R, 3, none⟩ (.int .i64 st)) R (.slice qa qn qc) (.slice none 0 0) mv st) := (((HF6.out.s0 _).s1 _).s2 _).s3 _
     have HZB : Hid (Below w.heap.size w ((((W6.setCell ⟨R, 0, none⟩ (.slice qa qn qc)).setCell ⟨R, 1, none⟩ (.slice none 0 0)).setCell ⟨R, 2, none⟩ (.int .i64 mv)).setCell ⟨R, 3, none⟩ (.int .i64 st))) := (((HB6.out.setCell HRW.out _).setCell HRW.out _).setCell HRW.out _).setCell HRW.out _
     have hfq : ∀ a, qa = some a → a.block ≠ R := fun a ha => (HFAR.out a ha).2
     have HZQ : Hid (RowAt gtK ((((W6.setCell ⟨R, 0, none⟩ (.slice qa qn qc)).setCell ⟨R, 1, none⟩ (.slice none 0 0)).setCell ⟨R, 2, none⟩ (.int .i64 mv)).setCell ⟨R, 3, none⟩ (.int .i64 st)) qa qn qc (rs.take nn)) := (((HQT.out.off hfq _ _).off hfq _ _).off hfq _ _).off hfq _ _
     clear hfq
     have HVV : Hid (fetchD start (bats ms) o (nn : Int) false = (⟨rs.take nn, [], mv, st⟩, 0)) := by
      show fetchD _ _ _ _ _ = _
      unfold fetchD
      rw [if_neg HNR.out.1, ← HEN.out, if_neg HNR.out.2, ← HST.out]
      simp only [Int.toNat_natCast, if_false, Bool.false_eq_true]
      rw [← HRS.out, ← HNX.out]
     go_wp2
     refine bodyPost_ret (v := .tuple #[.agg #[.slice qa qn qc, .slice none 0 0, .int .i64 mv, .int .i64 st], .int .i64 0]) (resultsFcFetch HZ.out rfl rfl) rfl ?_
     rw [HVV.out]
     exact ⟨_, rfl, ⟨qa, qn, qc, none, 0, 0, rfl, HZQ.out, rowAt_nil _⟩, HZB.out⟩
   have hdq : decide (nn ≤ qn) = true := decide_eq_true hq
   have hdqi : decide ((nn : Int) ≤ (qn : Int)) = true := decide_eq_true (by omega)
   have hsl : ∀ V, (Instr.slice 70 (.slice qa qn qc) none (some (.int .i64 (nn : Int))) none).run Tryz.prog V = .ok (.slice qa nn qc) V := row_upto gtK_ok _ qn qc nn (Nat.le_trans hq HQ6.out.fits)
   have g0 := HX6.out.free 0
   have HQT := qh (HQ6.out.take nn hq)
   obtain ⟨jn, hjn⟩ := exq (nn - 1)
   have hj1 : jn < nn := by omega
   have hjw : wrap64 ((nn : Int) - 1) = (jn : Int) := by unfold wrap64; omega
   have hjw2 : (nn : Int) - 1 = (jn : Int) := by omega
   have hji : (jn : Int) < (nn : Int) := by omega
   have HJN := qh hjn
   clear hjn hq
   go_wp2_with fail
   clear hsl x0 g0
   refine (fcClone_any W6 qa nn qc (rs.take nn) HQT.out (by omega)).mono ?_
   rintro e wc ⟨ca, cn, cc, rfl, hcr, hcf, hb⟩
   have hcn : cn = nn := by have h5 := hcr.length; have h6 := HQT.out.length; omega
   subst hcn
   have HXc := qh (HX6.out.on hb)
   have HFc := qh (HF6.out.on hb)
   have HBc := qh (HB6.out.trans (hb.mono HB6.out.size))
   have HQc := qh hcr
   have HFARc : Hid (∀ a, ca = some a → a.block ≠ F ∧ a.block ≠ R) := fun a ha => by have h5 := (hcf a ha).1; have h6 := HX6.out.lt; have h7 := HF6.out.lt; exact ⟨by omega, by omega⟩
   clear hcr hcf hb HX6 HF6 HB6 HQ6 HQT
   have g0 := HXc.out.free 0
   have x0 := HXc.out.c0
   go_upto_region 12 with fail
   obtain ⟨W7, hW7⟩ := exq (wc.setCell ⟨F, 0, none⟩ (.slice ca cn cc))
   have HX7 : Hid (FBox W7 F (.slice ca cn cc) (.slice none 0 0) mv st) := by rw [hW7]; exact HXc.out.s0 _
   have HF7 : Hid (FBox W7 R (.slice none 0 0) (.slice none 0 0) 0 0) := by rw [hW7]; exact HFc.out.off HFR.out _
   have HB7 : Hid (Below w.heap.size w W7) := by rw [hW7]; exact HBc.out.setCell HFW.out _
   have HQ7 : Hid (RowAt gtK W7 ca cn cc (rs.take cn)) := by rw [hW7]; exact HQc.out.off (fun a ha => (HFARc.out a ha).1) _ _
   rw [← hW7]
   clear hW7 x0 g0 HXc HFc HBc HQc
   obtain ⟨gb, go2, gx, gel, hgb, hgx, hga⟩ := gt_get HQ7.out hj1
   subst gel
   obtain ⟨gxo, gxp, gxr⟩ := gx
   have k0 := hga.c0
   have hgr : rs[jn]? = some ⟨gxo, gxp, gxr⟩ := by rw [List.getElem?_take_of_lt hj1] at hgx; exact hgx
   have hgm := recordsD_mem (l := bats ms) (a := o) (z := en) (g := ⟨gxo, gxp, gxr⟩) (by rw [← HRS.out]; exact List.mem_of_getElem? hgr)
   have hgb0 : 0 ≤ gxo ∧ gxo ≤ 1099511627800 := by
    obtain ⟨_, _, bb, hbb, hgg⟩ := hgm
    have h5 := batG_mem hgg
    have h6 := HR.out.few bb hbb
    have h7 : countD bb = (bb.recs.length : Int) := by unfold countD; rw [if_neg (by have := h5.1; omega)]
    simp only at h5
    omega
   obtain ⟨hg0, hg1⟩ := hgb0
   have HNX0 : Hid (gxo + 1 = nextD rs cn en o) := by show _ = _; rw [next_some (g := ⟨gxo, gxp, gxr⟩) (by rw [← HJN.out]; exact hgr)]
   obtain ⟨nx, hnx⟩ := exq (gxo + 1)
   have HNXE := qh hnx
   have HNX : Hid (nx = nextD rs cn en o) := by show _ = _; rw [hnx]; exact HNX0.out
   simp only at k0
   clear hgx hga hgr hgm hnx hgb
   have y0 := HX7.out.c0
   have y2 := HX7.out.c2
   have g2 := HX7.out.free 2
   go_upto_region 13 with fail
   rw [← HNXE.out]
   obtain ⟨W8, hW8⟩ := exq (W7.setCell ⟨F, 2, none⟩ (.int .i64 nx))
   have HX8a : Hid (FBox W8 F (.slice (some ⟨gb, go2, none⟩) cn cc) (.slice none 0 0) nx st) := by rw [hW8]; exact HX7.out.s2 _
   have HF8a : Hid (FBox W8 R (.slice none 0 0) (.slice none 0 0) 0 0) := by rw [hW8]; exact HF7.out.off HFR.out _
   have HB8a : Hid (Below w.heap.size w W8) := by rw [hW8]; exact HB7.out.setCell HFW.out _
   have HQ8a : Hid (RowAt gtK W8 (some ⟨gb, go2, none⟩) cn cc (rs.take cn)) := by rw [hW8]; exact HQ7.out.off (fun a ha => (HFARc.out a ha).1) _ _
   rw [← hW8]
   clear hW8 HX7 HF7 HB7 HQ7 k0 y0 y2 g2 hg0 hg1 hj1 hjw hjw2 hji
   have y0 := HX8a.out.c0
   have y1 := HX8a.out.c1
   have y2 := HX8a.out.c2
   have y3 := HX8a.out.c3
   have z0 := HF8a.out.c0
   have g0 := HF8a.out.free 0
   have z1 := HF8a.out.c1
   have g1 := HF8a.out.free 1
   have z2 := HF8a.out.c2
   have g2 := HF8a.out.free 2
   have z3 := HF8a.out.c3
   have g3 := HF8a.out.free 3
   have HZ : Hid (FBox ((((W8.setCell ⟨R, 0, none⟩ (.slice (some ⟨gb, go2, none⟩) cn cc)).setCell ⟨R, 1, none⟩ (.slice none 0 0)).setCell ⟨R, 2, none⟩ (.int .i64 nx)).setCell ⟨R, 3, none⟩ (.int .i64 st)) R (.slice (some ⟨gb, go2, none⟩) cn cc) (.slice none 0 0) nx st) := (((HF8a.out.s0 _).s1 _).s2 _).s3 _
   have HZB : Hid (Below w.heap.size w ((((W8.setCell ⟨R, 0, none⟩ (.slice (some ⟨gb, go2, none⟩) cn cc)).setCell ⟨R, 1, none⟩ (.slice none 0 0)).setCell ⟨R, 2, none⟩ (.int .i64 nx)).setCell ⟨R, 3, none⟩ (.int .i64 st))) := (((HB8a.out.setCell HRW.out _).setCell HRW.out _).setCell HRW.out _).setCell HRW.out _
   have hfq : ∀ a : Addr, (some ⟨gb, go2, none⟩ : Option Addr) = some a → a.block ≠ R := fun a ha => (HFARc.out a ha).2
   have HZQ : Hid (RowAt gtK ((((W8.setCell ⟨R, 0, none⟩ (.slice (some ⟨gb, go2, none⟩) cn cc)).setCell ⟨R, 1, none⟩ (.slice none 0 0)).setCell ⟨R, 2, none⟩ (.int .i64 nx)).setCell ⟨R, 3, none⟩ (.int .i64 st)) (some ⟨gb, go2, none⟩) cn cc (rs.take cn)) := (((HQ8a.out.off hfq _ _).off hfq _ _).off hfq _ _).off hfq _ _
   clear hfq
   have HVV : Hid (fetchD start (bats ms) o (cn : Int) false = (⟨rs.take cn, [], nx, st⟩, 0)) := by
    show fetchD _ _ _ _ _ = _
    unfold fetchD
    rw [if_neg HNR.out.1, ← HEN.out, if_neg HNR.out.2, ← HST.out]
    simp only [Int.toNat_natCast, if_false, Bool.false_eq_true]
    rw [← HRS.out, ← HNX.out]
   go_wp2
   refine bodyPost_ret (v := .tuple #[.agg #[.slice (some ⟨gb, go2, none⟩) cn cc, .slice none 0 0, .int .i64 nx, .int .i64 st], .int .i64 0]) (resultsFcFetch HZ.out rfl rfl) rfl ?_
   rw [HVV.out]
   exact ⟨_, rfl, ⟨some ⟨gb, go2, none⟩, cn, cc, none, 0, 0, rfl, HZQ.out, rowAt_nil _⟩, HZB.out⟩
 | true =>
   have x3 := HX3.out.c3
   go_wp2_with fail
   clear x3
   refine (fcRecords_any W3 start ad len cap ms (H.out.keep HB3.out) HLL.out HR.out.few o st).mono ?_
   rintro e w5 ⟨qa, qn, qc, rfl, hrow, hfar, hb⟩
   have HB5 := qh (HB3.out.trans (hb.mono HB3.out.size))
   have HF5 := qh (HF3.out.on hb)
   have HX5 := qh (HX3.out.on hb)
   obtain ⟨rs, hrs⟩ := exq (recordsD (bats ms) o st)
   rw [← hrs] at hrow
   have HRS := qh hrs
   have HQ := qh hrow
   have hqn : rs.length = qn := hrow.length
   have HFAR : Hid (∀ a, qa = some a → a.block ≠ F ∧ a.block ≠ R) := fun a ha => by have h5 := (hfar a ha).1; have h6 := HX3.out.lt; have h7 := HF3.out.lt; exact ⟨by omega, by omega⟩
   have HQN := qh hqn
   have hqb : qn ≤ 80000 := by
    have h5 := recordsD_few (a := o) (z := st) (l := bats ms) (fun b hb => (HR.out.few b hb).2.2)
    have h6 : (bats ms).length = len := by unfold bats; rw [List.length_map]; exact H.out.row.length
    have h7 := HLL.out
    rw [← hrs, h6, hqn] at h5
    omega
   obtain ⟨mx, hmx⟩ := exq (max st o)
   have HMX := qh hmx
   clear hb hrs hrow hfar hqn hmx HB3 HF3 HX3
   have x0 := HX5.out.c0
   have x2 := HX5.out.c2
   have g0 := HX5.out.free 0
   have g2 := HX5.out.free 2
   go_upto_region 10 with fail
   obtain ⟨mv, hmv⟩ : ∃ mv : Int, mv = (if o < st then st else o) := ⟨_, rfl⟩
   rw [← hmv]
   have HMV : Hid (mv = mx) := by show _ = _; rw [hmv, HMX.out]; split <;> omega
   obtain ⟨W6, hW6⟩ : ∃ y, y = (w5.setCell ⟨F, 0, none⟩ (.slice qa qn qc)).setCell ⟨F, 2, none⟩ (.int .i64 mv) := ⟨_, rfl⟩
   have HX6 : Hid (FBox W6 F (.slice qa qn qc) (.slice none 0 0) mv st) := by rw [hW6]; exact (HX5.out.s0 _).s2 _
   have HF6 : Hid (FBox W6 R (.slice none 0 0) (.slice none 0 0) 0 0) := by rw [hW6]; exact (HF5.out.off HFR.out _).off HFR.out _
   have HB6 : Hid (Below w.heap.size w W6) := by rw [hW6]; exact (HB5.out.setCell HFW.out _).setCell HFW.out _
   have HQ6 : Hid (RowAt gtK W6 qa qn qc rs) := by rw [hW6]; exact (HQ.out.off (fun a ha => (HFAR.out a ha).1) _ _).off (fun a ha => (HFAR.out a ha).1) _ _
   rw [← hW6]
   clear hW6 hmv HX5 HF5 HB5 HQ x0 x2 g0 g2
   have x0 := HX6.out.c0
   by_cases hq : nn ≤ qn
   rotate_left
   · have hdq : decide (nn ≤ qn) = false := decide_eq_false hq
     have hdqi : decide ((nn : Int) ≤ (qn : Int)) = false := decide_eq_false (by omega)
     have HNX : Hid (mv = nextD rs nn st o) := by show _ = _; rw [HMV.out, HMX.out, next_none (by rw [HQN.out]; omega)]
     have HQT : Hid (RowAt gtK W6 qa qn qc (rs.take nn)) := by show RowAt _ _ _ _ _ _; rw [List.take_of_length_le (by rw [HQN.out]; omega)]; exact HQ6.out
     clear hq HQ6
     go_upto_region 14 with fail
     (try clear x0)
     have hdr : Below W6.heap.size W6 W6.drew := (Below.refl _ W6).drew
     refine wp_region_noPanic ?_
     refine wp_region_z [7] (fun (V : World) => V.cell? ⟨F, 2, none⟩ = some (.int .i64 mv)) (by kernel_rfl) ?_
     have hHeld : (fun (V : World) => V.cell? ⟨F, 2, none⟩ = some (.int .i64 mv)) _ := (HX6.out.on hdr).c2
     obtain ⟨u0, hu0⟩ := exq W6.drew
     rw [← hu0] at hHeld hdr
     rw [← hu0]
     clear hu0
     have HB8 := qh (HB6.out.trans (hdr.mono HB6.out.size))
     have HX8 := qh (HX6.out.on hdr)
     have HF8 := qh (HF6.out.on hdr)
     have HQ8 := qh (HQT.out.keep hdr)
     have HDN : Hid ((foldR [] (bats ms)).length ≤ 1000000) := by
      show _ ≤ _
      have h5 := AbMath.drops_len (bats ms) []
      have h6 : (bats ms).length = len := by unfold bats; rw [List.length_map]; exact H.out.row.length
      have h8 := HLL.out
      rw [h6] at h5
      omega
     clear hdr HB6 HX6 HF6 HQT
     refine zt 0 ?_
     refine zt 2 ?_
     refine zt 3 ?_
     refine zt 4 ?_
     refine zr 1 (fun C hC => ?_)
     go_simp
     refine (acOf_any u0 ad len cap ms (H.out.keep HB8.out) HLL.out (batsOk_of HR.out.ok)).mono ?_
     rintro e u1 ⟨ra, rF, rfl, hrr, -, hb⟩
     have HB9 := qh (HB8.out.trans (hb.mono HB8.out.size))
     have HX9 := qh (HX8.out.on hb)
     have HF9 := qh (HF8.out.on hb)
     have HQ9 := qh (HQ8.out.keep hb)
     have HRR := qh hrr
     clear hb hrr HB8 HX8 HF8 HQ8
     have hHeld : (fun (V : World) => V.cell? ⟨F, 2, none⟩ = some (.int .i64 mv)) u1 := HX9.out.c2
     refine zc hC hHeld ?_
     clear hC C
     refine zr 5 (fun C hC => ?_)
     go_simp
     refine (acWithin_any rF u1 ra _ o mv HRR.out HDOK.out HDN.out).mono ?_
     rintro e w9 ⟨ea, en2, ec, rfl, hwr, hb⟩
     have HBz := qh (HB9.out.trans (hb.mono HB9.out.size))
     have HXz := qh (HX9.out.on hb)
     have HFz := qh (HF9.out.on hb)
     have HQz := qh (HQ9.out.keep hb)
     have HWR := qh hwr
     clear hb hwr HB9 HX9 HF9 HQ9 HRR
     have HX9 := HXz
     have HF9 := HFz
     have HB9 := HBz
     have HQ9 := HQz
     clear HXz HFz HBz HQz
     have hHeld : (fun (V : World) => V.cell? ⟨F, 2, none⟩ = some (.int .i64 mv)) w9 := HX9.out.c2
     refine zc hC hHeld ?_
     clear hC C
     refine zt 6 ?_
     have g1 := HX9.out.free 1
     have y1 := HX9.out.c1
     refine zr 7 (fun C hC => ?_)
     go_simp
     refine zl hC ?_
     clear hC C
     refine zd ?_
     clear hHeld
     obtain ⟨Wa, hWa⟩ := exq (w9.setCell ⟨F, 1, none⟩ (.slice ea en2 ec))
     have HXa : Hid (FBox Wa F (.slice qa qn qc) (.slice ea en2 ec) mv st) := by rw [hWa]; exact HX9.out.s1 _
     have HFa : Hid (FBox Wa R (.slice none 0 0) (.slice none 0 0) 0 0) := by rw [hWa]; exact HF9.out.off HFR.out _
     have HBa : Hid (Below w.heap.size w Wa) := by rw [hWa]; exact HB9.out.setCell HFW.out _
     have HQa : Hid (RowAt gtK Wa qa qn qc (rs.take nn)) := by rw [hWa]; exact HQ9.out.off (fun a ha => (HFAR.out a ha).1) _ _
     have HWa : Hid (RowAt drK Wa ea en2 ec (withinD (foldR [] (bats ms)) o mv)) := by rw [hWa]; exact dr_past HWR.out HX9.out _ _
     rw [← hWa]
     clear hWa HX9 HF9 HB9 HQ9 HWR g1 y1
     have y0 := HXa.out.c0
     have y1 := HXa.out.c1
     have y2 := HXa.out.c2
     have y3 := HXa.out.c3
     have z0 := HFa.out.c0
     have g0 := HFa.out.free 0
     have z1 := HFa.out.c1
     have g1 := HFa.out.free 1
     have z2 := HFa.out.c2
     have g2 := HFa.out.free 2
     have z3 := HFa.out.c3
     have g3 := HFa.out.free 3
     have HZ : Hid (FBox ((((Wa.setCell ⟨R, 0, none⟩ (.slice qa qn qc)).setCell ⟨R, 1, none⟩ (.slice ea en2 ec)).setCell ⟨R, 2, none⟩ (.int .i64 mv)).setCell ⟨R, 3, none⟩ (.int .i64 st)) R (.slice qa qn qc) (.slice ea en2 ec) mv st) := (((HFa.out.s0 _).s1 _).s2 _).s3 _
     have HZB : Hid (Below w.heap.size w ((((Wa.setCell ⟨R, 0, none⟩ (.slice qa qn qc)).setCell ⟨R, 1, none⟩ (.slice ea en2 ec)).setCell ⟨R, 2, none⟩ (.int .i64 mv)).setCell ⟨R, 3, none⟩ (.int .i64 st))) := (((HBa.out.setCell HRW.out _).setCell HRW.out _).setCell HRW.out _).setCell HRW.out _
     have hfq : ∀ a, qa = some a → a.block ≠ R := fun a ha => (HFAR.out a ha).2
     have HZQ : Hid (RowAt gtK ((((Wa.setCell ⟨R, 0, none⟩ (.slice qa qn qc)).setCell ⟨R, 1, none⟩ (.slice ea en2 ec)).setCell ⟨R, 2, none⟩ (.int .i64 mv)).setCell ⟨R, 3, none⟩ (.int .i64 st)) qa qn qc (rs.take nn)) := (((HQa.out.off hfq _ _).off hfq _ _).off hfq _ _).off hfq _ _
     have HZW : Hid (RowAt drK ((((Wa.setCell ⟨R, 0, none⟩ (.slice qa qn qc)).setCell ⟨R, 1, none⟩ (.slice ea en2 ec)).setCell ⟨R, 2, none⟩ (.int .i64 mv)).setCell ⟨R, 3, none⟩ (.int .i64 st)) ea en2 ec (withinD (foldR [] (bats ms)) o mv)) := dr_past (dr_past (dr_past (dr_past HWa.out HFa.out _ _) (HFa.out.s0 _) _ _) ((HFa.out.s0 _).s1 _) _ _) (((HFa.out.s0 _).s1 _).s2 _) _ _
     clear hfq
     have HVV : Hid (fetchD start (bats ms) o (nn : Int) true = (⟨rs.take nn, withinD (foldR [] (bats ms)) o mv, mv, st⟩, 0)) := by
      show fetchD _ _ _ _ _ = _
      unfold fetchD
      rw [if_neg HNR.out.1, ← HEN.out, if_neg HNR.out.2, ← HST.out]
      simp only [Int.toNat_natCast, if_true]
      rw [← HRS.out, ← HNX.out]
     go_wp2
     refine bodyPost_ret (v := .tuple #[.agg #[.slice qa qn qc, .slice ea en2 ec, .int .i64 mv, .int .i64 st], .int .i64 0]) (resultsFcFetch HZ.out rfl rfl) rfl ?_
     rw [HVV.out]
     exact ⟨_, rfl, ⟨qa, qn, qc, ea, en2, ec, rfl, HZQ.out, HZW.out⟩, HZB.out⟩
   have hdq : decide (nn ≤ qn) = true := decide_eq_true hq
   have hdqi : decide ((nn : Int) ≤ (qn : Int)) = true := decide_eq_true (by omega)
   have hsl : ∀ V, (Instr.slice 70 (.slice qa qn qc) none (some (.int .i64 (nn : Int))) none).run Tryz.prog V = .ok (.slice qa nn qc) V := row_upto gtK_ok _ qn qc nn (Nat.le_trans hq HQ6.out.fits)
   have g0 := HX6.out.free 0
   have HQT := qh (HQ6.out.take nn hq)
   obtain ⟨jn, hjn⟩ := exq (nn - 1)
   have hj1 : jn < nn := by omega
   have hjw : wrap64 ((nn : Int) - 1) = (jn : Int) := by unfold wrap64; omega
   have hjw2 : (nn : Int) - 1 = (jn : Int) := by omega
   have hji : (jn : Int) < (nn : Int) := by omega
   have HJN := qh hjn
   clear hjn hq
   go_wp2_with fail
   clear hsl x0 g0
   refine (fcClone_any W6 qa nn qc (rs.take nn) HQT.out (by omega)).mono ?_
   rintro e wc ⟨ca, cn, cc, rfl, hcr, hcf, hb⟩
   have hcn : cn = nn := by have h5 := hcr.length; have h6 := HQT.out.length; omega
   subst hcn
   have HXc := qh (HX6.out.on hb)
   have HFc := qh (HF6.out.on hb)
   have HBc := qh (HB6.out.trans (hb.mono HB6.out.size))
   have HQc := qh hcr
   have HFARc : Hid (∀ a, ca = some a → a.block ≠ F ∧ a.block ≠ R) := fun a ha => by have h5 := (hcf a ha).1; have h6 := HX6.out.lt; have h7 := HF6.out.lt; exact ⟨by omega, by omega⟩
   clear hcr hcf hb HX6 HF6 HB6 HQ6 HQT
   have g0 := HXc.out.free 0
   have x0 := HXc.out.c0
   go_upto_region 12 with fail
   obtain ⟨W7, hW7⟩ := exq (wc.setCell ⟨F, 0, none⟩ (.slice ca cn cc))
   have HX7 : Hid (FBox W7 F (.slice ca cn cc) (.slice none 0 0) mv st) := by rw [hW7]; exact HXc.out.s0 _
   have HF7 : Hid (FBox W7 R (.slice none 0 0) (.slice none 0 0) 0 0) := by rw [hW7]; exact HFc.out.off HFR.out _
   have HB7 : Hid (Below w.heap.size w W7) := by rw [hW7]; exact HBc.out.setCell HFW.out _
   have HQ7 : Hid (RowAt gtK W7 ca cn cc (rs.take cn)) := by rw [hW7]; exact HQc.out.off (fun a ha => (HFARc.out a ha).1) _ _
   rw [← hW7]
   clear hW7 x0 g0 HXc HFc HBc HQc
   obtain ⟨gb, go2, gx, gel, hgb, hgx, hga⟩ := gt_get HQ7.out hj1
   subst gel
   obtain ⟨gxo, gxp, gxr⟩ := gx
   have k0 := hga.c0
   have hgr : rs[jn]? = some ⟨gxo, gxp, gxr⟩ := by rw [List.getElem?_take_of_lt hj1] at hgx; exact hgx
   have hgm := recordsD_mem (l := bats ms) (a := o) (z := st) (g := ⟨gxo, gxp, gxr⟩) (by rw [← HRS.out]; exact List.mem_of_getElem? hgr)
   have hgb0 : 0 ≤ gxo ∧ gxo ≤ 1099511627800 := by
    obtain ⟨_, _, bb, hbb, hgg⟩ := hgm
    have h5 := batG_mem hgg
    have h6 := HR.out.few bb hbb
    have h7 : countD bb = (bb.recs.length : Int) := by unfold countD; rw [if_neg (by have := h5.1; omega)]
    simp only at h5
    omega
   obtain ⟨hg0, hg1⟩ := hgb0
   have HNX0 : Hid (gxo + 1 = nextD rs cn st o) := by show _ = _; rw [next_some (g := ⟨gxo, gxp, gxr⟩) (by rw [← HJN.out]; exact hgr)]
   obtain ⟨nx, hnx⟩ := exq (gxo + 1)
   have HNXE := qh hnx
   have HNX : Hid (nx = nextD rs cn st o) := by show _ = _; rw [hnx]; exact HNX0.out
   simp only at k0
   clear hgx hga hgr hgm hnx hgb
   have y0 := HX7.out.c0
   have y2 := HX7.out.c2
   have g2 := HX7.out.free 2
   go_upto_region 13 with fail
   rw [← HNXE.out]
   obtain ⟨W8, hW8⟩ := exq (W7.setCell ⟨F, 2, none⟩ (.int .i64 nx))
   have HX8a : Hid (FBox W8 F (.slice (some ⟨gb, go2, none⟩) cn cc) (.slice none 0 0) nx st) := by rw [hW8]; exact HX7.out.s2 _
   have HF8a : Hid (FBox W8 R (.slice none 0 0) (.slice none 0 0) 0 0) := by rw [hW8]; exact HF7.out.off HFR.out _
   have HB8a : Hid (Below w.heap.size w W8) := by rw [hW8]; exact HB7.out.setCell HFW.out _
   have HQ8a : Hid (RowAt gtK W8 (some ⟨gb, go2, none⟩) cn cc (rs.take cn)) := by rw [hW8]; exact HQ7.out.off (fun a ha => (HFARc.out a ha).1) _ _
   rw [← hW8]
   clear hW8 HX7 HF7 HB7 HQ7 k0 y0 y2 g2 hg0 hg1 hj1 hjw hjw2 hji
   go_upto_region 14 with fail
   (try clear x0)
   have hdr : Below W8.heap.size W8 W8.drew := (Below.refl _ W8).drew
   refine wp_region_noPanic ?_
   refine wp_region_z [7] (fun (V : World) => V.cell? ⟨F, 2, none⟩ = some (.int .i64 nx)) (by kernel_rfl) ?_
   have hHeld : (fun (V : World) => V.cell? ⟨F, 2, none⟩ = some (.int .i64 nx)) _ := (HX8a.out.on hdr).c2
   obtain ⟨u0, hu0⟩ := exq W8.drew
   rw [← hu0] at hHeld hdr
   rw [← hu0]
   clear hu0
   have HB8 := qh (HB8a.out.trans (hdr.mono HB8a.out.size))
   have HX8 := qh (HX8a.out.on hdr)
   have HF8 := qh (HF8a.out.on hdr)
   have HQ8 := qh (HQ8a.out.keep hdr)
   have HDN : Hid ((foldR [] (bats ms)).length ≤ 1000000) := by
    show _ ≤ _
    have h5 := AbMath.drops_len (bats ms) []
    have h6 : (bats ms).length = len := by unfold bats; rw [List.length_map]; exact H.out.row.length
    have h8 := HLL.out
    rw [h6] at h5
    omega
   clear hdr HB8a HX8a HF8a HQ8a
   refine zt 0 ?_
   refine zt 2 ?_
   refine zt 3 ?_
   refine zt 4 ?_
   refine zr 1 (fun C hC => ?_)
   go_simp
   refine (acOf_any u0 ad len cap ms (H.out.keep HB8.out) HLL.out (batsOk_of HR.out.ok)).mono ?_
   rintro e u1 ⟨ra, rF, rfl, hrr, -, hb⟩
   have HB9 := qh (HB8.out.trans (hb.mono HB8.out.size))
   have HX9 := qh (HX8.out.on hb)
   have HF9 := qh (HF8.out.on hb)
   have HQ9 := qh (HQ8.out.keep hb)
   have HRR := qh hrr
   clear hb hrr HB8 HX8 HF8 HQ8
   have hHeld : (fun (V : World) => V.cell? ⟨F, 2, none⟩ = some (.int .i64 nx)) u1 := HX9.out.c2
   refine zc hC hHeld ?_
   clear hC C
   refine zr 5 (fun C hC => ?_)
   go_simp
   refine (acWithin_any rF u1 ra _ o nx HRR.out HDOK.out HDN.out).mono ?_
   rintro e w9 ⟨ea, en2, ec, rfl, hwr, hb⟩
   have HBz := qh (HB9.out.trans (hb.mono HB9.out.size))
   have HXz := qh (HX9.out.on hb)
   have HFz := qh (HF9.out.on hb)
   have HQz := qh (HQ9.out.keep hb)
   have HWR := qh hwr
   clear hb hwr HB9 HX9 HF9 HQ9 HRR
   have HX9 := HXz
   have HF9 := HFz
   have HB9 := HBz
   have HQ9 := HQz
   clear HXz HFz HBz HQz
   have hHeld : (fun (V : World) => V.cell? ⟨F, 2, none⟩ = some (.int .i64 nx)) w9 := HX9.out.c2
   refine zc hC hHeld ?_
   clear hC C
   refine zt 6 ?_
   have g1 := HX9.out.free 1
   have y1 := HX9.out.c1
   refine zr 7 (fun C hC => ?_)
   go_simp
   refine zl hC ?_
   clear hC C
   refine zd ?_
   clear hHeld
   obtain ⟨Wa, hWa⟩ := exq (w9.setCell ⟨F, 1, none⟩ (.slice ea en2 ec))
   have HXa : Hid (FBox Wa F (.slice (some ⟨gb, go2, none⟩) cn cc) (.slice ea en2 ec) nx st) := by rw [hWa]; exact HX9.out.s1 _
   have HFa : Hid (FBox Wa R (.slice none 0 0) (.slice none 0 0) 0 0) := by rw [hWa]; exact HF9.out.off HFR.out _
   have HBa : Hid (Below w.heap.size w Wa) := by rw [hWa]; exact HB9.out.setCell HFW.out _
   have HQa : Hid (RowAt gtK Wa (some ⟨gb, go2, none⟩) cn cc (rs.take cn)) := by rw [hWa]; exact HQ9.out.off (fun a ha => (HFARc.out a ha).1) _ _
   have HWa : Hid (RowAt drK Wa ea en2 ec (withinD (foldR [] (bats ms)) o nx)) := by rw [hWa]; exact dr_past HWR.out HX9.out _ _
   rw [← hWa]
   clear hWa HX9 HF9 HB9 HQ9 HWR g1 y1
   have y0 := HXa.out.c0
   have y1 := HXa.out.c1
   have y2 := HXa.out.c2
   have y3 := HXa.out.c3
   have z0 := HFa.out.c0
   have g0 := HFa.out.free 0
   have z1 := HFa.out.c1
   have g1 := HFa.out.free 1
   have z2 := HFa.out.c2
   have g2 := HFa.out.free 2
   have z3 := HFa.out.c3
   have g3 := HFa.out.free 3
   have HZ : Hid (FBox ((((Wa.setCell ⟨R, 0, none⟩ (.slice (some ⟨gb, go2, none⟩) cn cc)).setCell ⟨R, 1, none⟩ (.slice ea en2 ec)).setCell ⟨R, 2, none⟩ (.int .i64 nx)).setCell ⟨R, 3, none⟩ (.int .i64 st)) R (.slice (some ⟨gb, go2, none⟩) cn cc) (.slice ea en2 ec) nx st) := (((HFa.out.s0 _).s1 _).s2 _).s3 _
   have HZB : Hid (Below w.heap.size w ((((Wa.setCell ⟨R, 0, none⟩ (.slice (some ⟨gb, go2, none⟩) cn cc)).setCell ⟨R, 1, none⟩ (.slice ea en2 ec)).setCell ⟨R, 2, none⟩ (.int .i64 nx)).setCell ⟨R, 3, none⟩ (.int .i64 st))) := (((HBa.out.setCell HRW.out _).setCell HRW.out _).setCell HRW.out _).setCell HRW.out _
   have hfq : ∀ a : Addr, (some ⟨gb, go2, none⟩ : Option Addr) = some a → a.block ≠ R := fun a ha => (HFARc.out a ha).2
   have HZQ : Hid (RowAt gtK ((((Wa.setCell ⟨R, 0, none⟩ (.slice (some ⟨gb, go2, none⟩) cn cc)).setCell ⟨R, 1, none⟩ (.slice ea en2 ec)).setCell ⟨R, 2, none⟩ (.int .i64 nx)).setCell ⟨R, 3, none⟩ (.int .i64 st)) (some ⟨gb, go2, none⟩) cn cc (rs.take cn)) := (((HQa.out.off hfq _ _).off hfq _ _).off hfq _ _).off hfq _ _
   have HZW : Hid (RowAt drK ((((Wa.setCell ⟨R, 0, none⟩ (.slice (some ⟨gb, go2, none⟩) cn cc)).setCell ⟨R, 1, none⟩ (.slice ea en2 ec)).setCell ⟨R, 2, none⟩ (.int .i64 nx)).setCell ⟨R, 3, none⟩ (.int .i64 st)) ea en2 ec (withinD (foldR [] (bats ms)) o nx)) := dr_past (dr_past (dr_past (dr_past HWa.out HFa.out _ _) (HFa.out.s0 _) _ _) ((HFa.out.s0 _).s1 _) _ _) (((HFa.out.s0 _).s1 _).s2 _) _ _
   clear hfq
   have HVV : Hid (fetchD start (bats ms) o (cn : Int) true = (⟨rs.take cn, withinD (foldR [] (bats ms)) o nx, nx, st⟩, 0)) := by
    show fetchD _ _ _ _ _ = _
    unfold fetchD
    rw [if_neg HNR.out.1, ← HEN.out, if_neg HNR.out.2, ← HST.out]
    simp only [Int.toNat_natCast, if_true]
    rw [← HRS.out, ← HNX.out]
   go_wp2
   refine bodyPost_ret (v := .tuple #[.agg #[.slice (some ⟨gb, go2, none⟩) cn cc, .slice ea en2 ec, .int .i64 nx, .int .i64 st], .int .i64 0]) (resultsFcFetch HZ.out rfl rfl) rfl ?_
   rw [HVV.out]
   exact ⟨_, rfl, ⟨some ⟨gb, go2, none⟩, cn, cc, ea, en2, ec, rfl, HZQ.out, HZW.out⟩, HZB.out⟩
end Go.Proofs.YtjmfdildnojknaaGreat
