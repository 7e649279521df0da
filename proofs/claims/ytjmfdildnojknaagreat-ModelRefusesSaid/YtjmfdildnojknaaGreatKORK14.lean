/- Parts of a proof. -/
import Derived.Test.YtjmfdildnojknaaGreatKORK13
set_option maxRecDepth 100000
set_option maxHeartbeats 16000000
set_option linter.unusedVariables false
namespace Go.Proofs.YtjmfdildnojknaaGreat
open Go.RowKit
open Go.SeqMath
open Go.ProdMath
open Go.BatMath hiding AllB getD_lt take_all
theorem prRefSame_any (w : World) (id ep op : Int) (last : List Tr) (ad : Option Addr) (n cap : Nat) (hl : RowAt trK w ad n cap last) (am : Option Addr) (cm : Nat) (hm : RowAt trK w am n cm last) (hn : n ≤ 100000000000) :
 Calls Tryz.prog 52 #[.agg #[.int .i64 id, .int .i64 ep, .slice ad n cap, .int .i64 op], .agg #[.int .i64 id, .int .i64 ep, .slice am n cm, .int .i64 op]] w (GivesBool w true) := by
 obtain ⟨W0, hW0⟩ : ∃ W0, W0 = ((w.alloc (.cells #[.int .i64 id, .int .i64 ep, .slice ad n cap, .int .i64 op] 58)).alloc (.cells #[.int .i64 id, .int .i64 ep, .slice am n cm, .int .i64 op] 58)) := ⟨_, rfl⟩
 have HB0 : Hid (Below w.heap.size w W0) := by rw [hW0]; exact (bal _ _).alloc (by simp) _
 have HP0 : Hid (PBox W0 w.heap.size (id) (ep) (.slice ad n cap) (op)) := by
  show PBox _ w.heap.size (id) (ep) (.slice ad n cap) (op)
  rw [hW0]
  have h1 := pbox_new w (id) (ep) (.slice ad n cap) (op)
  have h2 := h1.on (bal _ (.cells #[.int .i64 id, .int .i64 ep, .slice am n cm, .int .i64 op] 58))
  simpa using h2
 have HP1 : Hid (PBox W0 (w.heap.size + 1) (id) (ep) (.slice am n cm) (op)) := by
  show PBox _ (w.heap.size + 1) (id) (ep) (.slice am n cm) (op)
  rw [hW0]
  have h1 := pbox_new (w.alloc (.cells #[.int .i64 id, .int .i64 ep, .slice ad n cap, .int .i64 op] 58)) (id) (ep) (.slice am n cm) (op)
  simpa using h1
 have HW0 := qh hW0
 clear hW0
 obtain ⟨B1, hB1⟩ := exq w.heap.size
 obtain ⟨B2, hB2⟩ := exq (w.heap.size + 1)
 rw [← hB1] at HP0
 rw [← hB2] at HP1
 go_enter Tryz.func52, Tryz.ntmps52
 go_upto_region 1 with fail
 rw [← HW0.out, ← hB2, ← hB1]
 clear HW0 hB1 hB2
 have HL0 := qh (hl.keep HB0.out)
 have HM0 := qh (hm.keep HB0.out)
 clear hl hm
 have q0 := HP0.out.c0
 have q1 := HP0.out.c1
 have q2 := HP0.out.c2
 have q3 := HP0.out.c3
 have s0 := HP1.out.c0
 have s1 := HP1.out.c1
 have s2 := HP1.out.c2
 have s3 := HP1.out.c3
 have hd1 : (id == id) = true := by simp
 have hd2 : (ep == ep) = true := by simp
 have hd3 : (op == op) = true := by simp
 have hd1n : (id != id) = false := by simp
 have hd2n : (ep != ep) = false := by simp
 have hd3n : (op != op) = false := by simp
 have hd4 : (n == n) = true := by simp
 have hd5 : ((n : Int) == (n : Int)) = true := by simp
 have hgd := guard_three
 go_wp2
 go_loopw [37] (fun v37 wr => ∃ j : Nat, v37 = .int .i64 (j : Int) ∧ j ≤ n ∧ Below W0.heap.size W0 wr) (fun v37 _ => n - (intOf v37).toNat)
 case atStart => exact ⟨0, rfl, Nat.zero_le _, Below.refl _ _⟩
 obtain ⟨j, rfl, hj, hbel⟩ := hrel
 have HB := qh hbel
 clear hbel q0 q1 q2 q3 s0 s1 s2 s3
 obtain ⟨wo, hwo⟩ := exq wr
 subst hwo
 by_cases hlt : j < n
 rotate_left
 · have hd6 : decide (j < n) = false := decide_eq_false hlt
   go_wp2
   go_ret
   exact gives_bool rfl (HB0.out.trans (HB.out.mono HB0.out.size))
 have hd6 : decide (j < n) = true := decide_eq_true hlt
 have hjn : (j : Int) < (n : Int) := by omega
 obtain ⟨bk, off, x, rfl, hbk, hx, c0, c1, c2⟩ := tr_get (HL0.out.keep HB.out) hlt
 obtain ⟨bm, om, y, rfl, hbm, hy, d0, d1, d2⟩ := tr_get (HM0.out.keep HB.out) hlt
 have hxy : y = x := by rw [hx] at hy; cases hy; rfl
 subst hxy
 have q2 := (HP0.out.on HB.out).c2
 have s2 := (HP1.out.on HB.out).c2
 clear hx hy hbk hbm
 go_upto_region 6 with fail
 have heq : ∀ W, (binOp .neq 59 (.agg #[.int .i64 y.f, .int .i64 y.l, .int .i64 y.b]) (.agg #[.int .i64 y.f, .int .i64 y.l, .int .i64 y.b])).run Tryz.prog W = .ok (.bool false) W := fun W => neq_three _ _ _ _ _ _ true (by simp) W
 go_quiet (fail)
 have HBU := qh (below_drewN HB.out nq)
 clear q2 s2 c0 c1 c2 d0 d1 d2 heq
 go_wp2
 go_roundw
 case rel => exact ⟨j + 1, by go_num, by omega, HBU.out⟩
 simp [intOf]; omega
theorem refAllP_any (w : World) (ad1 ad2 : Option Addr) (n1 n2 cap1 cap2 : Nat) (ms1 ms2 : List PM) (h1 : PdsAt w ad1 n1 cap1 ms1) (h2 : PdsAt w ad2 n2 cap2 ms2) (he : pds ms1 = pds ms2) (hL : n1 ≤ 1000000) (hfew : fewP (pds ms1)) :
 Calls Tryz.prog 24 #[.slice ad1 n1 cap1, .slice ad2 n2 cap2] w (GivesBool w true) := by
 have hn : n1 = n2 := by
  have e := congrArg List.length he
  unfold pds at e
  rw [List.length_map, List.length_map, h1.row.length, h2.row.length] at e
  exact e
 subst hn
 have H1 := qh h1
 have H2 := qh h2
 have HE := qh he
 have HF := qh hfew
 clear h1 h2 he hfew
 go_enter Tryz.func24, Tryz.ntmps24
 go_wp2
 go_loopw [13] (fun v13 wr => ∃ j : Nat, v13 = .int .i64 (j : Int) ∧ j ≤ n1 ∧ Hid (Below w.heap.size w wr)) (fun v13 _ => n1 - (intOf v13).toNat)
 case atStart => exact ⟨0, rfl, Nat.zero_le _, Below.refl _ _⟩
 obtain ⟨j, rfl, hj, HB⟩ := hrel
 obtain ⟨wo, hwo⟩ := exq wr
 subst hwo
 by_cases hlt : j < n1
 rotate_left
 · have hd : decide (j < n1) = false := decide_eq_false hlt
   go_wp2
   go_ret
   exact ⟨rfl, HB.out⟩
 have hd : decide (j < n1) = true := decide_eq_true hlt
 have hjl : (j : Int) < (n1 : Int) := by omega
 obtain ⟨bk, off, m, rfl, hbk, hm, hla, c0, c1, c2, c3⟩ := (H1.out.keep HB.out).get hlt
 obtain ⟨bk2, off2, m2, rfl, hbk2, hm2, hla2, d0, d1, d2, d3⟩ := (H2.out.keep HB.out).get hlt
 have hpp : m.p = m2.p := by
  have e := congrArg (fun l : List Pd => l[j]?) HE.out
  unfold pds at e
  simp only [List.getElem?_map, hm, hm2, Option.map_some, Option.some.injEq] at e
  exact e
 have hp5 := HF.out m.p (List.mem_map.2 ⟨m, List.mem_of_getElem? hm, rfl⟩)
 obtain ⟨⟨pid, pep, pl, po⟩, pd, pc⟩ := m
 obtain ⟨p2, qd, qc⟩ := m2
 simp only at hpp
 subst hpp
 simp only at c0 c1 c2 c3 d0 d1 d2 d3 hp5
 have hlb : RowAt trK wo pd pl.length pc pl := hla
 have hlb2 : RowAt trK wo qd pl.length qc pl := hla2
 obtain ⟨pn, hpn⟩ := exq pl.length
 rw [← hpn] at c2 d2 hp5 hlb hlb2
 have HLA := qh hlb
 have HLA2 := qh hlb2
 have KS : Hid (∀ V, Below wo.heap.size wo V → (fun (V : World) => V.cell? ⟨bk, off + j * 4, none⟩ = some (.int .i64 pid) ∧ V.cell? ⟨bk, off + j * 4 + 1, none⟩ = some (.int .i64 pep) ∧ V.cell? ⟨bk, off + j * 4 + 2, none⟩ = some (.slice pd pn pc) ∧ V.cell? ⟨bk, off + j * 4 + 3, none⟩ = some (.int .i64 po) ∧ V.cell? ⟨bk2, off2 + j * 4, none⟩ = some (.int .i64 pid) ∧ V.cell? ⟨bk2, off2 + j * 4 + 1, none⟩ = some (.int .i64 pep) ∧ V.cell? ⟨bk2, off2 + j * 4 + 2, none⟩ = some (.slice qd pn qc) ∧ V.cell? ⟨bk2, off2 + j * 4 + 3, none⟩ = some (.int .i64 po)) V) := fun V hV => ⟨(hV.cell (p := ⟨_, _, none⟩) hbk).trans c0, (hV.cell (p := ⟨_, _, none⟩) hbk).trans c1, (hV.cell (p := ⟨_, _, none⟩) hbk).trans c2, (hV.cell (p := ⟨_, _, none⟩) hbk).trans c3, (hV.cell (p := ⟨_, _, none⟩) hbk2).trans d0, (hV.cell (p := ⟨_, _, none⟩) hbk2).trans d1, (hV.cell (p := ⟨_, _, none⟩) hbk2).trans d2, (hV.cell (p := ⟨_, _, none⟩) hbk2).trans d3⟩
 have hdrw : Below wo.heap.size wo wo.drew := (Below.refl _ wo).drew
 clear hla hla2 hlb hlb2 hpn hm hm2 c0 c1 c2 c3 d0 d1 d2 d3 hbk hbk2
 go_upto_region 6 with fail
 refine wp_region_noPanic ?_
 refine zk [] KS ?_
 have hHeld := KS.out _ hdrw
 obtain ⟨u1, hu1⟩ := exq wo.drew
 rw [← hu1] at hHeld hdrw
 rw [← hu1]
 clear hu1
 have HU1 := qh hdrw
 clear hdrw
 refine zt 0 ?_
 refine zt 1 ?_
 refine zt 2 ?_
 refine zt 3 ?_
 refine zt 4 ?_
 refine zt 5 ?_
 refine zt 6 ?_
 refine zt 7 ?_
 refine zr 8 (fun C hC => ?_)
 go_simp
 refine (prRefSame_any u1 pid pep po pl pd pn pc (HLA.out.keep HU1.out) qd qc (HLA2.out.keep HU1.out) (by omega)).mono ?_
 rintro e u2 ⟨rfl, hb⟩
 have HU2 := qh (HU1.out.trans (hb.mono HU1.out.size))
 clear hb
 have hHeld := KS.out _ HU2.out
 refine zc hC hHeld ?_
 clear hC C
 refine zt 9 ?_
 refine zd ?_
 clear hHeld KS HU1
 have HB3 := qh (HB.out.trans (HU2.out.mono HB.out.size))
 go_wp2
 go_roundw
 case rel => exact ⟨j + 1, rfl, by omega, HB3.out⟩
 simp [intOf]; omega
theorem refRows2_any (w : World) (ad1 ad2 : Option Addr) (n1 n2 cap1 cap2 : Nat) (ms ms2 : List BM) (h1 : BatsAt w ad1 n1 cap1 ms) (h2 : BatsAt w ad2 n2 cap2 ms2) (he : bats ms = bats ms2) (hL : n1 ≤ 1000000) (hok : BatsOk (bats ms)) :
 Calls Tryz.prog 23 #[.slice ad1 n1 cap1, .slice ad2 n2 cap2] w (SaysB true w) := by
 have hn : n1 = n2 := by
  have e := congrArg List.length he
  unfold bats at e
  rw [List.length_map, List.length_map, h1.row.length, h2.row.length] at e
  exact e
 subst hn
 have HE : Hid (∀ (j : Nat) m m', ms[j]? = some m → ms2[j]? = some m' → m'.b = m.b) := by
  intro j m m' h3 h4
  have h5 : (bats ms)[j]? = (bats ms2)[j]? := by rw [he]
  unfold bats at h5
  rw [List.getElem?_map, List.getElem?_map, h3, h4] at h5
  exact (Option.some.inj h5).symm
 have H1 := qh h1
 have H2 := qh h2
 have HOK := qh hok
 clear h1 h2 he hok
 go_enter Tryz.func23, Tryz.ntmps23
 go_wp2
 go_loopw [13] (fun v13 wr => ∃ j : Nat, v13 = .int .i64 (j : Int) ∧ j ≤ n1 ∧ Hid (Below w.heap.size w wr)) (fun v13 _ => n1 - (intOf v13).toNat)
 case atStart => exact ⟨0, rfl, Nat.zero_le _, Below.refl _ _⟩
 obtain ⟨j, rfl, hj, HB⟩ := hrel
 obtain ⟨wo, hwo⟩ := exq wr
 subst hwo
 by_cases hlt : j < n1
 rotate_left
 · have hd : decide (j < n1) = false := decide_eq_false hlt
   go_wp2
   go_ret
   exact ⟨rfl, HB.out⟩
 have hd : decide (j < n1) = true := decide_eq_true hlt
 have hjl : (j : Int) < (n1 : Int) := by omega
 obtain ⟨bk, off, m, rfl, hbk, hm, hrec, c0, c1, c2, c3, c4, c5, c6⟩ := (H1.out.keep HB.out).get hlt
 obtain ⟨bk2, off2, m2, rfl, hbk2, hm2, hrec2, d0, d1, d2, d3, d4, d5, d6⟩ := (H2.out.keep HB.out).get hlt
 have hmm := HE.out j m m2 hm hm2
 obtain ⟨mb2, rd2, rc2⟩ := m2
 have hmm2 : mb2 = m.b := hmm
 subst hmm2
 clear hmm
 have hk3 := (HOK.out m.b (List.mem_map.2 ⟨m, List.mem_of_getElem? hm, rfl⟩)).2.2
 obtain ⟨⟨b0, b1, b2, b3, b4, b5, recs⟩, rd, rc⟩ := m
 have hrc : RecsAt wo rd recs.length rc recs := hrec
 have hrc2 : RecsAt wo rd2 recs.length rc2 recs := hrec2
 simp only at c0 c1 c2 c3 c4 c5 c6 d0 d1 d2 d3 d4 d5 d6 hk3
 obtain ⟨rn, hrn⟩ := exq recs.length
 rw [← hrn] at c6 d6 hk3 hrc hrc2
 have HRC := qh hrc
 have HRC2 := qh hrc2
 have KS : Hid (∀ V, Below wo.heap.size wo V → (fun (V : World) => V.cell? ⟨bk, off + j * 7, none⟩ = some (.int .i64 b0) ∧ V.cell? ⟨bk, off + j * 7 + 1, none⟩ = some (.int .i64 b1) ∧ V.cell? ⟨bk, off + j * 7 + 2, none⟩ = some (.int .i64 b2) ∧ V.cell? ⟨bk, off + j * 7 + 3, none⟩ = some (.int .i64 b3) ∧ V.cell? ⟨bk, off + j * 7 + 4, none⟩ = some (.bool b4) ∧ V.cell? ⟨bk, off + j * 7 + 5, none⟩ = some (.int .i64 b5) ∧ V.cell? ⟨bk, off + j * 7 + 6, none⟩ = some (.slice rd rn rc) ∧ V.cell? ⟨bk2, off2 + j * 7, none⟩ = some (.int .i64 b0) ∧ V.cell? ⟨bk2, off2 + j * 7 + 1, none⟩ = some (.int .i64 b1) ∧ V.cell? ⟨bk2, off2 + j * 7 + 2, none⟩ = some (.int .i64 b2) ∧ V.cell? ⟨bk2, off2 + j * 7 + 3, none⟩ = some (.int .i64 b3) ∧ V.cell? ⟨bk2, off2 + j * 7 + 4, none⟩ = some (.bool b4) ∧ V.cell? ⟨bk2, off2 + j * 7 + 5, none⟩ = some (.int .i64 b5) ∧ V.cell? ⟨bk2, off2 + j * 7 + 6, none⟩ = some (.slice rd2 rn rc2)) V) := fun V hV => ⟨(hV.cell (p := ⟨_, _, none⟩) hbk).trans c0, (hV.cell (p := ⟨_, _, none⟩) hbk).trans c1, (hV.cell (p := ⟨_, _, none⟩) hbk).trans c2, (hV.cell (p := ⟨_, _, none⟩) hbk).trans c3, (hV.cell (p := ⟨_, _, none⟩) hbk).trans c4, (hV.cell (p := ⟨_, _, none⟩) hbk).trans c5, (hV.cell (p := ⟨_, _, none⟩) hbk).trans c6, (hV.cell (p := ⟨_, _, none⟩) hbk2).trans d0, (hV.cell (p := ⟨_, _, none⟩) hbk2).trans d1, (hV.cell (p := ⟨_, _, none⟩) hbk2).trans d2, (hV.cell (p := ⟨_, _, none⟩) hbk2).trans d3, (hV.cell (p := ⟨_, _, none⟩) hbk2).trans d4, (hV.cell (p := ⟨_, _, none⟩) hbk2).trans d5, (hV.cell (p := ⟨_, _, none⟩) hbk2).trans d6⟩
 have hdrw : Below wo.heap.size wo wo.drew := (Below.refl _ wo).drew
 clear hrec hrec2 hrc hrc2 hrn hm hm2 c0 c1 c2 c3 c4 c5 c6 d0 d1 d2 d3 d4 d5 d6 hbk hbk2
 go_upto_region 6 with fail
 refine wp_region_noPanic ?_
 refine zk [] KS ?_
 have hHeld := KS.out _ hdrw
 obtain ⟨u1, hu1⟩ := exq wo.drew
 rw [← hu1] at hHeld hdrw
 rw [← hu1]
 clear hu1
 have HU1 := qh hdrw
 clear hdrw
 refine zt 0 ?_
 refine zt 1 ?_
 refine zt 2 ?_
 refine zt 3 ?_
 refine zt 4 ?_
 refine zt 5 ?_
 refine zt 6 ?_
 refine zt 7 ?_
 refine zr 8 (fun C hC => ?_)
 go_simp
 refine (refSame_any u1 ⟨b0, b1, b2, b3, b4, b5, recs⟩ ⟨b0, b1, b2, b3, b4, b5, recs⟩ rd rd2 rn rn rc rc2 (HRC.out.keep HU1.out) (HRC2.out.keep HU1.out) hk3 true (by simp)).mono ?_
 rintro e u2 ⟨rfl, hb⟩
 have HU2 := qh (HU1.out.trans (hb.mono HU1.out.size))
 clear hb
 have hHeld := KS.out _ HU2.out
 refine zc hC hHeld ?_
 clear hC C
 refine zt 9 ?_
 refine zd ?_
 clear hHeld KS HU1
 have HB3 := qh (HB.out.trans (HU2.out.mono HB.out.size))
 go_wp2
 go_roundw
 case rel => exact ⟨j + 1, rfl, by omega, HB3.out⟩
 simp [intOf]; omega
end Go.Proofs.YtjmfdildnojknaaGreat
namespace Go.Proofs.YtjmfdildnojknaaGreat
open Go.RowKit
open Go.FoMath
open Go.ProdMath
open Go.BatMath hiding AllB getD_lt take_all In64
theorem grow_set7 (w : World) (P : Nat) (u0 u1 u2 u3 u4 u5 u6 : Value) : w.grownBy (((((((w.setCell ⟨P, 0, none⟩ u0).setCell ⟨P, 1, none⟩ u1).setCell ⟨P, 2, none⟩ u2).setCell ⟨P, 3, none⟩ u3).setCell ⟨P, 4, none⟩ u4).setCell ⟨P, 5, none⟩ u5).setCell ⟨P, 6, none⟩ u6) (some P) :=
 grow_trans (grow_trans (grow_trans (grow_trans (grow_trans (grow_trans (grow_one _ _ _ _) (grow_one _ _ _ _)) (grow_one _ _ _ _)) (grow_one _ _ _ _)) (grow_one _ _ _ _)) (grow_one _ _ _ _)) (grow_one _ _ _ _)
theorem mdRef_any {R : LogP} (C : MdCode R) (w : World) (tad : Option Addr) (tlen tcap : Nat) (zs : List Int) (h : Nums w tad tlen zs) (hL : tlen ≤ 140737488355328) (rad : Option Addr) (rlen rcap : Nat) (rms : List BM) (hraw : BatsAt w rad rlen rcap rms) (hro : BatsOk (bats rms)) (size : Int) (hsz : -9223372036854775808 ≤ size ∧ size ≤ 9223372036854775807) (hrlen : rlen ≤ 140737488355328) :
 Calls Tryz.prog 6 #[.slice tad tlen tcap, .slice rad rlen rcap, .int .i64 size] w (GivesBool w true) := by
 have HC := qh C
 have HNUM := qh (numsIn_of h hL)
 have HRAW := qh hraw
 have HRO := qh hro
 clear C h hL hraw hro
 go_enter Tryz.func6, Tryz.ntmps6
 go_wp2_with fail
 refine (within1_any size 900 w hsz (by decide)).mono ?_
 rintro e w' ⟨k, rfl, hk1, hk9, rfl⟩
 clear hsz
 go_wp2_with fail
 refine (HC.out.new w 0 0 0 (k : Int) (by omega) (by omega)).mono ?_
 rintro e w1 hp
 obtain ⟨a, rfl, hl, hb⟩ := LogAt.made (B := w.heap.size) (X := fun _ => False) HC.out hp ⟨RowW.nil, by decide, by decide, Nat.zero_le _⟩ (Nat.le_refl _) (fun k h => h.elim)
 have HB1 := qh hb
 have HL1 := qh hl
 clear hp hl hb
 go_upto_region 6 with fail
 obtain ⟨W2, hW2⟩ := exq (w1.alloc (.cells #[.slice tad tlen tcap, .int .i64 0] 47))
 obtain ⟨kt, hkt⟩ := exq w1.heap.size
 have hb2 := wbq hW2
 have HBW : Hid (Below w.heap.size w W2) := HB1.out.trans (hb2.mono HB1.out.size)
 have HKT : Hid (w.heap.size ≤ kt) := by show _ ≤ _; have h1 := HB1.out.size; omega
 have HT2 : Hid (TapeT W2 kt tad tlen tcap) := ⟨0, numsIn_tape HNUM.out HBW.out HKT.out (by rw [hW2, hkt]; exact heap_alloc_new w1 _)⟩
 have HL2 : Hid (LogAt R w.heap.size (fun j => j = kt) W2 a (k : Int) 0 []) := (HL1.out.more HC.out (X' := fun j => j = kt) (fun j hj => .inr (by omega))).on HC.out hb2
 (try rw [← hW2])
 (try rw [← hkt])
 clear hW2 hkt hb2 HB1 HL1
 go_wp2
 go_loopw [10] (fun v10 wr => ∃ (i : Nat) (bs : List Bat), v10 = .int .i64 (i : Int) ∧ i ≤ 40 ∧ Hid (bs.length ≤ i) ∧ Hid (bytesD bs ≤ (k : Int)) ∧ Hid (LogAt R w.heap.size (fun j => j = kt) wr a (k : Int) 0 bs) ∧ Hid (TapeT wr kt tad tlen tcap) ∧ Hid (Below w.heap.size w wr)) (fun v10 _ => 40 - (intOf v10).toNat)
 case atStart => exact ⟨0, [], rfl, by decide, Nat.le_refl _, by show (0 : Int) ≤ _; omega, HL2.out, HT2.out, HBW.out⟩
 obtain ⟨i, bs, rfl, hi, HBL, HCP, HL, HT, HB⟩ := hrel
 clear HL2 HT2 HBW
 obtain ⟨wo, hwo⟩ := exq wr
 subst hwo
 by_cases hlt : i < 40
 rotate_left
 · have hd : decide (i < 40) = false := decide_eq_false hlt
   have hdi : decide ((i : Int) < 40) = false := decide_eq_false (by omega)
   clear hlt hi
   go_wp2_with fail
   refine (mdKnown_any HC.out wo).mono ?_
   rintro e w9 ⟨rfl, hb⟩
   have HB9 := qh (HB.out.trans (hb.mono HB.out.size))
   clear hb
   go_wp2
   go_ret
   exact ⟨rfl, HB9.out⟩
 have hd : decide (i < 40) = true := decide_eq_true hlt
 have hdi : decide ((i : Int) < 40) = true := decide_eq_true (by omega)
 obtain ⟨it, hta⟩ := HT.out
 have HTA := qh hta
 clear hta
 go_wp2_with fail
 refine (tapeBatch_any wo kt tad tlen tcap it 0 HTA.out (by decide) (by decide)).mono ?_
 rintro e w2 ⟨⟨b0, b1, b2, b3, b4, b5, recs⟩, rd, rc, rfl, hb0, hrt, hwf, hre, hrn, ht2, hg2⟩
 have hok := ok_of hrt
 have HTX : Hid (TextsOk recs) := texts_of hok.texts
 have HN : Hid (recs.length ≤ 140737488355328) := by show _ ≤ _; have := hok.recs; simp only at this; omega
 have HPM : Hid (b1 ≤ 9223372036854775807) := hwf.prod.2
 have HRE2 : Hid (RecsAt w2 rd recs.length rc recs) := hre
 have HRB2 : Hid (∀ a, rd = some a → wo.heap.size ≤ a.block) := hrn
 have HT2 := qh ht2
 have HG2 := qh hg2
 simp only
 clear hb0 hrt hwf hre hrn ht2 hg2 hok
 go_upto_region 10 with fail
 obtain ⟨W3, hW3⟩ := exq (w2.alloc (.cells #[.int .i64 b0, .int .i64 b1, .int .i64 b2, .int .i64 b3, .bool b4, .int .i64 b5, .slice rd recs.length rc] 29))
 obtain ⟨P, hP⟩ := exq w2.heap.size
 have hb3 := wbq hW3
 have HX3 := bxq hW3 hP
 have HRE3 := qh (HRE2.out.keep hb3)
 have hk3 : Kept wo W3 (fun j => j = kt) := (Kept.of_grown (F := fun j => j = kt) HG2.out (.inl rfl)).trans (Kept.of_below (F := fun _ => False) hb3) (fun i hi => hi.elim)
 have HT3 : Hid (TapeT W3 kt tad tlen tcap) := by
  obtain ⟨i2, h2⟩ := HT2.out
  exact ⟨i2, h2.on hb3⟩
 have HB3 : Hid (Below w.heap.size w W3) := HB.out.trans (hk3.below (fun k h => by rw [h]; exact HKT.out) HB.out.size)
 have HPW : Hid (w.heap.size ≤ P ∧ P ≠ kt) := by
  show _ ∧ _
  have h1 := HB.out.size
  have h2 := HG2.out.size
  obtain ⟨i2, h3⟩ := HT2.out
  have h4 := h3.lt
  exact ⟨by omega, by omega⟩
 have HL3 : Hid (LogAt R w.heap.size (fun j => (j = kt ∨ j = P) ∨ recX rd recs.length j) W3 a (k : Int) 0 bs) := by
  show LogAt _ _ _ _ _ _ _ _
  have h1 := HL.out.more HC.out (X' := fun j => (j = kt ∨ j = P) ∨ recX rd recs.length j) (fun j hj => by
   rcases hj with (hj | hj) | ⟨hj, a1, h2, h3⟩
   · exact .inl hj
   · refine .inr ?_
     have := HG2.out.size
     omega
   refine .inr ?_
   rw [h3]
   exact HRB2.out a1 h2)
  exact h1.other HC.out hk3 (fun j hj => .inl (.inl (.inl hj)))
 rw [← hW3, ← hP]
 clear hW3 hP hb3 hk3 HT2 HG2 HRE2 HRB2 HTA HL HT HB
 go_cut [43] from 35 to 42 (fun s43 wx => ∃ c : Bool, s43 = .bool c ∧ W3 = wx ∧ (c = true → i < rlen))
 case first =>
  clear HX3 HRE3 HTX HN HPM HL3 HT3 HB3 HPW HKT HBL HCP HRO HRAW HNUM HC
  by_cases hir : i < rlen
  rotate_left
  · have hd1 : decide (i < rlen) = false := decide_eq_false hir
    have hd1i : decide ((i : Int) < (rlen : Int)) = false := decide_eq_false (by omega)
    clear hir
    go_wp2
    go_meet
    case rel => exact ⟨false, rfl, rfl, fun h => by cases h⟩
  have hd1 : decide (i < rlen) = true := decide_eq_true hir
  have hd1i : decide ((i : Int) < (rlen : Int)) = true := decide_eq_true (by omega)
  by_cases hev : i % 2 = 0
  · have hde : ((i : Int) % 2 == 0) = true := by simp; omega
    have HIR := qh hir
    clear hev hir
    go_wp2
    go_meet
    case rel => exact ⟨true, rfl, rfl, fun _ => HIR.out⟩
  have hde : ((i : Int) % 2 == 0) = false := by simp; omega
  clear hev hir
  go_wp2
  go_meet
  case rel => exact ⟨false, rfl, rfl, fun h => by cases h⟩
 case rest =>
  obtain ⟨c, rfl, hwc, hc⟩ := hcut
  subst hwc
  have HCC := qh hc
  clear hc
  go_upto_if 43 with fail
  go_cut [] from 44 to 47 (fun wx => ∃ (b0 b1 b2 b3 : Int) (b4 : Bool) (b5 : Int) (recs : List Rc) (rd : Option Addr) (rc : Nat), Hid (BoxAt wx P b0 b1 b2 b3 b4 b5 (.slice rd recs.length rc)) ∧ Hid (RecsAt wx rd recs.length rc recs) ∧ Hid (TextsOk recs) ∧ Hid (recs.length ≤ 140737488355328) ∧ Hid (b1 ≤ 9223372036854775807) ∧ Hid (LogAt R w.heap.size (fun j => (j = kt ∨ j = P) ∨ recX rd recs.length j) wx a (k : Int) 0 bs) ∧ Hid (TapeT wx kt tad tlen tcap) ∧ Hid (Below w.heap.size w wx))
  case first =>
   cases c with
   | true =>
    have hir := HCC.out rfl
    have hirl : (i : Int) < (rlen : Int) := by omega
    obtain ⟨gb, goff, m, el, hgb, hgm, hgr, g0, g1, g2, g3, g4, g5, g6⟩ := (HRAW.out.keep HB3.out).get hir
    have hmem := List.mem_of_getElem? hgm
    have hbo := HRO.out m.b (List.mem_map.2 ⟨m, hmem, rfl⟩)
    have hrw := HRAW.out.ins m hmem
    subst el
    obtain ⟨⟨r0, r1, r2, r3, r4, r5, rrecs⟩, rrd, rrc⟩ := m
    simp only at g0 g1 g2 g3 g4 g5 g6
    have HRR : Hid (RecsAt w rrd rrecs.length rrc rrecs) := hrw
    have HRT : Hid (TextsOk rrecs) := hbo.1
    have HRP : Hid (r1 ≤ 9223372036854775807) := hbo.2.1
    have HRN : Hid (rrecs.length ≤ 140737488355328) := hbo.2.2
    clear hgm hgr hmem hbo hrw hgb HCC
    obtain ⟨p0, p1, p2, p3, p4, p5, p6⟩ := HX3.out.cs
    obtain ⟨f0, f1, f2, f3, f4, f5, f6⟩ := HX3.out.fs
    go_wp2
    go_meet
    case rel =>
     have hg := grow_set7 W3 P (.int .i64 r0) (.int .i64 r1) (.int .i64 r2) (.int .i64 r3) (.bool r4) (.int .i64 r5) (.slice rrd rrecs.length rrc)
     have hkp : Kept W3 _ (fun j => j = P) := Kept.of_grown hg (.inl rfl)
     have hbw : Below w.heap.size w (((((((W3.setCell ⟨P, 0, none⟩ (.int .i64 r0)).setCell ⟨P, 1, none⟩ (.int .i64 r1)).setCell ⟨P, 2, none⟩ (.int .i64 r2)).setCell ⟨P, 3, none⟩ (.int .i64 r3)).setCell ⟨P, 4, none⟩ (.bool r4)).setCell ⟨P, 5, none⟩ (.int .i64 r5)).setCell ⟨P, 6, none⟩ (.slice rrd rrecs.length rrc)) := HB3.out.trans (hkp.below (fun k h => by rw [h]; exact HPW.out.1) HB3.out.size)
     refine ⟨r0, r1, r2, r3, r4, r5, rrecs, rrd, rrc, ((((((HX3.out.s0 _).s1 _).s2 _).s3 _).s4 _).s5 _).s6 _, HRR.out.keep hbw, HRT.out, HRN.out, HRP.out, ?_, ?_, hbw⟩
     · obtain ⟨F, hF, hFB, hFX, hcl⟩ := HL3.out.claim
       refine (hcl (fun j => (j = kt ∨ j = P) ∨ recX rrd rrecs.length j) (fun j hf hj => ?_)).other HC.out hkp (fun j hj => .inl (.inl (.inr hj)))
       rcases hj with hj | ⟨hj, a1, h2, h3⟩
       · exact hFX j hf (.inl hj)
       have h4 := HRR.out.bound hj h2
       have h5 := hFB j hf
       omega
     obtain ⟨i2, h2⟩ := HT3.out
     exact ⟨i2, h2.again HNUM.out hbw HKT.out (hkp.block kt h2.lt (fun h => HPW.out.2 h.symm))⟩
   | false =>
    go_wp2
    go_meet
    case rel => exact ⟨b0, b1, b2, b3, b4, b5, recs, rd, rc, HX3.out, HRE3.out, HTX.out, HN.out, HPM.out, HL3.out, HT3.out, HB3.out⟩
  case rest =>
   clear HX3 HRE3 HTX HN HPM HL3 HT3 HB3 HCC
   obtain ⟨b0, b1, b2, b3, b4, b5, recs, rd, rc, HX, HRE, HTX, HN, HPM, HL, HT, HB⟩ := hcut
   go_wp2_with fail
   obtain ⟨F, hF, hFB, hFX⟩ := HL.out.is
   have HF0 := qh hF
   have HFB : Hid (∀ j, F j → w.heap.size ≤ j) := hFB
   have HFX : Hid (∀ j, F j → ¬ ((j = kt ∨ j = P) ∨ recX rd recs.length j)) := hFX
   clear hF hFB hFX
   refine (HC.out.batches F wc a (k : Int) 0 bs HF0.out HL.out.row).mono ?_
   rintro e v1 ⟨ba, bn, bc, bm, rfl, hbt, hbs, hba, hbi, hb⟩
   have HF1 := qh (HC.out.keep' HF0.out hb)
   have HBT := qh hbt
   have HBS := qh hbs
   have HBA : Hid (∀ j, btX ba bm j → ¬ F j ∧ j < v1.heap.size) := fun j hj => by
    rcases hj with ⟨a1, h1, h2⟩ | ⟨m, hm, a1, h1, h2⟩
    · rw [h2]; exact hba a1 h1
    rw [h2]; exact hbi m hm a1 h1
   have HX1 := qh (HX.out.on hb)
   have HRE1 := qh (HRE.out.keep hb)
   have HB1 := qh (HB.out.trans (hb.mono HB.out.size))
   have HT1 : Hid (TapeT v1 kt tad tlen tcap) := by
    obtain ⟨i2, h2⟩ := HT.out
    exact ⟨i2, h2.on hb⟩
   have hbn : bn ≤ 40 := by
    have h1 := hbt.row.length
    have h2 := congrArg List.length hbs
    unfold bats at h2
    rw [List.length_map] at h2
    have h3 := HBL.out
    omega
   have HLR := qh HL.out.row
   clear hbt hbs hba hbi hb HF0 HX HRE HB HT HL
   go_wp2_with fail
   refine (HC.out.producers F v1 a (k : Int) 0 bs HF1.out HLR.out).mono ?_
   rintro e v2 ⟨pa, pn, pc, pm, rfl, hpt, hps, hpa, hpi, hb⟩
   have HF2 := qh (HC.out.keep' HF1.out hb)
   have HPT := qh hpt
   have HPS := qh hps
   have HPA : Hid (∀ j, pdX pa pm j → ¬ F j ∧ j < v2.heap.size) := fun j hj => by
    rcases hj with ⟨a1, h1, h2⟩ | ⟨m, hm, a1, h1, h2⟩
    · rw [h2]; exact hpa a1 h1
    rw [h2]; exact hpi m hm a1 h1
   have HX2 := qh (HX1.out.on hb)
   have HRE2 := qh (HRE1.out.keep hb)
   have HBT2 := qh (HBT.out.keep hb)
   have HB2 := qh (HB1.out.trans (hb.mono HB1.out.size))
   have HT2 : Hid (TapeT v2 kt tad tlen tcap) := by
    obtain ⟨i2, h2⟩ := HT1.out
    exact ⟨i2, h2.on hb⟩
   have HL2 : Hid (LogAt R w.heap.size (fun j => ((j = kt ∨ j = P) ∨ recX rd recs.length j) ∨ (btX ba bm j ∨ pdX pa pm j)) v2 a (k : Int) 0 bs) := ⟨⟨F, HF2.out, HFB.out, fun j hf hj => by
    rcases hj with hj | hj | hj
    · exact HFX.out j hf hj
    · exact (HBA.out j hj).1 hf
    exact (HPA.out j hj).1 hf⟩, HLR.out⟩
   have HBND : Hid (∀ j, (((j = kt ∨ j = P) ∨ recX rd recs.length j) ∨ (btX ba bm j ∨ pdX pa pm j)) → j < v2.heap.size) := fun j hj => by
    rcases hj with ((hj | hj) | ⟨hj, a1, h1, h2⟩) | hj | hj
    · rw [hj]; obtain ⟨i2, h2⟩ := HT2.out; exact h2.lt
    · rw [hj]; exact HX2.out.lt
    · rw [h2]; exact HRE2.out.bound hj h1
    · have h1 := (HBA.out j hj).2
      have := hb.size
      omega
    exact (HPA.out j hj).2
   clear hpt hps hpa hpi hb HF1 HF2 HFB HFX HBA HPA HX1 HRE1 HBT HB1 HT1
   have p5 := HX2.out.c5
   go_upto_if 54 with fail
   clear p5
   go_cut [14, 15] from 52 to 71 (fun s14 s15 wx => ∃ (n er : Int) (bs' : List Bat), s14 = .int .i64 n ∧ s15 = .int .i64 er ∧ Hid (er ≠ 0 → n = -1 ∧ bs' = bs) ∧ Hid (bs'.length ≤ bs.length + 1) ∧ Hid (bytesD bs' ≤ (k : Int)) ∧ Hid (LogAt R w.heap.size (fun j => ((j = kt ∨ j = P) ∨ recX rd recs.length j) ∨ (btX ba bm j ∨ pdX pa pm j)) wx a (k : Int) 0 bs') ∧ Hid (BatsAt wx ba bn bc bm) ∧ Hid (PdsAt wx pa pn pc pm) ∧ Hid (TapeT wx kt tad tlen tcap) ∧ Hid (Below w.heap.size w wx))
   case first =>
    obtain ⟨p0, p1, p2, p3, p4, p5, p6⟩ := HX2.out.cs
    by_cases hmk : b5 = 0
    · have hd5 : (b5 != 0) = false := by rw [hmk]; rfl
      clear hmk
      have hgr := produceW_grows (cap := (k : Int)) (b := ⟨b0, b1, b2, b3, b4, b5, recs⟩) HLR.out.row HPM.out
      have hrf := produce_ref (k : Int) 0 bs ⟨b0, b1, b2, b3, b4, b5, recs⟩
      obtain ⟨⟨⟨n, er⟩, bs'⟩, hr⟩ : ∃ r, produceD (k : Int) 0 bs ⟨b0, b1, b2, b3, b4, b5, recs⟩ = r := ⟨_, rfl⟩
      rw [hr] at hgr hrf
      have HGR := qh hgr
      have HRF := qh hrf
      have HRR := qh hr
      clear hr hgr hrf
      go_wp2_with fail
      obtain ⟨F, hF, hFB, hFX⟩ := HL2.out.is
      refine (HC.out.produce F v2 a (k : Int) 0 bs ⟨b0, b1, b2, b3, b4, b5, recs⟩ rd rc hF HLR.out HRE2.out HTX.out HN.out HPM.out).mono ?_
      rintro e v3 hp
      rw [HRR.out] at hp
      obtain ⟨rfl, hl, hkp⟩ := LogAt.turn (B := w.heap.size) (X := fun j => ((j = kt ∨ j = P) ∨ recX rd recs.length j) ∨ (btX ba bm j ∨ pdX pa pm j)) hp ⟨HGR.out.1, by decide, by decide, by have h1 := HGR.out.2.1; have h2 := HBL.out; simp only at h1 ⊢; omega⟩ hFB hFX HB2.out.size HBND.out
      clear p0 p1 p2 p3 p4 p5 p6 hF hFB hFX hp
      go_wp2
      go_meet
      case rel => exact ⟨n, er, bs', rfl, rfl, HRF.out.1, HGR.out.2.1, HRF.out.2 HCP.out, hl, HBT2.out.kept hkp (fun a1 ha h => h.2 (.inr (.inl (.inl ⟨a1, ha, rfl⟩)))) (fun m hm a1 ha h => h.2 (.inr (.inl (.inr ⟨m, hm, a1, ha, rfl⟩)))), HPT.out.kept hkp (fun a1 ha h => h.2 (.inr (.inr (.inl ⟨a1, ha, rfl⟩)))) (fun m hm a1 ha h => h.2 (.inr (.inr (.inr ⟨m, hm, a1, ha, rfl⟩)))), (by obtain ⟨i2, h2⟩ := HT2.out; exact ⟨i2, h2.again HNUM.out (HB2.out.trans (hkp.below (fun k h => h.1) HB2.out.size)) HKT.out (hkp.block kt h2.lt (fun h => h.2 (.inl (.inl (.inl rfl)))))⟩), HB2.out.trans (hkp.below (fun k h => h.1) HB2.out.size)⟩
    have hd5 : (b5 != 0) = true := by simp [hmk]
    clear hmk
    have hgr := markW_grows (cap := (k : Int)) (p := b1) (e := b2) (m := b5) HLR.out.row HPM.out
    have hrf := mark_ref (k : Int) 0 bs b1 b2 b5
    obtain ⟨⟨⟨n, er⟩, bs'⟩, hr⟩ : ∃ r, markD (k : Int) 0 bs b1 b2 b5 = r := ⟨_, rfl⟩
    rw [hr] at hgr hrf
    have HGR := qh hgr
    have HRF := qh hrf
    have HRR := qh hr
    clear hr hgr hrf
    go_wp2_with fail
    obtain ⟨F, hF, hFB, hFX⟩ := HL2.out.is
    refine (HC.out.mark F v2 a (k : Int) 0 bs b1 b2 b5 hF HLR.out HPM.out).mono ?_
    rintro e v3 hp
    rw [HRR.out] at hp
    obtain ⟨rfl, hl, hkp⟩ := LogAt.turn (B := w.heap.size) (X := fun j => ((j = kt ∨ j = P) ∨ recX rd recs.length j) ∨ (btX ba bm j ∨ pdX pa pm j)) hp ⟨HGR.out.1, by decide, by decide, by have h1 := HGR.out.2.1; have h2 := HBL.out; simp only at h1 ⊢; omega⟩ hFB hFX HB2.out.size HBND.out
    clear p0 p1 p2 p3 p4 p5 p6 hF hFB hFX hp
    go_wp2
    go_meet
    case rel => exact ⟨n, er, bs', rfl, rfl, HRF.out.1, HGR.out.2.1, HRF.out.2 HCP.out, hl, HBT2.out.kept hkp (fun a1 ha h => h.2 (.inr (.inl (.inl ⟨a1, ha, rfl⟩)))) (fun m hm a1 ha h => h.2 (.inr (.inl (.inr ⟨m, hm, a1, ha, rfl⟩)))), HPT.out.kept hkp (fun a1 ha h => h.2 (.inr (.inr (.inl ⟨a1, ha, rfl⟩)))) (fun m hm a1 ha h => h.2 (.inr (.inr (.inr ⟨m, hm, a1, ha, rfl⟩)))), (by obtain ⟨i2, h2⟩ := HT2.out; exact ⟨i2, h2.again HNUM.out (HB2.out.trans (hkp.below (fun k h => h.1) HB2.out.size)) HKT.out (hkp.block kt h2.lt (fun h => h.2 (.inl (.inl (.inl rfl)))))⟩), HB2.out.trans (hkp.below (fun k h => h.1) HB2.out.size)⟩
   case rest =>
    obtain ⟨n, er, bs', rfl, rfl, HREF, HLEN, HCP2, HL3, HBT3, HPT3, HT3, HB3⟩ := hcut
    clear HL2 HBT2 HPT HT2 HB2 HX2 HRE2
    have hbnl : bn = bs.length := by
     have h1 := HBT3.out.row.length
     have h2 := congrArg List.length HBS.out
     unfold bats at h2
     rw [List.length_map] at h2
     omega
    have HBNL := qh hbnl
    have HLR3 := qh HL3.out.row
    clear hbnl
    go_upto_region 18 with fail
    go_cut [104] from 72 to 103 (fun s104 wx => s104 = .bool false ∧ Hid (LogAt R w.heap.size (fun j => j = kt) wx a (k : Int) 0 bs') ∧ Hid (TapeT wx kt tad tlen tcap) ∧ Hid (Below w.heap.size w wx))
    case first =>
     by_cases her : er = 0
     · have hde : (er != 0) = false := by rw [her]; rfl
       have hde2 : (er == 0) = true := by rw [her]; rfl
       clear her
       go_wp2_with fail
       obtain ⟨F, hF, hFB, hFX, hcl⟩ := HL3.out.claim
       refine (HC.out.batches F _ a (k : Int) 0 bs' hF HLR3.out).mono ?_
       rintro e v4 ⟨ca, cn, cc, cm, rfl, hct, hcs, -, -, hb⟩
       have hcmp : decide ((bn : Int) + 1 < (cn : Int)) = false := decide_eq_false (by
        have h1 := hct.row.length
        have h2 := congrArg List.length hcs
        unfold bats at h2
        rw [List.length_map] at h2
        have h3 := HLEN.out
        have h4 := HBNL.out
        omega)
       have HL4 : Hid (LogAt R w.heap.size (fun j => j = kt) v4 a (k : Int) 0 bs') := (HL3.out.less (fun j hj => .inl (.inl (.inl hj)))).on HC.out hb
       have HT4 : Hid (TapeT v4 kt tad tlen tcap) := by
        obtain ⟨i2, h2⟩ := HT3.out
        exact ⟨i2, h2.on hb⟩
       have HB4 := qh (HB3.out.trans (hb.mono HB3.out.size))
       clear hF hFB hFX hcl hct hcs hb
       go_wp2
       go_meet
       case rel => exact ⟨rfl, HL4.out, HT4.out, HB4.out⟩
     have hde : (er != 0) = true := by simp [her]
     have hde2 : (er == 0) = false := beq_false_of_ne her
     obtain ⟨hn, hbb⟩ := HREF.out her
     subst hn hbb
     clear her
     go_wp2_with fail
     obtain ⟨F, hF, -, -, -⟩ := HL3.out.claim
     refine (HC.out.batches F _ a (k : Int) 0 bs' hF HLR3.out).mono ?_
     rintro e v4 ⟨ca, cn, cc, cm, rfl, hct, hcs, -, -, hb⟩
     have HCT := qh hct
     have HCS := qh hcs
     have hcn : cn ≤ 1000000 := by
      have h1 := hct.row.length
      have h2 := congrArg List.length hcs
      unfold bats at h2
      rw [List.length_map] at h2
      have h3 := HLR3.out.few
      omega
     have HF4 := qh (HC.out.keep' hF hb)
     have HBT4 := qh (HBT3.out.keep hb)
     have HPT4 := qh (HPT3.out.keep hb)
     have HL4 : Hid (LogAt R w.heap.size (fun j => j = kt) v4 a (k : Int) 0 bs') := (HL3.out.less (fun j hj => .inl (.inl (.inl hj)))).on HC.out hb
     have HT4 : Hid (TapeT v4 kt tad tlen tcap) := by
      obtain ⟨i2, h2⟩ := HT3.out
      exact ⟨i2, h2.on hb⟩
     have HB4 := qh (HB3.out.trans (hb.mono HB3.out.size))
     clear hF hct hcs hb
     go_wp2_with fail
     refine (refRows2_any v4 ca ba cn bn cc bc cm bm HCT.out HBT4.out (HCS.out.trans HBS.out.symm) hcn (batsOk_of (by rw [HCS.out]; exact HLR3.out.ok))).mono ?_
     rintro e v5 ⟨rfl, hb⟩
     have HF5 := qh (HC.out.keep' HF4.out hb)
     have HPT5 := qh (HPT4.out.keep hb)
     have HL5 := qh (HL4.out.on HC.out hb)
     have HT5 : Hid (TapeT v5 kt tad tlen tcap) := by
      obtain ⟨i2, h2⟩ := HT4.out
      exact ⟨i2, h2.on hb⟩
     have HB5 := qh (HB4.out.trans (hb.mono HB4.out.size))
     clear hb HF4 HPT4 HL4 HT4 HB4 HCT HCS HBT4 hcn
     go_wp2_with fail
     refine (HC.out.producers F v5 a (k : Int) 0 bs' HF5.out HLR3.out).mono ?_
     rintro e v6 ⟨qa, qn, qc, qm, rfl, hqt, hqs, -, -, hb⟩
     have HQT := qh hqt
     have HQS := qh hqs
     have hqn : qn ≤ 1000000 := by
      have h1 := hqt.row.length
      have h2 := congrArg List.length hqs
      unfold pds at h2
      rw [List.length_map] at h2
      have h4 := SnapMath.fold_len bs' []
      have h3 := HLR3.out.few
      simp only [List.length_nil] at h4
      omega
     have HPT6 := qh (HPT5.out.keep hb)
     have HL6 := qh (HL5.out.on HC.out hb)
     have HT6 : Hid (TapeT v6 kt tad tlen tcap) := by
      obtain ⟨i2, h2⟩ := HT5.out
      exact ⟨i2, h2.on hb⟩
     have HB6 := qh (HB5.out.trans (hb.mono HB5.out.size))
     clear hqt hqs hb HF5 HPT5 HL5 HT5 HB5
     go_wp2_with fail
     refine (refAllP_any v6 qa pa qn pn qc pc qm pm HQT.out HPT6.out (HQS.out.trans HPS.out.symm) hqn (by rw [HQS.out]; exact foldP_few bs' (fun p hp => by cases hp))).mono ?_
     rintro e v7 ⟨rfl, hb⟩
     have HL7 := qh (HL6.out.on HC.out hb)
     have HT7 : Hid (TapeT v7 kt tad tlen tcap) := by
      obtain ⟨i2, h2⟩ := HT6.out
      exact ⟨i2, h2.on hb⟩
     have HB7 := qh (HB6.out.trans (hb.mono HB6.out.size))
     clear hb HL6 HT6 HB6 HPT6 HQT HQS hqn
     go_wp2
     go_meet
     case rel => exact ⟨rfl, HL7.out, HT7.out, HB7.out⟩
    case rest =>
     obtain ⟨rfl, HL4, HT4, HB4⟩ := hcut
     clear HL3 HBT3 HPT3 HT3 HB3 HREF
     have HLEN2 : Hid (bs'.length ≤ i + 1) := by show _ ≤ _; have h1 := HLEN.out; have h2 := HBL.out; omega
     clear HLEN
     go_wp2_with fail
     obtain ⟨F, hF, -, -, -⟩ := HL4.out.claim
     refine (HC.out.batches F _ a (k : Int) 0 bs' hF HLR3.out).mono ?_
     rintro e v4 ⟨ca, cn, cc, cm, rfl, hct, hcs, -, -, hb⟩
     have HCT := qh hct
     have HCS := qh hcs
     have hcnl : bs'.length = cn := by
      have h1 := hct.row.length
      have h2 := congrArg List.length hcs
      unfold bats at h2
      rw [List.length_map] at h2
      omega
     have hcn : cn ≤ 41 := by
      have h3 := HLEN2.out
      omega
     have HCNL := qh hcnl
     have HL5 := qh (HL4.out.on HC.out hb)
     have HT5 : Hid (TapeT v4 kt tad tlen tcap) := by
      obtain ⟨i2, h2⟩ := HT4.out
      exact ⟨i2, h2.on hb⟩
     have HB5 := qh (HB4.out.trans (hb.mono HB4.out.size))
     clear hF hct hcs hb hcnl HL4 HT4 HB4
     go_wp2
     go_loopw [16, 108] (fun v16 v108 wr => ∃ (q : Nat) (sm : Int), v16 = .int .i64 sm ∧ v108 = .int .i64 (q : Int) ∧ q ≤ cn ∧ Hid (sm = bytesD (bs'.take q)) ∧ Hid (BatsAt wr ca cn cc cm) ∧ Hid (LogAt R w.heap.size (fun j => j = kt) wr a (k : Int) 0 bs') ∧ Hid (TapeT wr kt tad tlen tcap) ∧ Hid (Below w.heap.size w wr)) (fun _ v108 _ => cn - (intOf v108).toNat)
     case atStart => exact ⟨0, 0, rfl, rfl, Nat.zero_le _, rfl, HCT.out, HL5.out, HT5.out, HB5.out⟩
     obtain ⟨q, sm, rfl, rfl, hq, HSM, HCTr, HLr, HTr, HBr⟩ := hrel
     clear HCT HL5 HT5 HB5
     obtain ⟨w5, hw5⟩ := exq wr
     subst hw5
     by_cases hqt : q < cn
     rotate_left
     · have hd3 : decide (q < cn) = false := decide_eq_false hqt
       have hqn : q = cn := by omega
       have hsk : decide ((k : Int) < sm) = false := decide_eq_false (by
        have h1 := HSM.out
        have h2 := HCP2.out
        rw [hqn, ← HCNL.out, List.take_length] at h1
        omega)
       clear hqt hqn hq
       go_wp2
       go_roundw
       case rel => exact ⟨i + 1, bs', rfl, hlt, HLEN2.out, HCP2.out, HLr.out, HTr.out, HBr.out⟩
       simp [intOf]; omega
     have hd3 : decide (q < cn) = true := decide_eq_true hqt
     have hql : (q : Int) < (cn : Int) := by omega
     obtain ⟨gb, goff, m, el, hgb, hgm, hgr, g0, g1, g2, g3, g4, g5, g6⟩ := HCTr.out.get hqt
     have hbm : bs'[q]? = some m.b := by
      rw [← HCS.out]
      unfold bats
      rw [List.getElem?_map, hgm]
      rfl
     have HSM2 := qh (bytesD_take hbm)
     have HOKB := qh (HLR3.out.ok m.b (List.mem_of_getElem? hbm))
     have hsz1 := size_bd m.b
     have hsz2 := bytesD_bd (bs'.take q)
     rw [← HSM.out, List.length_take] at hsz2
     have hrec : RecsAt w5 m.ad m.b.recs.length m.cap m.b.recs := hgr
     subst el
     obtain ⟨⟨b0, b1, b2, b3, b4, b5, recs⟩, rd, rc⟩ := m
     simp only at g0 g1 g2 g3 g4 g5 g6 hrec
     obtain ⟨sz, hszz⟩ := exq (sizeB ⟨b0, b1, b2, b3, b4, b5, recs⟩)
     have hs0 : 0 ≤ sz ∧ sz ≤ 2404 := by rw [hszz]; exact hsz1
     have hs1 : 0 ≤ sm ∧ sm ≤ 100000 := by omega
     have hwr : wrap64 (sm + sz) = sm + sz := by unfold wrap64; omega
     have HSZ := qh hszz
     have HRC := qh hrec
     obtain ⟨s2, hs2⟩ := exq (sm + sz)
     rw [← hs2] at hwr
     have HS2 : Hid (s2 = bytesD (bs'.take (q + 1))) := by show _ = _; rw [hs2, HSM2.out, HSM.out, hszz]
     have hss : sm + sz = s2 := hs2.symm
     clear hgm hgr hbm hsz1 hsz2 hrec hszz hs0 hs1 hs2
     go_upto_region 24 with fail
     obtain ⟨W6, hW6⟩ := exq (w5.alloc (.cells #[.int .i64 b0, .int .i64 b1, .int .i64 b2, .int .i64 b3, .bool b4, .int .i64 b5, .slice rd recs.length rc] 29))
     obtain ⟨Q, hQ⟩ := exq w5.heap.size
     have hb6 := wbq hW6
     have HX6 := bxq hW6 hQ
     have HCT6 := qh (HCTr.out.keep hb6)
     have HRC6 := qh (HRC.out.keep hb6)
     have HL6 := qh (HLr.out.on HC.out hb6)
     have HT6 : Hid (TapeT W6 kt tad tlen tcap) := by
      obtain ⟨i2, h2⟩ := HTr.out
      exact ⟨i2, h2.on hb6⟩
     have HB6 := qh (HBr.out.trans (hb6.mono HBr.out.size))
     rw [← hW6, ← hQ]
     clear hW6 hQ hb6 g0 g1 g2 g3 g4 g5 g6 hgb HCTr HRC HLr HTr HBr
     obtain ⟨p0, p1, p2, p3, p4, p5, p6⟩ := HX6.out.cs
     go_wp2_with fail
     clear p0 p1 p2 p3 p4 p5 p6
     refine (refSize_any W6 ⟨b0, b1, b2, b3, b4, b5, recs⟩ rd recs.length rc HRC6.out (texts_of (ok_of HOKB.out.1).texts) (by have := (ok_of HOKB.out.1).recs; simp only at this; omega) HOKB.out.2.prod.2).mono ?_
     rintro e w7 ⟨rfl, hb⟩
     rw [← HSZ.out]
     have HCT7 := qh (HCT6.out.keep hb)
     have HL7 := qh (HL6.out.on HC.out hb)
     have HT7 : Hid (TapeT w7 kt tad tlen tcap) := by
      obtain ⟨i2, h2⟩ := HT6.out
      exact ⟨i2, h2.on hb⟩
     have HB7 := qh (HB6.out.trans (hb.mono HB6.out.size))
     clear hb HCT6 HL6 HT6 HB6 HX6 HRC6
     go_wp2
     go_roundw
     case rel => exact ⟨q + 1, s2, congrArg (Value.int .i64) hwr, rfl, hqt, HS2.out, HCT7.out, HL7.out, HT7.out, HB7.out⟩
     simp [intOf]; omega
end Go.Proofs.YtjmfdildnojknaaGreat
namespace Go.Proofs.YtjmfdildnojknaaGreat
open Go.RowKit
open Go.ProdMath
open Go.BatMath hiding AllB getD_lt take_all In64
structure Am where
 kind : Int
 b : Bat
 bad : Option Addr
 bcap : Nat
 bytes : List Nat
 yad : Option Addr
 ylen : Nat
 ycap : Nat
 fr : Int
 n : Int
 only : Bool
 kad : Option Addr
 klen : Nat
 kcap : Nat
 gad : Option Addr
 glen : Nat
 gcap : Nat
theorem infoAm : (Tryz.prog.info? 33).map (fun i => (i.zero, i.size, i.bytes)) = some (some (.agg #[.int .i64 0, .int .i64 0, .int .i64 0, .int .i64 0, .int .i64 0, .bool false, .int .i64 0, .slice none 0 0, .slice none 0 0, .int .i64 0, .int .i64 0, .bool false, .slice none 0 0, .slice none 0 0]), 14, 176) := by kernel_rfl
def amK : Kind Am := ⟨fun m => [.int .i64 m.kind, .int .i64 m.b.base, .int .i64 m.b.prod, .int .i64 m.b.epoch, .int .i64 m.b.seq, .bool m.b.txn, .int .i64 m.b.marker, .slice m.bad m.b.recs.length m.bcap, .slice m.yad m.ylen m.ycap, .int .i64 m.fr, .int .i64 m.n, .bool m.only, .slice m.kad m.klen m.kcap, .slice m.gad m.glen m.gcap], 14, 33, 23⟩
theorem amK_ok : amK.Ok 176 where
 und := Tryz.underlying23
 info := by
  obtain ⟨i, hi, hz, hs, hb⟩ := info_parts infoAm
  exact ⟨i, _, hi, hz, hs, hb, rfl⟩
 len := fun _ => rfl
 pos := by decide
 one := fun r u hu => by
  simp only [amK, List.mem_cons, List.not_mem_nil, or_false] at hu
  rcases hu with rfl | rfl | rfl | rfl | rfl | rfl | rfl | rfl | rfl | rfl | rfl | rfl | rfl | rfl <;> rfl
 few := by decide
structure AmIn (W : World) (m : Am) : Prop where
 recs : RecsAt W m.bad m.b.recs.length m.bcap m.b.recs
 texts : TextsOk m.b.recs
 few : m.b.recs.length ≤ 140737488355328
 prod : m.b.prod ≤ 9223372036854775807
 byt : Byt W m.yad m.ylen m.ycap m.bytes
 long : m.ylen ≤ 140737488355328
theorem AmIn.keep {W W' : World} {m : Am} (h : AmIn W m) (hb : Below W.heap.size W W') : AmIn W' m := ⟨h.recs.keep hb, h.texts, h.few, h.prod, h.byt.keep hb (Nat.le_refl _), h.long⟩
structure AmsAt (W : World) (ad : Option Addr) (len cap : Nat) (l : List Am) : Prop where
 row : RowAt amK W ad len cap l
 ins : ∀ m ∈ l, AmIn W m
structure AmCells (W : World) (b o : Nat) (m : Am) : Prop where
 c0 : W.cell? ⟨b, o, none⟩ = some (.int .i64 m.kind)
 c1 : W.cell? ⟨b, o + 1, none⟩ = some (.int .i64 m.b.base)
 c2 : W.cell? ⟨b, o + 2, none⟩ = some (.int .i64 m.b.prod)
 c3 : W.cell? ⟨b, o + 3, none⟩ = some (.int .i64 m.b.epoch)
 c4 : W.cell? ⟨b, o + 4, none⟩ = some (.int .i64 m.b.seq)
 c5 : W.cell? ⟨b, o + 5, none⟩ = some (.bool m.b.txn)
 c6 : W.cell? ⟨b, o + 6, none⟩ = some (.int .i64 m.b.marker)
 c7 : W.cell? ⟨b, o + 7, none⟩ = some (.slice m.bad m.b.recs.length m.bcap)
 c8 : W.cell? ⟨b, o + 8, none⟩ = some (.slice m.yad m.ylen m.ycap)
 c9 : W.cell? ⟨b, o + 9, none⟩ = some (.int .i64 m.fr)
 c10 : W.cell? ⟨b, o + 10, none⟩ = some (.int .i64 m.n)
 c11 : W.cell? ⟨b, o + 11, none⟩ = some (.bool m.only)
 c12 : W.cell? ⟨b, o + 12, none⟩ = some (.slice m.kad m.klen m.kcap)
 c13 : W.cell? ⟨b, o + 13, none⟩ = some (.slice m.gad m.glen m.gcap)
theorem AmsAt.get {W : World} {ad : Option Addr} {len cap : Nat} {l : List Am} (h : AmsAt W ad len cap l) {i : Nat} (hi : i < len) : ∃ b off m, ad = some ⟨b, off, none⟩ ∧ b < W.heap.size ∧ l[i]? = some m ∧ AmIn W m ∧ AmCells W b (off + i * 14) m := by
 obtain ⟨b, off, m, e, hb, hm, hc⟩ := h.row.get hi
 exact ⟨b, off, m, e, hb, hm, h.ins m (List.mem_of_getElem? hm), hc 0 _ rfl, hc 1 _ rfl, hc 2 _ rfl, hc 3 _ rfl, hc 4 _ rfl, hc 5 _ rfl, hc 6 _ rfl, hc 7 _ rfl, hc 8 _ rfl, hc 9 _ rfl, hc 10 _ rfl, hc 11 _ rfl, hc 12 _ rfl, hc 13 _ rfl⟩
theorem ams_lit {W : World} {l : List Am} (hm : l.length ≤ 1000000) (hi : ∀ m ∈ l, AmIn W m) (cs : Array Value) (hcs : cs = (amK.all l).toArray) (n : Nat) (hn : l.length = n) : AmsAt (W.alloc (.cells cs 33)) (some ⟨W.heap.size, 0, none⟩) n n l :=
 ⟨rowAt_lit amK_ok W l hm cs hcs n hn, fun m h => (hi m h).keep (bal _ _)⟩
def ABox (w : World) (k : Nat) (m : Am) : Prop := w.heap[k]? = some (.cells #[.int .i64 m.kind, .int .i64 m.b.base, .int .i64 m.b.prod, .int .i64 m.b.epoch, .int .i64 m.b.seq, .bool m.b.txn, .int .i64 m.b.marker, .slice m.bad m.b.recs.length m.bcap, .slice m.yad m.ylen m.ycap, .int .i64 m.fr, .int .i64 m.n, .bool m.only, .slice m.kad m.klen m.kcap, .slice m.gad m.glen m.gcap] 33 (0, 0))
theorem ABox.cells {w : World} {k : Nat} {m : Am} (h : ABox w k m) : AmCells w k 0 m := by
 constructor <;> (rw [cell_of_row _ _ _ _ _ _ h]; rfl)
theorem abox_new (w : World) (m : Am) : ABox (w.alloc (.cells #[.int .i64 m.kind, .int .i64 m.b.base, .int .i64 m.b.prod, .int .i64 m.b.epoch, .int .i64 m.b.seq, .bool m.b.txn, .int .i64 m.b.marker, .slice m.bad m.b.recs.length m.bcap, .slice m.yad m.ylen m.ycap, .int .i64 m.fr, .int .i64 m.n, .bool m.only, .slice m.kad m.klen m.kcap, .slice m.gad m.glen m.gcap] 33)) w.heap.size m := heap_alloc_new w _
end Go.Proofs.YtjmfdildnojknaaGreat
namespace Go.Proofs.YtjmfdildnojknaaGreat
open Go.RowKit
open Go.FoMath
open Go.ProdMath
open Go.BatMath hiding AllB getD_lt take_all In64
theorem row_off_blk {α : Type} {K : Kind α} {w : World} {P i : Nat} {z : Value} {ad : Option Addr} {len cap : Nat} {l : List α} (h : RowAt K w ad len cap l) (hno : ∀ x off, ∃ j u, (K.enc x)[j]? = some u ∧ w.cell? ⟨P, off + j, none⟩ ≠ some u) : RowAt K (w.setCell ⟨P, i, none⟩ z) ad len cap l := by
 refine ⟨h.length, h.fits, h.room, ?_⟩
 rcases h.cells with h0 | ⟨b, off, e, hlt, hc⟩
 · exact .inl h0
 rcases Nat.eq_zero_or_pos len with h0 | h0
 · exact .inl h0
 have hb : b ≠ P := fun hbp => by
  obtain ⟨x, hx⟩ : ∃ x, l[0]? = some x := ⟨_, List.getElem?_eq_getElem (by rw [h.length]; exact h0)⟩
  obtain ⟨j, u, hj, hn⟩ := hno x (off + 0 * K.size)
  refine hn ?_
  rw [Nat.add_assoc, ← hbp]
  exact hc 0 x hx j u hj
 refine .inr ⟨b, off, e, by simpa using hlt, fun k x hk j u hj => ?_⟩
 have h1 := hc k x hk j u hj
 have e1 := box_off (i := i) (u := z) (w := w) (k := b) (j := P) (o := _) (Array.getElem?_eq_getElem hlt) (fun e => hb e.symm)
 unfold World.cell? at h1 ⊢
 rw [Array.getElem?_eq_getElem hlt] at h1
 simp only [e1]
 exact h1
theorem fbox_cell {w : World} {P : Nat} {a0 a1 : Option Addr} {n0 c0 n1 c1 : Nat} {x2 x3 : Int} (hf : FBox w P (.slice a0 n0 c0) (.slice a1 n1 c1) x2 x3) (i : Nat) : w.cell? ⟨P, i, none⟩ = none ∨ (∃ a n c, w.cell? ⟨P, i, none⟩ = some (.slice a n c)) ∨ ∃ k x, w.cell? ⟨P, i, none⟩ = some (.int k x) := by
 rw [cell_of_row _ _ i _ _ _ hf]
 match i with
 | 0 => exact .inr (.inl ⟨_, _, _, rfl⟩)
 | 1 => exact .inr (.inl ⟨_, _, _, rfl⟩)
 | 2 => exact .inr (.inr ⟨_, _, rfl⟩)
 | 3 => exact .inr (.inr ⟨_, _, rfl⟩)
 | i + 4 => exact .inl rfl
theorem fbox_str {w : World} {P : Nat} {a0 a1 : Option Addr} {n0 c0 n1 c1 : Nat} {x2 x3 : Int} (hf : FBox w P (.slice a0 n0 c0) (.slice a1 n1 c1) x2 x3) (i : Nat) (s : ByteArray) : w.cell? ⟨P, i, none⟩ ≠ some (.string s) := fun e => by
 rcases fbox_cell hf i with h | ⟨a, n, c, h⟩ | ⟨k, x, h⟩ <;> rw [e] at h <;> cases h
theorem fo_gots_set2 {w : World} {ad : Option Addr} {len cap P : Nat} {l : List Gt} {x0 x1 : Int} (h : RowAt gtK w ad len cap l) (hf : FBox w P (.slice none 0 0) (.slice none 0 0) x0 x1) (v0 : Option Addr) (n0 c0 : Nat) (v1 : Option Addr) (n1 c1 : Nat) (x2 x3 : Int) : RowAt gtK ((((w.setCell ⟨P, 0, none⟩ (.slice v0 n0 c0)).setCell ⟨P, 1, none⟩ (.slice v1 n1 c1)).setCell ⟨P, 2, none⟩ (.int .i64 x2)).setCell ⟨P, 3, none⟩ (.int .i64 x3)) ad len cap l :=
 row_off_blk (row_off_blk (row_off_blk (row_off_blk h fun x off => ⟨2, _, rfl, fbox_str hf _ _⟩) fun x off => ⟨2, _, rfl, fbox_str (hf.s0 _) _ _⟩) fun x off => ⟨2, _, rfl, fbox_str ((hf.s0 _).s1 _) _ _⟩) fun x off => ⟨2, _, rfl, fbox_str (((hf.s0 _).s1 _).s2 _) _ _⟩
theorem fo_drs_set2 {w : World} {ad : Option Addr} {len cap P : Nat} {l : List Dr} {x0 x1 : Int} (h : RowAt drK w ad len cap l) (hf : FBox w P (.slice none 0 0) (.slice none 0 0) x0 x1) (v0 : Option Addr) (n0 c0 : Nat) (v1 : Option Addr) (n1 c1 : Nat) (x2 x3 : Int) : RowAt drK ((((w.setCell ⟨P, 0, none⟩ (.slice v0 n0 c0)).setCell ⟨P, 1, none⟩ (.slice v1 n1 c1)).setCell ⟨P, 2, none⟩ (.int .i64 x2)).setCell ⟨P, 3, none⟩ (.int .i64 x3)) ad len cap l :=
 dr_past (dr_past (dr_past (dr_past h hf _ _) (hf.s0 _) _ _) ((hf.s0 _).s1 _) _ _) (((hf.s0 _).s1 _).s2 _) _ _
end Go.Proofs.YtjmfdildnojknaaGreat
namespace Go.Proofs.YtjmfdildnojknaaGreat
open Go.RowKit
open Go.FoMath
open Go.AbMath (withinD)
open Go.ProdMath
open Go.BatMath hiding AllB getD_lt take_all In64
theorem LogRow.grows {s : Int} {bs : List Bat} {r : (Int × Int) × List Bat} (h : LogRow s bs) (hg : GrowsW s bs r) (hl : bs.length + 1 ≤ 5000) : LogRow s r.2 := ⟨hg.1, h.lo, h.hi, by have := hg.2.1; omega⟩
theorem LogRow.keepD {s fr : Int} {bs : List Bat} (h : LogRow s bs) : LogRow (ProdMath.keepD s fr bs).1 (ProdMath.keepD s fr bs).2 ∧ (ProdMath.keepD s fr bs).2.length ≤ bs.length ∧ endD (ProdMath.keepD s fr bs).1 (ProdMath.keepD s fr bs).2 = endD s bs := by
 obtain ⟨h1, h2, h3⟩ := keep_row (fr := fr) h.row
 have h4 : (ProdMath.keepD s fr bs).2.length ≤ bs.length := by
  unfold ProdMath.keepD
  split
  · show (bs.drop _).length ≤ _
    rw [List.length_drop]; omega
  exact Nat.le_refl _
 have h5 := (rowW_bases h1).2.2
 have h6 := h.end_
 have h7 := h.lo
 have h8 := h.few
 exact ⟨⟨h1, by omega, by omega, by omega⟩, h4, h3⟩
end Go.Proofs.YtjmfdildnojknaaGreat
namespace Go.Proofs.YtjmfdildnojknaaGreat
open Go.RowKit
open Go.FoMath
open Go.ProdMath
open Go.BatMath hiding AllB getD_lt take_all In64
def MW (N : Nat → Prop) (w : World) (km most : Nat) (mc : Int) : Prop := ∃ s ad len cap ms, MOk N w km mc s ad len cap ms ∧ RowW s (bats ms) ∧ 0 ≤ s ∧ endD s (bats ms) ≤ 16 * (most : Int) ∧ len ≤ most
def AmNew (B : Nat) (m : Am) : Prop := (∀ a, m.bad = some a → B ≤ a.block) ∧ (∀ a, m.yad = some a → B ≤ a.block)
def GivesAct (N : Nat → Prop) (w : World) (kt : Nat) (tad : Option Addr) (tlen tcap km most : Nat) (mc : Int) (e : Ending) (w' : World) : Prop :=
 ∃ ad len cap l, e = .returned (.slice ad len cap) ∧ Hid (AmsAt w' ad len cap l) ∧ Hid (∀ a, ad = some a → w.heap.size ≤ a.block) ∧ Hid (∀ m ∈ l, AmNew w.heap.size m) ∧ 1 ≤ len ∧ len ≤ 3 ∧ Hid (TapeT w' kt tad tlen tcap) ∧ Hid (MW N w' km (most + 1) mc) ∧ Hid (Kept w w' fun i => i = kt ∨ i = km)
theorem amNew_plain (B : Nat) (k fr n : Int) (only : Bool) : AmNew B ⟨k, Bat.zero, none, 0, [], none, 0, 0, fr, n, only, none, 0, 0, none, 0, 0⟩ := ⟨(fun a h => by cases h), (fun a h => by cases h)⟩
theorem amIn_plain (W : World) (k fr n : Int) (only : Bool) : AmIn W ⟨k, Bat.zero, none, 0, [], none, 0, 0, fr, n, only, none, 0, 0, none, 0, 0⟩ := ⟨recsAt_nil W, (fun r hr => by cases hr), Nat.zero_le _, by show (0 : Int) ≤ _; decide, Byt.nil W, Nat.zero_le _⟩
theorem MW.on {N : Nat → Prop} {w w' : World} {km most : Nat} {mc : Int} (h : MW N w km most mc) (hb : Below w.heap.size w w') : MW N w' km most mc := by
 obtain ⟨s, ad, len, cap, ms, h1, h2⟩ := h
 exact ⟨s, ad, len, cap, ms, h1.keep hb, h2⟩
theorem gives_act {N : Nat → Prop} {w W : World} {kt tlen tcap km most : Nat} {tad : Option Addr} {mc : Int} {l : List Am} (hk : Kept w W fun i => i = kt ∨ i = km) (ht : TapeT W kt tad tlen tcap) (hm : MW N W km (most + 1) mc) (hi : ∀ m ∈ l, AmIn W m) (hn : ∀ m ∈ l, AmNew w.heap.size m) (h1 : 1 ≤ l.length) (h3 : l.length ≤ 3) (cs : Array Value) (hcs : cs = (amK.all l).toArray) (n : Nat) (hl : l.length = n) :
 GivesAct N w kt tad tlen tcap km most mc (.returned (.slice (some ⟨W.heap.size, 0, none⟩) n n)) (W.alloc (.cells cs 33)) := by
 have hb : Below W.heap.size W (W.alloc (.cells cs 33)) := (bal _ _)
 obtain ⟨i, hti⟩ := ht
 exact ⟨_, n, n, l, rfl, ams_lit (by omega) hi cs hcs n hl, (fun a ha => by rw [← Option.some.inj ha]; exact hk.size), hn, by omega, by omega, ⟨i, hti.on hb⟩, hm.on hb, hk.trans (Kept.of_below (F := fun _ => False) hb) (fun i hi => hi.elim)⟩
theorem mw_put {N : Nat → Prop} {w w' : World} {km most : Nat} {mc s : Int} {ad ad' : Option Addr} {len cap len' cap' : Nat} {ms ms' : List BM} {r : (Int × Int) × List Bat} (hm : MOk N w km mc s ad len cap ms) (h0 : 0 ≤ s) (he : endD s (bats ms) ≤ 16 * (most : Int)) (hl : len ≤ most) (hg : GrowsW s (bats ms) r) (hp : MOk N w' km mc s ad' len' cap' ms') (hb : bats ms' = r.2) : MW N w' km (most + 1) mc := by
 have h1 := hm.bats.row.length
 have h2 := hp.bats.row.length
 have h3 : (bats ms').length = ms'.length := List.length_map _
 have h4 : (bats ms).length = ms.length := List.length_map _
 obtain ⟨g1, g2, g3⟩ := hg
 rw [← hb] at g1 g2 g3
 exact ⟨s, ad', len', cap', ms', hp, g1, h0, by omega, by omega⟩
structure BytB (W : World) (g xn : Nat) (xs : List Nat) : Prop where
 all : AllB xs
 len : xs.length = xn
 blk : ∃ cs, W.heap[g]? = some (.cells cs 5 (0, 0)) ∧ ∀ j, j < xn → cs[j]? = some (.int .u8 (xs.getD j 0 : Nat))
section
variable {W W' : World} {g xn : Nat} {xs : List Nat}
theorem BytB.lt (h : BytB W g xn xs) : g < W.heap.size := by
 obtain ⟨cs, h1, _⟩ := h.blk
 exact lt_of_block h1
theorem BytB.cell (h : BytB W g xn xs) {j : Nat} (hj : j < xn) : W.cell? ⟨g, j, none⟩ = some (.int .u8 (xs.getD j 0 : Nat)) := by
 obtain ⟨cs, h1, h2⟩ := h.blk
 rw [cell_of_row _ _ _ _ _ _ h1]
 exact h2 j hj
theorem BytB.free (h : BytB W g xn xs) (j : Nat) : W.frozen? ⟨g, j, none⟩ = false := by
 obtain ⟨cs, h1, h2⟩ := h.blk
 exact frozen_of_row _ _ _ _ _ h1
theorem BytB.byt (h : BytB W g xn xs) {c : Nat} (hc : xn ≤ c) : Byt W (some ⟨g, 0, none⟩) xn c xs :=
 ⟨h.len, hc, h.all, .inr ⟨g, 0, rfl, fun i hi => by rw [Nat.zero_add]; exact h.cell hi⟩⟩
theorem BytB.kept {G : Nat → Prop} (h : BytB W g xn xs) (hk : Kept W W' G) (hg : ¬ G g) : BytB W' g xn xs := by
 obtain ⟨cs, h1, h2⟩ := h.blk
 exact ⟨h.all, h.len, cs, (hk.block g (lt_of_block h1) hg).trans h1, h2⟩
theorem BytB.set (h : BytB W g xn xs) {j : Nat} (hj : j < xn) {z : Int} (h0 : 0 ≤ z) (h1 : z < 256) : BytB (W.setCell ⟨g, j, none⟩ (.int .u8 z)) g xn (xs.set j z.toNat) := by
 obtain ⟨cs, hb, hc⟩ := h.blk
 refine ⟨fun y hy => ?_, by rw [List.length_set]; exact h.len, _, box_set hb j _, fun i hi => ?_⟩
 · rcases List.mem_or_eq_of_mem_set hy with h2 | h2
   · exact h.all y h2
   omega
 have hl := h.len
 rw [Array.getElem?_setIfInBounds]
 by_cases he : j = i
 · subst he
   have hs : j < cs.size := (Array.getElem?_eq_some_iff.1 (hc j hj)).1
   rw [if_pos rfl, if_pos hs, List.getD_eq_getElem?_getD, List.getElem?_set_self (by omega)]
   show some (Value.int .u8 z) = some (Value.int .u8 ((z.toNat : Nat) : Int))
   rw [Int.toNat_of_nonneg h0]
 rw [if_neg he, hc i hi, List.getD_eq_getElem?_getD, List.getD_eq_getElem?_getD, List.getElem?_set_ne he]
end
theorem gives_bytes_open {w w' : World} {ev : Int} {L : List Nat} {e : Ending} (h : GivesBytes w ev L e w') (ha : ev = 0 → AllB L) : ∃ xv, e = .returned (.tuple #[xv, .int .i64 ev]) ∧ Below w.heap.size w w' ∧ (xv = .slice none 0 0 ∨ ev = 0 ∧ ∃ g c, xv = .slice (some ⟨g, 0, none⟩) L.length c ∧ w.heap.size ≤ g ∧ L.length ≤ c ∧ BytB w' g L.length L) := by
 rcases h with ⟨h0, g, c, e1, hr, hb⟩ | ⟨h0, e1, hb⟩
 rotate_left
 · exact ⟨_, e1, hb, .inl rfl⟩
 subst h0
 refine ⟨_, e1, hb, .inr ⟨rfl, g, c, rfl, ?_⟩⟩
 rcases hr.2 with ⟨h1, _⟩ | ⟨g', cap, cur, h1, hbg, hh, hc, _, hs, ht⟩
 · cases h1
 cases h1
 refine ⟨hbg, hc, ha rfl, rfl, cur, hh, fun j hj => ?_⟩
 have h2 : (cur.toList.take (L.length * 1))[j]? = (vals L)[j]? := by rw [ht]
 rw [Nat.mul_one, List.getElem?_take_of_lt hj, Array.getElem?_toList] at h2
 rw [h2]
 unfold vals
 rw [List.getElem?_map, List.getElem?_eq_getElem hj, List.getD_eq_getElem?_getD, List.getElem?_eq_getElem hj]
 rfl
theorem MW.grown {N : Nat → Prop} {w w' : World} {km most kt : Nat} {mc : Int} (h : MW N w km most mc) (hg : w.grownBy w' (some kt)) (hNk : ∀ k, N k → k ≠ kt) (hk : kt ≠ km) : MW N w' km most mc := by
 obtain ⟨s, ad, len, cap, ms, h1, h2⟩ := h
 exact ⟨s, ad, len, cap, ms, h1.grown hg hk (fun a ha => hNk _ (h1.inN.1 a ha)) (fun m hm a ha => hNk _ (h1.inN.2 m hm a ha)), h2⟩
theorem MW.mono {N N' : Nat → Prop} {w : World} {km most : Nat} {mc : Int} (h : MW N w km most mc) (hn : ∀ k, N k → N' k) : MW N' w km most mc := by
 obtain ⟨s, ad, len, cap, ms, h1, h2⟩ := h
 exact ⟨s, ad, len, cap, ms, ⟨h1.box, h1.bats, h1.row, h1.ins, ⟨fun a ha => hn _ (h1.inN.1 a ha), fun m hm a ha => hn _ (h1.inN.2 m hm a ha)⟩, fun k hk => hn k (h1.up k hk)⟩, h2⟩
theorem act_any {N : Nat → Prop} (w : World) (kt : Nat) (tad : Option Addr) (tlen tcap km most : Nat) (mc : Int) (ht : TapeT w kt tad tlen tcap) (hm : MW N w km most mc) (hkk : kt < km) (hNk : ∀ k, N k → k ≠ kt) (hmost : most ≤ 4999) :
 Calls Tryz.prog 38 #[.pointer (some ⟨kt, 0, none⟩), .pointer (some ⟨km, 0, none⟩)] w (GivesAct N w kt tad tlen tcap km most mc) := by
 obtain ⟨i, hti⟩ := ht
 obtain ⟨s, ad, len, cap, ms, hmo, hr, hs0, hse, hlm⟩ := hm
 have hok := rowW_ok hr
 have hsb := (rowW_bases hr).2.2
 have hkmw : km < w.heap.size := lt_of_block hmo.box
 obtain ⟨en, hen⟩ : ∃ x, endD s (bats ms) = x := ⟨_, rfl⟩
 rw [hen] at hse hsb
 have HT0 := qh hti
 have HM0 := qh hmo
 have HR := qh hr
 have HOK := qh hok
 have HEN := qh hen
 clear hti hmo hr hok
 go_enter Tryz.func38, Tryz.ntmps38
 go_wp2_with fail
 refine (modEnd_any w km mc s ad len cap ms HM0.out.box HM0.out.bats (by omega) HOK.out en HEN.out).mono ?_
 rintro e w1 ⟨rfl, hb1⟩
 have HT1 := qh (HT0.out.on hb1)
 have HM1 := qh (HM0.out.keep hb1)
 have HK1 : Hid (Kept w w1 fun i => i = kt ∨ i = km) := Kept.of_below hb1
 clear hb1 HT0 HM0
 go_wp2_with fail
 refine (tapeNext_any w1 kt tad tlen tcap i 20 HT1.out (by omega) (by omega)).mono ?_
 rintro e w2 ⟨v2, i2, rfl, lo2, up2, ht, hg⟩
 have HT2 := qh ht
 have HM2 := qh (HM1.out.grown hg (by omega) (fun a ha => hNk _ (HM1.out.inN.1 a ha)) (fun m hm a ha => hNk _ (HM1.out.inN.2 m hm a ha)))
 have HK2 : Hid (Kept w w2 fun i => i = kt ∨ i = km) := HK1.out.trans (Kept.of_grown (F := fun i => i = kt ∨ i = km) hg (.inl (.inl rfl))) (fun i hi => .inl hi)
 clear ht hg HT1 HM1 HK1
 by_cases v10 : v2 < 10
 rotate_left
 · have d10 : decide (v2 < 10) = false := decide_eq_false v10
   by_cases v15 : v2 < 15
   · have d15 : decide (v2 < 15) = true := decide_eq_true v15
     go_wp2_with fail
     refine (tapeNext_any w2 kt tad tlen tcap i2 (en + 3) HT2.out (by omega) (by omega)).mono ?_
     rintro e w3 ⟨v3, i3, rfl, lo3, up3, ht, hg⟩
     have HT3 := qh ht
     have HM3 := qh (HM2.out.grown hg (by omega) (fun a ha => hNk _ (HM2.out.inN.1 a ha)) (fun m hm a ha => hNk _ (HM2.out.inN.2 m hm a ha)))
     have HK3 : Hid (Kept w w3 fun i => i = kt ∨ i = km) := HK2.out.trans (Kept.of_grown (F := fun i => i = kt ∨ i = km) hg (.inl (.inl rfl))) (fun i hi => .inl hi)
     clear ht hg HT2 HM2 HK2
     go_wp2_with fail
     refine (tapeNext_any w3 kt tad tlen tcap i3 20 HT3.out (by omega) (by omega)).mono ?_
     rintro e w4 ⟨v4, i4, rfl, lo4, up4, ht, hg⟩
     have HT4 := qh ht
     have HM4 := qh (HM3.out.grown hg (by omega) (fun a ha => hNk _ (HM3.out.inN.1 a ha)) (fun m hm a ha => hNk _ (HM3.out.inN.2 m hm a ha)))
     have HK4 : Hid (Kept w w4 fun i => i = kt ∨ i = km) := HK3.out.trans (Kept.of_grown (F := fun i => i = kt ∨ i = km) hg (.inl (.inl rfl))) (fun i hi => .inl hi)
     clear ht hg HT3 HM3 HK3
     go_wp2_with fail
     refine (tapeNext_any w4 kt tad tlen tcap i4 2 HT4.out (by omega) (by omega)).mono ?_
     rintro e w5 ⟨v5, i5, rfl, lo5, up5, ht, hg⟩
     have HT5 := qh ht
     have HM5 := qh (HM4.out.grown hg (by omega) (fun a ha => hNk _ (HM4.out.inN.1 a ha)) (fun m hm a ha => hNk _ (HM4.out.inN.2 m hm a ha)))
     have HK5 : Hid (Kept w w5 fun i => i = kt ∨ i = km) := HK4.out.trans (Kept.of_grown (F := fun i => i = kt ∨ i = km) hg (.inl (.inl rfl))) (fun i hi => .inl hi)
     clear ht hg HT4 HM4 HK4
     go_wp2_with fail
     go_ret
     exact gives_act (l := [⟨4, Bat.zero, none, 0, [], none, 0, 0, v3 - 1, v4, (v5 == 0), none, 0, 0, none, 0, 0⟩]) HK5.out ⟨i5, HT5.out⟩ ⟨s, ad, len, cap, ms, HM5.out, HR.out, hs0, by omega, by omega⟩ (by simp only [List.mem_cons, List.not_mem_nil, or_false]; rintro m rfl; exact amIn_plain _ _ _ _ _) (by simp only [List.mem_cons, List.not_mem_nil, or_false]; rintro m rfl; exact amNew_plain _ _ _ _ _) (by show 1 ≤ 1; decide) (by show 1 ≤ 3; decide) _ rfl 1 rfl
   have d15 : decide (v2 < 15) = false := decide_eq_false v15
   by_cases e15 : v2 = 15
   rotate_left
   · have g15 : (v2 == 15) = false := by simpa using e15
     by_cases e16 : v2 = 16
     · have g16 : (v2 == 16) = true := by rw [e16]; rfl
       go_wp2_with fail
       go_ret
       exact gives_act (l := [⟨7, Bat.zero, none, 0, [], none, 0, 0, 0, 0, false, none, 0, 0, none, 0, 0⟩, ⟨8, Bat.zero, none, 0, [], none, 0, 0, 0, 0, false, none, 0, 0, none, 0, 0⟩]) HK2.out ⟨i2, HT2.out⟩ ⟨s, ad, len, cap, ms, HM2.out, HR.out, hs0, by omega, by omega⟩ (by simp only [List.mem_cons, List.not_mem_nil, or_false]; rintro m (rfl | rfl) <;> exact amIn_plain _ _ _ _ _) (by simp only [List.mem_cons, List.not_mem_nil, or_false]; rintro m (rfl | rfl) <;> exact amNew_plain _ _ _ _ _) (by show 1 ≤ 2; decide) (by show 2 ≤ 3; decide) _ rfl 2 rfl
     have g16 : (v2 == 16) = false := by simpa using e16
     by_cases e17 : v2 = 17
     rotate_left
     · have g17 : (v2 == 17) = false := by simpa using e17
       go_wp2_with fail
       go_ret
       exact gives_act (l := [⟨5, Bat.zero, none, 0, [], none, 0, 0, 0, 0, false, none, 0, 0, none, 0, 0⟩]) HK2.out ⟨i2, HT2.out⟩ ⟨s, ad, len, cap, ms, HM2.out, HR.out, hs0, by omega, by omega⟩ (by simp only [List.mem_cons, List.not_mem_nil, or_false]; rintro m rfl; exact amIn_plain _ _ _ _ _) (by simp only [List.mem_cons, List.not_mem_nil, or_false]; rintro m rfl; exact amNew_plain _ _ _ _ _) (by show 1 ≤ 1; decide) (by show 1 ≤ 3; decide) _ rfl 1 rfl
     have g17 : (v2 == 17) = true := by rw [e17]; rfl
     go_wp2_with fail
     refine (tapeNext_any w2 kt tad tlen tcap i2 1048576 HT2.out (by omega) (by omega)).mono ?_
     rintro e w3 ⟨v3, i3, rfl, lo3, up3, ht, hg⟩
     have HT3 := qh ht
     have HM3 := qh (HM2.out.grown hg (by omega) (fun a ha => hNk _ (HM2.out.inN.1 a ha)) (fun m hm a ha => hNk _ (HM2.out.inN.2 m hm a ha)))
     have HK3 : Hid (Kept w w3 fun i => i = kt ∨ i = km) := HK2.out.trans (Kept.of_grown (F := fun i => i = kt ∨ i = km) hg (.inl (.inl rfl))) (fun i hi => .inl hi)
     clear ht hg HT2 HM2 HK2
     go_wp2_with fail
     go_ret
     exact gives_act (l := [⟨7, Bat.zero, none, 0, [], none, 0, 0, 0, 0, false, none, 0, 0, none, 0, 0⟩, ⟨11, Bat.zero, none, 0, [], none, 0, 0, v3, 0, false, none, 0, 0, none, 0, 0⟩, ⟨8, Bat.zero, none, 0, [], none, 0, 0, 0, 0, false, none, 0, 0, none, 0, 0⟩]) HK3.out ⟨i3, HT3.out⟩ ⟨s, ad, len, cap, ms, HM3.out, HR.out, hs0, by omega, by omega⟩ (by simp only [List.mem_cons, List.not_mem_nil, or_false]; rintro m (rfl | rfl | rfl) <;> exact amIn_plain _ _ _ _ _) (by simp only [List.mem_cons, List.not_mem_nil, or_false]; rintro m (rfl | rfl | rfl) <;> exact amNew_plain _ _ _ _ _) (by show 1 ≤ 3; decide) (by show 3 ≤ 3; decide) _ rfl 3 rfl
   have g15 : (v2 == 15) = true := by rw [e15]; rfl
   go_wp2_with fail
   refine (tapeNext_any w2 kt tad tlen tcap i2 (en + 2) HT2.out (by omega) (by omega)).mono ?_
   rintro e w3 ⟨v3, i3, rfl, lo3, up3, ht, hg⟩
   have HT3 := qh ht
   have HM3 := qh (HM2.out.grown hg (by omega) (fun a ha => hNk _ (HM2.out.inN.1 a ha)) (fun m hm a ha => hNk _ (HM2.out.inN.2 m hm a ha)))
   have HK3 : Hid (Kept w w3 fun i => i = kt ∨ i = km) := HK2.out.trans (Kept.of_grown (F := fun i => i = kt ∨ i = km) hg (.inl (.inl rfl))) (fun i hi => .inl hi)
   clear ht hg HT2 HM2 HK2
   go_wp2_with fail
   refine (modKeep_any w3 km mc s ad len cap ms HM3.out (by omega) (foRow_ofW HR.out hs0 (by omega)) v3).mono ?_
   rintro e w4 ⟨ad4, len4, cap4, ms4, rfl, hm4, hb4, hg4⟩
   have hkr := keep_row (fr := v3) HR.out
   obtain ⟨s4, hs4⟩ : ∃ x, x = (keepD s v3 (bats ms)).1 := ⟨_, rfl⟩
   have HT4 : Hid (TapeAt w4 kt tad tlen tcap i3) := HT3.out.grow hg4 (fun k hk => by have := Option.some.inj hk; omega)
   have HK4 : Hid (Kept w w4 fun i => i = kt ∨ i = km) := HK3.out.trans (Kept.of_grown (F := fun i => i = kt ∨ i = km) hg4 (.inl (.inr rfl))) (fun i hi => .inl hi)
   have HMW : Hid (MW N w4 km (most + 1) mc) := by
    have hl4 := hm4.bats.row.length
    have hl4b : (bats ms4).length = ms4.length := List.length_map _
    have hl0 := HM3.out.bats.row.length
    have hl0b : (bats ms).length = ms.length := List.length_map _
    have hkl : (keepD s v3 (bats ms)).2.length ≤ (bats ms).length := by
     unfold keepD
     split
     · show (List.drop _ _).length ≤ _; rw [List.length_drop]; omega
     exact Nat.le_refl _
    have h2 := hkr.1
    have h3 := hkr.2.2
    rw [← hb4, HEN.out] at h3
    rw [← hb4] at h2 hkl
    exact ⟨_, ad4, len4, cap4, ms4, hm4, h2, by have := hkr.2.1; omega, by rw [h3]; omega, by omega⟩
   rw [← hs4]
   clear hm4 hb4 hg4 hkr hs4 HT3 HM3 HK3
   go_wp2_with fail
   go_ret
   exact gives_act (l := [⟨6, Bat.zero, none, 0, [], none, 0, 0, v3, 0, false, none, 0, 0, none, 0, 0⟩]) HK4.out ⟨i3, HT4.out⟩ HMW.out (by simp only [List.mem_cons, List.not_mem_nil, or_false]; rintro m rfl; exact amIn_plain _ _ _ _ _) (by simp only [List.mem_cons, List.not_mem_nil, or_false]; rintro m rfl; exact amNew_plain _ _ _ _ _) (by show 1 ≤ 1; decide) (by show 1 ≤ 3; decide) _ rfl 1 rfl
 have d10 : decide (v2 < 10) = true := decide_eq_true v10
 go_wp2_with fail
 refine (ask_any w2 kt tad tlen tcap i2 HT2.out km mc s ad len cap ms HM2.out (Nat.ne_of_lt hkk) hNk (by omega) HOK.out).mono ?_
 rintro e w3 ⟨b0, b1, b2, b3, b4, b5, recs, rd, rc, rfl, HP, HTX, HN, HRE3, HT3, HG3, HRB3⟩
 have HM3 := qh (HM2.out.grown HG3.out (by omega) (fun a ha => hNk _ (HM2.out.inN.1 a ha)) (fun m hm a ha => hNk _ (HM2.out.inN.2 m hm a ha)))
 have HK3 : Hid (Kept w w3 fun i => i = kt ∨ i = km) := HK2.out.trans (Kept.of_grown (F := fun i => i = kt ∨ i = km) HG3.out (.inl (.inl rfl))) (fun i hi => .inl hi)
 have HRB : Hid (∀ a, rd = some a → w.heap.size ≤ a.block) := fun a ha => Nat.le_trans HK2.out.size (HRB3.out a ha)
 have hX3 : w.heap.size ≤ w3.heap.size := HK3.out.size
 clear HG3 HT2 HM2 HK2 HRB3
 go_upto_region 5 with fail
 obtain ⟨w4, hw4⟩ := exq (w3.alloc (.cells #[.int .i64 b0, .int .i64 b1, .int .i64 b2, .int .i64 b3, .bool b4, .int .i64 b5, .slice rd recs.length rc] 29))
 have hb4 := wbq hw4
 obtain ⟨X, hX⟩ := exq w3.heap.size
 have HX4 := bxq hw4 hX
 have HM4 := qh (HM3.out.keep hb4)
 have HRE4 := qh (HRE3.out.keep hb4)
 have HK4 : Hid (Kept w w4 fun i => i = kt ∨ i = km) := HK3.out.trans (Kept.of_below (F := fun _ => False) hb4) (fun i hi => hi.elim)
 obtain ⟨i4, ht4⟩ := HT3.out
 have HT4 : Hid (TapeAt w4 kt tad tlen tcap i4) := ht4.on hb4
 rw [← hw4, ← hX]
 have hXw : w.heap.size ≤ X := by rw [hX]; exact hX3
 clear hw4 hb4 ht4 hX hX3 HT3 HM3 HRE3 HK3
 obtain ⟨p0, p1, p2, p3, p4, p5, p6⟩ := HX4.out.cs
 by_cases hmk : b5 = 0
 rotate_left
 · have hd5n : (b5 != 0) = true := by simpa using hmk
   have hgr := markW_grows (cap := mc) (p := b1) (e := b2) (m := b5) HR.out HP.out
   obtain ⟨⟨⟨rn0, re0⟩, rl0⟩, hrr⟩ : ∃ r, markD mc s (bats ms) b1 b2 b5 = r := ⟨_, rfl⟩
   rw [hrr] at hgr
   have HGR := qh hgr
   have HRR := qh hrr
   clear hgr hrr
   go_wp2_with fail
   refine (mark_any w4 km mc s ad len cap ms HM4.out (by omega) HOK.out (by rw [HEN.out]; omega) b1 b2 b5 HP.out _ HRR.out).mono ?_
   rintro e w5 ⟨ad5, len5, cap5, ms5, rfl, hmp, hbp, hgp⟩
   have HMW : Hid (MW N w5 km (most + 1) mc) := mw_put HM4.out hs0 (by rw [HEN.out]; exact hse) hlm HGR.out hmp hbp
   have HX5 : Hid (BoxAt w5 X b0 b1 b2 b3 b4 b5 (.slice rd recs.length rc)) := HX4.out.tape hgp (by omega)
   have HRE5 := qh (HRE4.out.tape hgp (fun a ha => by have := HRB.out a ha; omega))
   have HT5 : Hid (TapeAt w5 kt tad tlen tcap i4) := HT4.out.grow hgp (fun k hk => by have := Option.some.inj hk; omega)
   have HK5 : Hid (Kept w w5 fun i => i = kt ∨ i = km) := HK4.out.trans (Kept.of_grown (F := fun i => i = kt ∨ i = km) hgp (.inl (.inr rfl))) (fun i hi => .inl hi)
   clear hmp hbp hgp HT4 HM4 HK4 HX4 HRE4
   clear p0 p1 p2 p3 p4 p5 p6
   obtain ⟨p0, p1, p2, p3, p4, p5, p6⟩ := HX5.out.cs
   go_wp2_with fail
   go_ret
   exact gives_act (l := [⟨3, ⟨b0, b1, b2, b3, b4, b5, recs⟩, rd, rc, [], none, 0, 0, 0, 0, false, none, 0, 0, none, 0, 0⟩]) HK5.out ⟨i4, HT5.out⟩ HMW.out (by simp only [List.mem_cons, List.not_mem_nil, or_false]; rintro m rfl; exact ⟨HRE5.out, HTX.out, by have := HN.out; show recs.length ≤ _; omega, HP.out, Byt.nil _, Nat.zero_le _⟩) (by simp only [List.mem_cons, List.not_mem_nil, or_false]; rintro m rfl; exact ⟨HRB.out, fun a h => by cases h⟩) (by show 1 ≤ 1; decide) (by show 1 ≤ 3; decide) _ rfl 1 rfl
 have hd5n : (b5 != 0) = false := by rw [hmk]; rfl
 clear hmk
 go_wp2_with fail
 refine (tapeNext_any w4 kt tad tlen tcap i4 5 HT4.out (by omega) (by omega)).mono ?_
 rintro e w5 ⟨v5, i5, rfl, lo5, up5, ht, hg⟩
 have HT5 := qh ht
 have HM5 := qh (HM4.out.grown hg (by omega) (fun a ha => hNk _ (HM4.out.inN.1 a ha)) (fun m hm a ha => hNk _ (HM4.out.inN.2 m hm a ha)))
 have HK5 : Hid (Kept w w5 fun i => i = kt ∨ i = km) := HK4.out.trans (Kept.of_grown (F := fun i => i = kt ∨ i = km) hg (.inl (.inl rfl))) (fun i hi => .inl hi)
 have HX5 : Hid (BoxAt w5 X b0 b1 b2 b3 b4 b5 (.slice rd recs.length rc)) := HX4.out.tape hg (by omega)
 have HRE5 := qh (HRE4.out.tape hg (fun a ha => by have := HRB.out a ha; omega))
 clear HX4 HRE4 p0 p1 p2 p3 p4 p5 p6
 clear ht hg HT4 HM4 HK4
 obtain ⟨p0, p1, p2, p3, p4, p5, p6⟩ := HX5.out.cs
 by_cases hv5 : v5 = 0
 rotate_left
 · have hd6 : (v5 == 0) = false := by simpa using hv5
   have hgr := produceW_grows (cap := mc) (b := ⟨b0, b1, b2, b3, b4, b5, recs⟩) HR.out HP.out
   obtain ⟨⟨⟨rn0, re0⟩, rl0⟩, hrr⟩ : ∃ r, produceD mc s (bats ms) ⟨b0, b1, b2, b3, b4, b5, recs⟩ = r := ⟨_, rfl⟩
   rw [hrr] at hgr
   have HGR := qh hgr
   have HRR := qh hrr
   clear hgr hrr
   go_wp2_with fail
   refine (produce_any w5 km mc s ad len cap ms HM5.out (by omega) HOK.out (by rw [HEN.out]; omega) b0 b1 b2 b3 b4 b5 recs rd rc HRE5.out HTX.out (by have := HN.out; omega) HP.out _ HRR.out).mono ?_
   rintro e w6 ⟨ad6, len6, cap6, ms6, rfl, hmp, hbp, hgp⟩
   have HMW : Hid (MW N w6 km (most + 1) mc) := mw_put HM5.out hs0 (by rw [HEN.out]; exact hse) hlm HGR.out hmp hbp
   have HX6 : Hid (BoxAt w6 X b0 b1 b2 b3 b4 b5 (.slice rd recs.length rc)) := HX5.out.tape hgp (by omega)
   have HRE6 := qh (HRE5.out.tape hgp (fun a ha => by have := HRB.out a ha; omega))
   have HT6 : Hid (TapeAt w6 kt tad tlen tcap i5) := HT5.out.grow hgp (fun k hk => by have := Option.some.inj hk; omega)
   have HK6 : Hid (Kept w w6 fun i => i = kt ∨ i = km) := HK5.out.trans (Kept.of_grown (F := fun i => i = kt ∨ i = km) hgp (.inl (.inr rfl))) (fun i hi => .inl hi)
   clear hmp hbp hgp HT5 HM5 HK5 HX5 HRE5
   clear p0 p1 p2 p3 p4 p5 p6
   obtain ⟨p0, p1, p2, p3, p4, p5, p6⟩ := HX6.out.cs
   go_wp2_with fail
   go_ret
   exact gives_act (l := [⟨1, ⟨b0, b1, b2, b3, b4, b5, recs⟩, rd, rc, [], none, 0, 0, 0, 0, false, none, 0, 0, none, 0, 0⟩]) HK6.out ⟨i5, HT6.out⟩ HMW.out (by simp only [List.mem_cons, List.not_mem_nil, or_false]; rintro m rfl; exact ⟨HRE6.out, HTX.out, by have := HN.out; show recs.length ≤ _; omega, HP.out, Byt.nil _, Nat.zero_le _⟩) (by simp only [List.mem_cons, List.not_mem_nil, or_false]; rintro m rfl; exact ⟨HRB.out, fun a h => by cases h⟩) (by show 1 ≤ 1; decide) (by show 1 ≤ 3; decide) _ rfl 1 rfl
 have hd6 : (v5 == 0) = true := by rw [hv5]; rfl
 clear hv5
 have HALL : Hid (rightE ⟨b0, b1, b2, b3, b4, b5, recs⟩ = 0 → AllB (bytesB ⟨b0, b1, b2, b3, b4, b5, recs⟩) ∧ (bytesB ⟨b0, b1, b2, b3, b4, b5, recs⟩).length ≤ 2404) := fun h => ⟨bytes_all (ok_of h), (ok_len (ok_of h)).1⟩
 go_wp2_with fail
 refine (refBytes_any w5 ⟨b0, b1, b2, b3, b4, b5, recs⟩ rd recs.length rc HRE5.out HTX.out (by have := HN.out; omega) HP.out).mono ?_
 rintro e w6 hgb
 obtain ⟨xv, rfl, hb6, hx⟩ := gives_bytes_open hgb (fun h => (HALL.out h).1)
 have HX6 := qh hx
 obtain ⟨ev, hev⟩ := exq (rightE ⟨b0, b1, b2, b3, b4, b5, recs⟩)
 rw [← hev]
 have HEV := qh hev
 have HT6 : Hid (TapeAt w6 kt tad tlen tcap i5) := HT5.out.on hb6
 have HM6 := qh (HM5.out.keep hb6)
 have HK6 : Hid (Kept w w6 fun i => i = kt ∨ i = km) := HK5.out.trans (Kept.of_below (F := fun _ => False) hb6) (fun i hi => hi.elim)
 have HZ5 : Hid (w.heap.size ≤ w5.heap.size ∧ km < w5.heap.size ∧ kt < w5.heap.size) := ⟨HK5.out.size, lt_of_block HM5.out.box, HT5.out.lt⟩
 have HM56 : Hid (MOk N w5 km mc s ad len cap ms) := HM5.out
 have HB56 : Hid (Below w5.heap.size w5 w6) := hb6
 clear hev hgb hb6 hx HT5 HM5 HK5 HX5 HRE5 p0 p1 p2 p3 p4 p5 p6
 rcases HX6.out with hxv | ⟨hev0, g, c, hxv, hgl, hgc, hby⟩
 · subst hxv
   have hgr := rawW_grows (cap := mc) (x := []) HR.out (fun y hy => by cases hy)
   obtain ⟨⟨⟨rn0, re0⟩, rl0⟩, hrr⟩ : ∃ r, rawD mc s (bats ms) [] = r := ⟨_, rfl⟩
   rw [hrr] at hgr
   have HGR := qh hgr
   have HRR := qh hrr
   clear hgr hrr HX6
   go_wp2_with fail
   refine (raw_any w6 km mc s ad len cap ms HM6.out (by omega) HOK.out (by rw [HEN.out]; omega) none 0 0 [] (Byt.nil _) (by decide)).mono ?_
   rw [HRR.out]
   rintro e w7 ⟨ad7, len7, cap7, ms7, rfl, hmp, hbp, hgp⟩
   have HMW : Hid (MW N w7 km (most + 1) mc) := mw_put HM6.out hs0 (by rw [HEN.out]; exact hse) hlm HGR.out hmp hbp
   have HT7 : Hid (TapeAt w7 kt tad tlen tcap i5) := HT6.out.grow hgp (fun k hk => by have := Option.some.inj hk; omega)
   have HK7 : Hid (Kept w w7 fun i => i = kt ∨ i = km) := HK6.out.trans (Kept.of_grown (F := fun i => i = kt ∨ i = km) hgp (.inl (.inr rfl))) (fun i hi => .inl hi)
   clear hmp hbp hgp HT6 HM6 HK6
   go_wp2_with fail
   go_ret
   exact gives_act (l := [⟨2, Bat.zero, none, 0, [], none, 0, 0, 0, 0, false, none, 0, 0, none, 0, 0⟩]) HK7.out ⟨i5, HT7.out⟩ HMW.out (by simp only [List.mem_cons, List.not_mem_nil, or_false]; rintro m rfl; exact amIn_plain _ _ _ _ _) (by simp only [List.mem_cons, List.not_mem_nil, or_false]; rintro m rfl; exact amNew_plain _ _ _ _ _) (by show 1 ≤ 1; decide) (by show 1 ≤ 3; decide) _ rfl 1 rfl
 obtain ⟨xs, hxs⟩ := exq (bytesB ⟨b0, b1, b2, b3, b4, b5, recs⟩)
 have hl24 := (HALL.out hev0).2
 rw [← hxs] at hxv hgc hby hl24
 obtain ⟨xn, hxn⟩ : ∃ n, xs.length = n := ⟨_, rfl⟩
 rw [hxn] at hxv hgc hby hl24
 subst hxv
 have HBY := qh hby
 have HGL : Hid (w.heap.size ≤ g ∧ g ≠ km ∧ g ≠ kt ∧ kt < g) := by show _ ∧ _; have := HZ5.out; exact ⟨by omega, by omega, by omega, by omega⟩
 have HMg : Hid (MOk (fun k => N k ∧ k ≠ g) w6 km mc s ad len cap ms) := HM56.out.move (Kept.of_below (F := fun _ => False) HB56.out) (fun h => h) (fun _ _ _ h => h) (fun k hk hn => ⟨hn, by omega⟩) (fun k hk => ⟨HM6.out.up k hk, by have := hby.lt; omega⟩)
 have hNg : ∀ k, (N k ∧ k ≠ g) → k ≠ kt := fun k hk => hNk k hk.1
 have hgr := rawW_grows (cap := mc) (x := xs) HR.out hby.all
 obtain ⟨⟨⟨rn0, re0⟩, rl0⟩, hrr⟩ : ∃ r, rawD mc s (bats ms) xs = r := ⟨_, rfl⟩
 rw [hrr] at hgr
 have HGR := qh hgr
 have HRR := qh hrr
 have HGC : Hid (xn ≤ c) := hgc
 clear hgr hrr HX6 hgl hby hxs hxn hev0 hgc
 go_wp2_with fail
 refine (raw_any w6 km mc s ad len cap ms HMg.out (by omega) HOK.out (by rw [HEN.out]; omega) (some ⟨g, 0, none⟩) xn c xs (HBY.out.byt HGC.out) (by omega)).mono ?_
 rw [HRR.out]
 rintro e w7 ⟨ad7, len7, cap7, ms7, rfl, hmp, hbp, hgp⟩
 have HMW : Hid (MW (fun k => N k ∧ k ≠ g) w7 km (most + 1) mc) := mw_put HMg.out hs0 (by rw [HEN.out]; exact hse) hlm HGR.out hmp hbp
 have HT7 : Hid (TapeAt w7 kt tad tlen tcap i5) := HT6.out.grow hgp (fun k hk => by have := Option.some.inj hk; omega)
 have HK7 : Hid (Kept w w7 fun i => i = kt ∨ i = km) := HK6.out.trans (Kept.of_grown (F := fun i => i = kt ∨ i = km) hgp (.inl (.inr rfl))) (fun i hi => .inl hi)
 have HBY7 : Hid (BytB w7 g xn xs) := HBY.out.kept (Kept.of_grown (F := fun i => i = km) hgp (.inl rfl)) HGL.out.2.1
 clear hmp hbp hgp HT6 HM6 HMg HM56 HB56 HK6 HBY
 by_cases hx0 : xn = 0
 · have hdx : decide (0 < xn) = false := by rw [hx0]; rfl
   have hdxi : decide ((0 : Int) < (xn : Int)) = false := by rw [hx0]; rfl
   have HX0 := qh hx0
   clear hx0
   go_wp2_with fail
   go_ret
   exact gives_act (l := [⟨2, Bat.zero, none, 0, xs, some ⟨g, 0, none⟩, xn, c, 0, 0, false, none, 0, 0, none, 0, 0⟩]) HK7.out ⟨i5, HT7.out⟩ (HMW.out.mono (fun k h => h.1)) (by simp only [List.mem_cons, List.not_mem_nil, or_false]; rintro m rfl; exact ⟨recsAt_nil _, (fun r hr => by cases hr), Nat.zero_le _, by show (0 : Int) ≤ _; decide, HBY7.out.byt HGC.out, by show xn ≤ _; omega⟩) (by simp only [List.mem_cons, List.not_mem_nil, or_false]; rintro m rfl; exact ⟨(fun a h => by cases h), fun a h => by cases h; exact HGL.out.1⟩) (by show 1 ≤ 1; decide) (by show 1 ≤ 3; decide) _ rfl 1 rfl
 have hdx : decide (0 < xn) = true := decide_eq_true (by omega)
 have hdxi : decide ((0 : Int) < (xn : Int)) = true := decide_eq_true (by omega)
 have HX0 : Hid (0 < xn) := Nat.pos_of_ne_zero hx0
 have hx1 : (1 : Int) ≤ (xn : Int) := by omega
 clear hx0
 go_wp2_with fail
 refine (tapeNext_any w7 kt tad tlen tcap i5 4 HT7.out (by omega) (by omega)).mono ?_
 rintro e w8 ⟨v8, i8, rfl, lo8, up8, ht, hg⟩
 have HT8 := qh ht
 have HMW8 : Hid (MW (fun k => N k ∧ k ≠ g) w8 km (most + 1) mc) := HMW.out.grown hg hNg (Nat.ne_of_lt hkk)
 have HK8 : Hid (Kept w w8 fun i => i = kt ∨ i = km) := HK7.out.trans (Kept.of_grown (F := fun i => i = kt ∨ i = km) hg (.inl (.inl rfl))) (fun i hi => .inl hi)
 have HBY8 : Hid (BytB w8 g xn xs) := HBY7.out.kept (Kept.of_grown (F := fun i => i = kt) hg (.inl rfl)) HGL.out.2.2.1
 clear ht hg HT7 HMW HK7 HBY7
 by_cases hv8 : v8 = 0
 rotate_left
 · have hd8 : (v8 == 0) = false := by simpa using hv8
   clear hv8
   go_wp2_with fail
   go_ret
   exact gives_act (l := [⟨2, Bat.zero, none, 0, xs, some ⟨g, 0, none⟩, xn, c, 0, 0, false, none, 0, 0, none, 0, 0⟩]) HK8.out ⟨i8, HT8.out⟩ (HMW8.out.mono (fun k h => h.1)) (by simp only [List.mem_cons, List.not_mem_nil, or_false]; rintro m rfl; exact ⟨recsAt_nil _, (fun r hr => by cases hr), Nat.zero_le _, by show (0 : Int) ≤ _; decide, HBY8.out.byt HGC.out, by show xn ≤ _; omega⟩) (by simp only [List.mem_cons, List.not_mem_nil, or_false]; rintro m rfl; exact ⟨(fun a h => by cases h), fun a h => by cases h; exact HGL.out.1⟩) (by show 1 ≤ 1; decide) (by show 1 ≤ 3; decide) _ rfl 1 rfl
 have hd8 : (v8 == 0) = true := by rw [hv8]; rfl
 clear hv8
 go_upto_region 12 with fail
 have hdr : Below w8.heap.size w8 w8.drew := (Below.refl _ w8).drew
 refine wp_region_noPanic ?_
 refine wp_region_z [13] (fun (V : World) => True) (by kernel_rfl) ?_
 have hHeld : (fun (V : World) => True) w8.drew := trivial
 obtain ⟨u0, hu0⟩ := exq w8.drew
 rw [← hu0] at hHeld hdr
 rw [← hu0]
 clear hu0
 have HTu := qh (HT8.out.on hdr)
 have HMu := qh (HMW8.out.on hdr)
 have HKu : Hid (Kept w u0 fun i => i = kt ∨ i = km) := HK8.out.trans (Kept.of_below (F := fun _ => False) hdr) (fun i hi => hi.elim)
 have HBYu : Hid (BytB u0 g xn xs) := HBY8.out.kept (Kept.of_below (F := fun _ => False) hdr) (fun h => h)
 clear hdr HT8 HMW8 HK8 HBY8
 refine zt 0 ?_
 refine zt 1 ?_
 refine zt 2 ?_
 refine zt 3 ?_
 refine zt 7 ?_
 refine zr 4 (fun C hC => ?_)
 go_simp
 refine (tapeNext_any u0 kt tad tlen tcap i8 (xn : Int) HTu.out hx1 (by omega)).mono ?_
 rintro e u1 ⟨v9, i9, rfl, lo9, up9, ht, hg⟩
 have HT9 := qh ht
 have HM9 : Hid (MW (fun k => N k ∧ k ≠ g) u1 km (most + 1) mc) := HMu.out.grown hg hNg (Nat.ne_of_lt hkk)
 have HK9 : Hid (Kept w u1 fun i => i = kt ∨ i = km) := HKu.out.trans (Kept.of_grown (F := fun i => i = kt ∨ i = km) hg (.inl (.inl rfl))) (fun i hi => .inl hi)
 have HBY9 : Hid (BytB u1 g xn xs) := HBYu.out.kept (Kept.of_grown (F := fun i => i = kt) hg (.inl rfl)) HGL.out.2.2.1
 clear ht hg HTu HMu HKu HBYu
 obtain ⟨vj, hvj⟩ : ∃ vj : Nat, v9 = (vj : Int) := ⟨v9.toNat, by omega⟩
 subst hvj
 have hjl : vj < xn := by omega
 have hHeld : (fun (V : World) => True) u1 := trivial
 refine zc hC hHeld ?_
 clear hC C hHeld
 obtain ⟨bv, hbv⟩ : ∃ bv : Nat, bv = xs.getD vj 0 := ⟨_, rfl⟩
 have hb256 : bv < 256 := by rw [hbv]; exact getD_all HBY9.out.all vj
 refine wpAnyZ_strengthen (S' := (fun (V : World) => V.cell? ⟨g, vj, none⟩ = some (.int .u8 (bv : Int)))) (fun _ _ => trivial) _ _ _ _ ?_
 have hHeld : (fun (V : World) => V.cell? ⟨g, vj, none⟩ = some (.int .u8 (bv : Int))) u1 := by show _ = _; rw [hbv]; exact HBY9.out.cell hjl
 have HBV := qh hbv
 clear hbv
 refine zt 5 ?_
 refine zt 6 ?_
 refine zr 8 (fun C hC => ?_)
 go_simp
 refine (tapeNext_any u1 kt tad tlen tcap i9 255 HT9.out (by omega) (by omega)).mono ?_
 rintro e u2 ⟨va, ia, rfl, loa, upa, ht, hg⟩
 have HTa := qh ht
 have HMa : Hid (MW (fun k => N k ∧ k ≠ g) u2 km (most + 1) mc) := HM9.out.grown hg hNg (Nat.ne_of_lt hkk)
 have HKa : Hid (Kept w u2 fun i => i = kt ∨ i = km) := HK9.out.trans (Kept.of_grown (F := fun i => i = kt ∨ i = km) hg (.inl (.inl rfl))) (fun i hi => .inl hi)
 have HBYa : Hid (BytB u2 g xn xs) := HBY9.out.kept (Kept.of_grown (F := fun i => i = kt) hg (.inl rfl)) HGL.out.2.2.1
 clear ht hg HT9 HM9 HK9 HBY9
 have hHeld : (fun (V : World) => V.cell? ⟨g, vj, none⟩ = some (.int .u8 (bv : Int))) u2 := by show _ = _; rw [HBV.out]; exact HBYa.out.cell hjl
 refine zc hC hHeld ?_
 clear hC C
 refine zt 9 ?_
 refine zt 10 ?_
 refine zt 11 ?_
 refine zt 12 ?_
 have hfz := HBYa.out.free vj
 refine zr 13 (fun C hC => ?_)
 have hoc : u2.cell? ⟨g, vj, none⟩ = some (.int .u8 (bv : Int)) := hHeld
 go_simp
 refine zl hC ?_
 clear hC C
 refine zd ?_
 obtain ⟨z, hz, hzz⟩ := xor_some (bv : Int) (IntKind.u8.wrap (IntKind.i64.wrap (1 + va)))
 rw [hzz]
 clear hzz
 obtain ⟨U, hU⟩ := exq (u2.setCell ⟨g, vj, none⟩ (.int .u8 (z : Int)))
 have hgU : u2.grownBy U (some g) := by rw [hU]; exact grow_one u2 g _ _
 have HBYU : Hid (BytB U g xn (xs.set vj z)) := by
  show BytB _ _ _ _
  rw [hU]
  have h1 := HBYa.out.set hjl (z := (z : Int)) (by omega) (by omega)
  rw [Int.toNat_natCast] at h1
  exact h1
 have HTU : Hid (TapeAt U kt tad tlen tcap ia) := HTa.out.grow hgU (fun k hk => by have := Option.some.inj hk; have := HGL.out; omega)
 have HMU : Hid (MW (fun k => N k ∧ k ≠ g) U km (most + 1) mc) := HMa.out.grown hgU (fun k hk => hk.2) HGL.out.2.1
 have HKU : Hid (Kept w U fun i => i = kt ∨ i = km) := HKa.out.trans (Kept.of_grown (F := fun i => i = g) hgU (.inl rfl)) (fun i hi => .inr (by rw [hi]; exact HGL.out.1))
 rw [← hU]
 clear hU hgU hoc hfz hHeld HBYa HTa HMa HKa
 go_wp2_with fail
 go_ret
 exact gives_act (l := [⟨2, Bat.zero, none, 0, xs.set vj z, some ⟨g, 0, none⟩, xn, c, 0, 0, false, none, 0, 0, none, 0, 0⟩]) HKU.out ⟨ia, HTU.out⟩ (HMU.out.mono (fun k h => h.1)) (by simp only [List.mem_cons, List.not_mem_nil, or_false]; rintro m rfl; exact ⟨recsAt_nil _, (fun r hr => by cases hr), Nat.zero_le _, by show (0 : Int) ≤ _; decide, HBYU.out.byt HGC.out, by show xn ≤ _; omega⟩) (by simp only [List.mem_cons, List.not_mem_nil, or_false]; rintro m rfl; exact ⟨(fun a h => by cases h), fun a h => by cases h; exact HGL.out.1⟩) (by show 1 ≤ 1; decide) (by show 1 ≤ 3; decide) _ rfl 1 rfl
end Go.Proofs.YtjmfdildnojknaaGreat
