/- Parts of a proof, merged: SnBytes, PrRefRight, SnMem, SnTable. -/
import Derived.Test.YtgohekjkbgfeeaaGreatKn1
import Derived.Test.YtgohekjkbgfeeaaGreatKn3
import Derived.Test.YtgohekjkbgfeeaaGreatKn6
import Derived.Test.YtgohekjkbgfeeaaGreatKn2
import Derived.Test.YtgohekjkbgfeeaaGreatKn4
import Derived.Test.YtgohekjkbgfeeaaGreatKn7
import Derived.Test.YtgohekjkbgfeeaaGreatKn10
import Derived.Test.YtgohekjkbgfeeaaGreatKn5
import Derived.Test.YtgohekjkbgfeeaaGreatKn9
namespace Go.Proofs.YtgohekjkbgfeeaaGreat
open Go.RowKit
open Go.SeqMath
open Go.ProdMath
open Go.SnapMath
open Go.VarMath (encN)
open Go.BatMath hiding AllB take_all
set_option linter.unusedVariables false

theorem pdsS_app : ∀ (a b : List Pd), pdsS (a ++ b) = pdsS a ++ pdsS b
 | [], b => rfl
 | p :: a, b => by
   show pdS p ++ pdsS (a ++ b) = pdS p ++ pdsS a ++ pdsS b
   rw [pdsS_app a b, List.append_assoc]
theorem trsS_app : ∀ (a b : List Tr), trsS (a ++ b) = trsS a ++ trsS b
 | [], b => rfl
 | p :: a, b => by
   show trS p ++ trsS (a ++ b) = trS p ++ trsS a ++ trsS b
   rw [trsS_app a b, List.append_assoc]
theorem pdsS_take {l : List Pd} {j : Nat} {p : Pd} (h : l[j]? = some p) : pdsS (l.take (j + 1)) = pdsS (l.take j) ++ pdS p := by
 rw [List.take_add_one, h]
 show pdsS (l.take j ++ [p]) = _
 rw [pdsS_app]
 show _ ++ (pdS p ++ []) = _
 rw [List.append_nil]
theorem trsS_take {l : List Tr} {j : Nat} {p : Tr} (h : l[j]? = some p) : trsS (l.take (j + 1)) = trsS (l.take j) ++ trS p := by
 rw [List.take_add_one, h]
 show trsS (l.take j ++ [p]) = _
 rw [trsS_app]
 show _ ++ (trS p ++ []) = _
 rw [List.append_nil]
theorem encL {n : Int} (h : In64 n) : 1 ≤ (encN n).length ∧ (encN n).length ≤ 10 := encN_len h.1 h.2
theorem trS_len {x : Tr} (h : TrIn x) : (trS x).length ≤ 30 := by
 unfold trS
 have h1 := (encL h.1).2
 have h2 := (encL h.2.1).2
 have h3 := (encL h.2.2).2
 simp only [List.length_append]
 omega
theorem trsS_len : ∀ {l : List Tr} (h : ∀ x ∈ l, TrIn x), (trsS l).length ≤ 30 * l.length
 | [], _ => Nat.zero_le _
 | x :: l, h => by
   have h1 := trS_len (h x (by simp))
   have h2 := trsS_len (l := l) fun y hy => h y (by simp [hy])
   show (trS x ++ trsS l).length ≤ _
   rw [List.length_append, List.length_cons]
   omega
theorem pdS_len {p : Pd} (h : PdIn p) (h5 : p.last.length ≤ 5) : (pdS p).length ≤ 190 := by
 unfold pdS
 obtain ⟨a1, a2, a3, a4, a5⟩ := h
 have h1 := (encL a1).2
 have h2 := (encL a2).2
 have h3 := (encL a3).2
 have h4 := (encL (in_nat a4)).2
 have h6 := trsS_len a5
 simp only [List.length_append]
 omega
theorem pdsS_len : ∀ {l : List Pd} (h : ∀ p ∈ l, PdIn p) (h5 : fewP l), (pdsS l).length ≤ 190 * l.length
 | [], _, _ => Nat.zero_le _
 | p :: l, h, h5 => by
   have h1 := pdS_len (h p (by simp)) (h5 p (by simp))
   have h2 := pdsS_len (l := l) (fun y hy => h y (by simp [hy])) (fun y hy => h5 y (by simp [hy]))
   show (pdS p ++ pdsS l).length ≤ _
   rw [List.length_append, List.length_cons]
   omega
def GivesSnPut (w : World) (bs : List Nat) (e : Ending) (w' : World) : Prop := ∃ g m c, e = .returned (.slice (some ⟨g, 0, none⟩) m c) ∧ Row w' (some ⟨g, 0, none⟩) m c bs ∧ Below w.heap.size w w'
theorem put_row (w : World) (ad : Option Addr) (len cap : Nat) (bs : List Nat) (n : Int) (h : Row w ad len cap bs) (hL : bs.length ≤ 140737488355300) (hn : In64 n) :
 Calls Tryz.prog 28 #[.slice ad len cap, .int .i64 n] w (GivesSnPut w (bs ++ encN n)) := by
 refine (refPut_any w ad len cap bs n h (by have := h.len; omega) hn.1 hn.2).mono ?_
 rintro e w' ⟨g, c, rfl, ho, hb⟩
 exact ⟨g, _, c, rfl, owns_row ho (all_append h.all (encN_all hn.1 hn.2)), hb⟩
theorem made_below {w w1 w' : World} {bs : List Nat} {v : Value} (hb : Below w.heap.size w w1) (h : Made w1 bs v w') : Made w bs v w' := by
 obtain ⟨g, cap, e, h1, h2, h3, h4⟩ := h
 exact ⟨g, cap, e, h1, Nat.le_trans hb.size h2, h3, hb.trans (h4.mono hb.size)⟩
theorem rowEq {w : World} {ad : Option Addr} {len cap : Nat} {a b : List Nat} (h : Row w ad len cap a) (e : a = b) : Row w ad len cap b := e ▸ h
set_option maxRecDepth 100000 in
set_option maxHeartbeats 8000000 in
theorem snBytes_any (w : World) (ad : Option Addr) (len cap : Nat) (ms : List PM) (h : PdsAt w ad len cap ms) (hin : PdsIn (pds ms)) (hfew : fewP (pds ms)) (n : Int) (hn : In64 n) :
 Calls Tryz.prog 11 #[.slice ad len cap, .int .i64 n] w (GivesMade w (snapS (pds ms) n)) := by
 have H := Lib.hid h
 have hlen := h.row.length
 obtain ⟨l, hl⟩ : ∃ l, l = pds ms := ⟨_, rfl⟩
 have hll : l.length = len := by rw [hl]; unfold pds; rw [List.length_map]; exact hlen
 have HGET : Hid (∀ (i : Nat) m, ms[i]? = some m → l[i]? = some m.p) := by
  intro i m hm
  rw [hl]; unfold pds
  rw [List.getElem?_map, hm]; rfl
 rw [← hl] at hin hfew
 rw [← hl]
 have HIN := Lib.hid hin
 have HF := Lib.hid hfew
 have HLL := Lib.hid hll
 have hL6 : len ≤ 1000000 := by rw [← hll]; exact hin.1
 have HHD : Hid ((encN n ++ encN (len : Int)).length ≤ 20) := by
  show _ ≤ _
  have h1 := (encL hn).2
  have h2 := (encL (in_nat hL6)).2
  rw [List.length_append]
  omega
 have HTK : Hid (∀ j, (pdsS (l.take j)).length ≤ 190000000) := fun j => by
  have h1 := pdsS_len (l := l.take j) (fun p hp => HIN.out.2 p (List.mem_of_mem_take hp)) (fun p hp => HF.out p (List.mem_of_mem_take hp))
  rw [List.length_take] at h1
  omega
 clear h hlen hl hll hin hfew
 go_enter Tryz.func11, Tryz.ntmps11
 go_wp2_with fail
 refine (put_row w none 0 0 [] n ⟨Byt.nil w, fun _ => rfl⟩ (by simp) hn).mono ?_
 rintro e w1 ⟨g1, n1, c1, rfl, hr1, hb1⟩
 have HR1 := Lib.hid hr1
 have HB1 := Lib.hid hb1
 clear hr1 hb1
 go_wp2_with fail
 refine (put_row w1 _ n1 c1 _ (len : Int) HR1.out (by have := (encL hn).2; rw [List.nil_append]; omega) (in_nat hL6)).mono ?_
 rintro e w2 ⟨g2, n2, c2, rfl, hr2, hb2⟩
 have HR2 : Hid (Row w2 (some ⟨g2, 0, none⟩) n2 c2 (encN n ++ encN (len : Int) ++ pdsS (l.take 0))) := by
  refine rowEq hr2 ?_
  show _ = _ ++ []
  rw [List.nil_append, List.append_nil]
 have HB2 := Lib.hid (HB1.out.trans (hb2.mono HB1.out.size))
 clear hr2 hb2 HR1 HB1
 go_wp2
 go_loopw [5, 17] (fun v5 v17 wr => ∃ (j g m c : Nat), v5 = .slice (some ⟨g, 0, none⟩) m c ∧ v17 = .int .i64 (j : Int) ∧ j ≤ len ∧ Hid (Row wr (some ⟨g, 0, none⟩) m c (encN n ++ encN (len : Int) ++ pdsS (l.take j))) ∧ Hid (Below w.heap.size w wr)) (fun _ v17 _ => len - (intOf v17).toNat)
 case atStart => exact ⟨0, g2, n2, c2, rfl, rfl, Nat.zero_le _, HR2.out, HB2.out⟩
 case round =>
  obtain ⟨j, g, mm, c, rfl, rfl, hj, HR, HB⟩ := hrel
  clear HR2 HB2
  obtain ⟨wo, hwo⟩ : ∃ wo : World, wo = wr := ⟨_, rfl⟩
  subst hwo
  by_cases hlt : j < len
  · have hd : decide (j < len) = true := decide_eq_true hlt
    have hjl : (j : Int) < (len : Int) := by omega
    obtain ⟨bk, off, m, rfl, hbk, hm, hla, c0, c1, c2, c3⟩ := (H.out.keep HB.out).get hlt
    have hlm := HGET.out j m hm
    have hpin := HIN.out.2 m.p (List.mem_of_getElem? hlm)
    have hp5 := HF.out m.p (List.mem_of_getElem? hlm)
    have HPT := Lib.hid (pdsS_take hlm)
    obtain ⟨⟨pid, pep, pl, po⟩, pd, pc⟩ := m
    simp only at c0 c1 c2 c3 hp5 HPT
    obtain ⟨i1, i2, i3, i4, i5⟩ := hpin
    simp only at i1 i2 i3 i4 i5
    obtain ⟨pn, hpn⟩ : ∃ q, q = pl.length := ⟨_, rfl⟩
    have hlb : RowAt trK wo pd pl.length pc pl := hla
    rw [← hpn] at c2 hp5 hlb i4
    have HPN := Lib.hid hpn
    have HLA := Lib.hid hlb
    have HIT := Lib.hid i5
    obtain ⟨X, hX⟩ : ∃ X, X = encN n ++ encN (len : Int) ++ pdsS (l.take j) := ⟨_, rfl⟩
    rw [← hX] at HR
    have HXL : Hid (X.length ≤ 190000020) := by
     show _ ≤ _
     have h1 := HHD.out
     have h2 := HTK.out j
     rw [hX, List.length_append]
     omega
    have HXE : Hid (encN n ++ encN (len : Int) ++ pdsS (l.take (j + 1)) = X ++ pdS ⟨pid, pep, pl, po⟩) := by
     show _ = _
     rw [HPT.out, hX, List.append_assoc, List.append_assoc, List.append_assoc]
    have HE1 := Lib.hid (encL i1)
    have HE2 := Lib.hid (encL i2)
    have HE3 := Lib.hid (encL i3)
    have HE4 := Lib.hid (encL (in_nat i4))
    clear hm hla hlm hlb hbk hpn i5 hX HPT
    go_upto_region 5 with fail
    obtain ⟨W1, hW1⟩ : ∃ z, z = wo.alloc (.cells #[.int .i64 pid, .int .i64 pep, .slice pd pn pc, .int .i64 po] 78) := ⟨_, rfl⟩
    obtain ⟨P, hP⟩ : ∃ P, P = wo.heap.size := ⟨_, rfl⟩
    have hb : Below wo.heap.size wo W1 := by rw [hW1]; exact (Below.refl _ _).alloc (Nat.le_refl _) _
    have HP : Hid (PBox W1 P pid pep (.slice pd pn pc) po) := by show PBox _ _ _ _ _ _; rw [hW1, hP]; exact pbox_new wo _ _ _ _
    replace HR : Hid (Row W1 (some ⟨g, 0, none⟩) mm c X) := HR.out.keep hb (Nat.le_refl _)
    replace HLA := Lib.hid (HLA.out.keep hb)
    replace HB := Lib.hid (HB.out.trans (hb.mono HB.out.size))
    rw [← hW1, ← hP]
    clear hW1 hP hb c0 c1 c2 c3
    have KS : Hid (∀ V, Below W1.heap.size W1 V → (fun (V : World) => V.cell? ⟨P, 0, none⟩ = some (.int .i64 pid) ∧ V.cell? ⟨P, 1, none⟩ = some (.int .i64 pep) ∧ V.cell? ⟨P, 2, none⟩ = some (.slice pd pn pc) ∧ V.cell? ⟨P, 3, none⟩ = some (.int .i64 po)) V) := fun V hV => ⟨(HP.out.on hV).c0, (HP.out.on hV).c1, (HP.out.on hV).c2, (HP.out.on hV).c3⟩
    have hdrw : Below W1.heap.size W1 W1.drew := (Below.refl _ W1).drew
    refine wp_region_noPanic ?_
    refine wp_region_z [] (fun (V : World) => V.cell? ⟨P, 0, none⟩ = some (.int .i64 pid) ∧ V.cell? ⟨P, 1, none⟩ = some (.int .i64 pep) ∧ V.cell? ⟨P, 2, none⟩ = some (.slice pd pn pc) ∧ V.cell? ⟨P, 3, none⟩ = some (.int .i64 po)) (by kernel_rfl) ?_
    have hHeld := KS.out _ hdrw
    obtain ⟨ua_0, hu⟩ : ∃ u, u = W1.drew := ⟨_, rfl⟩
    rw [← hu] at hHeld hdrw
    rw [← hu]
    clear hu
    have HU := Lib.hid hdrw
    clear hdrw
    refine zt 0 ?_
    refine zt 1 ?_
    refine zt 2 ?_
    refine zt 4 ?_
    refine zt 5 ?_
    refine zr 3 (fun C hC => ?_)
    go_simp
    refine (put_row ua_0 _ _ _ _ pid (HR.out.keep HU.out (Nat.le_refl _)) (by have h0 := HXL.out; have h1 := HE1.out; have h2 := HE2.out; have h3 := HE3.out; (try simp only [List.length_append]); omega) (i1)).mono ?_
    rintro e ua_1 ⟨ga, na, ca, rfl, hr, hb⟩
    have HQ1 := Lib.hid hr
    replace HU := Lib.hid (HU.out.trans (hb.mono HU.out.size))
    clear hr hb
    have hHeld := KS.out _ HU.out
    refine zc hC hHeld ?_
    clear hC C
    refine zr 6 (fun C hC => ?_)
    go_simp
    refine (put_row ua_1 _ _ _ _ pep HQ1.out (by have h0 := HXL.out; have h1 := HE1.out; have h2 := HE2.out; have h3 := HE3.out; (try simp only [List.length_append]); omega) (i2)).mono ?_
    rintro e ua_2 ⟨gb, nb, cb, rfl, hr, hb⟩
    have HQ2 := Lib.hid hr
    replace HU := Lib.hid (HU.out.trans (hb.mono HU.out.size))
    clear hr hb
    have hHeld := KS.out _ HU.out
    refine zc hC hHeld ?_
    clear hC C
    refine zt 7 ?_
    refine wpAnyZ_done (by kernel_rfl) ?_ _
    refine NoPanic.normal ?_
    clear hHeld KS HQ1
    replace HP := Lib.hid (HP.out.on HU.out)
    replace HLA := Lib.hid (HLA.out.keep HU.out)
    replace HB := Lib.hid (HB.out.trans (HU.out.mono HB.out.size))
    clear HU HR
    have KS : Hid (∀ V, Below ua_2.heap.size ua_2 V → (fun (V : World) => V.cell? ⟨P, 0, none⟩ = some (.int .i64 pid) ∧ V.cell? ⟨P, 1, none⟩ = some (.int .i64 pep) ∧ V.cell? ⟨P, 2, none⟩ = some (.slice pd pn pc) ∧ V.cell? ⟨P, 3, none⟩ = some (.int .i64 po)) V) := fun V hV => ⟨(HP.out.on hV).c0, (HP.out.on hV).c1, (HP.out.on hV).c2, (HP.out.on hV).c3⟩
    have hdrw : Below ua_2.heap.size ua_2 ua_2.drew := (Below.refl _ ua_2).drew
    go_upto_region 6 with fail
    refine wp_region_noPanic ?_
    refine wp_region_z [] (fun (V : World) => V.cell? ⟨P, 0, none⟩ = some (.int .i64 pid) ∧ V.cell? ⟨P, 1, none⟩ = some (.int .i64 pep) ∧ V.cell? ⟨P, 2, none⟩ = some (.slice pd pn pc) ∧ V.cell? ⟨P, 3, none⟩ = some (.int .i64 po)) (by kernel_rfl) ?_
    have hHeld := KS.out _ hdrw
    obtain ⟨ub_0, hu⟩ : ∃ u, u = ua_2.drew := ⟨_, rfl⟩
    rw [← hu] at hHeld hdrw
    rw [← hu]
    clear hu
    have HU := Lib.hid hdrw
    clear hdrw
    refine zt 0 ?_
    refine zt 1 ?_
    refine zt 2 ?_
    refine zt 4 ?_
    refine zt 5 ?_
    refine zt 6 ?_
    refine zr 3 (fun C hC => ?_)
    go_simp
    refine (put_row ub_0 _ _ _ _ po (HQ2.out.keep HU.out (Nat.le_refl _)) (by have h0 := HXL.out; have h1 := HE1.out; have h2 := HE2.out; have h3 := HE3.out; (try simp only [List.length_append]); omega) (i3)).mono ?_
    rintro e ub_1 ⟨gc, nc, cc, rfl, hr, hb⟩
    have HT1 := Lib.hid hr
    replace HU := Lib.hid (HU.out.trans (hb.mono HU.out.size))
    clear hr hb
    have hHeld := KS.out _ HU.out
    refine zc hC hHeld ?_
    clear hC C
    refine zr 7 (fun C hC => ?_)
    go_simp
    refine (put_row ub_1 _ _ _ _ (pn : Int) HT1.out (by have h0 := HXL.out; have h1 := HE1.out; have h2 := HE2.out; have h3 := HE3.out; (try simp only [List.length_append]); omega) (in_nat i4)).mono ?_
    rintro e ub_2 ⟨gd, nd, cd, rfl, hr, hb⟩
    have HT2 := Lib.hid hr
    replace HU := Lib.hid (HU.out.trans (hb.mono HU.out.size))
    clear hr hb
    have hHeld := KS.out _ HU.out
    refine zc hC hHeld ?_
    clear hC C
    refine zt 8 ?_
    refine wpAnyZ_done (by kernel_rfl) ?_ _
    refine NoPanic.normal ?_
    clear hHeld KS HT1
    replace HP := Lib.hid (HP.out.on HU.out)
    replace HLA := Lib.hid (HLA.out.keep HU.out)
    replace HB := Lib.hid (HB.out.trans (HU.out.mono HB.out.size))
    clear HU HQ2
    obtain ⟨Y, hY⟩ : ∃ Y, Y = X ++ encN pid ++ encN pep ++ encN po ++ encN (pn : Int) := ⟨_, rfl⟩
    rw [← hY] at HT2
    have HYL : Hid (Y.length ≤ 190000060) := by
     show _ ≤ _
     have h0 := HXL.out
     have h1 := HE1.out
     have h2 := HE2.out
     have h3 := HE3.out
     have h4 := HE4.out
     rw [hY]
     simp only [List.length_append]
     omega
    have HYE : Hid (X ++ pdS ⟨pid, pep, pl, po⟩ = Y ++ trsS pl) := by
     show _ = _
     rw [hY]
     unfold pdS
     rw [HPN.out]
     simp only [List.append_assoc]
    have HT3 : Hid (Row ub_2 (some ⟨gd, 0, none⟩) nd cd (Y ++ trsS (pl.take 0))) := rowEq HT2.out (by show _ = _ ++ []; rw [List.append_nil])
    clear hY HT2 HE1 HE2 HE3 HE4 HXL
    have q2 := HP.out.c2
    go_wp2
    clear q2
    go_loopw [5, 39] (fun v5 v39 wr => ∃ (i g m c : Nat), v5 = .slice (some ⟨g, 0, none⟩) m c ∧ v39 = .int .i64 (i : Int) ∧ i ≤ pn ∧ Hid (Row wr (some ⟨g, 0, none⟩) m c (Y ++ trsS (pl.take i))) ∧ Hid (Below ub_2.heap.size ub_2 wr)) (fun _ v39 _ => pn - (intOf v39).toNat)
    case atStart => exact ⟨0, gd, nd, cd, rfl, rfl, Nat.zero_le _, HT3.out, Below.refl _ _⟩
    case round =>
     obtain ⟨i, gi, mi, ci, rfl, rfl, hi, HRI, HBI⟩ := hrel
     clear HT3
     obtain ⟨wi, hwi⟩ : ∃ wi : World, wi = wr := ⟨_, rfl⟩
     subst hwi
     by_cases hit : i < pn
     · have hd2 : decide (i < pn) = true := decide_eq_true hit
       have hil : (i : Int) < (pn : Int) := by omega
       obtain ⟨bt, offt, x, rfl, hbt, hx, d0, d1, d2⟩ := tr_get (HLA.out.keep HBI.out) hit
       have hxin := HIT.out x (List.mem_of_getElem? hx)
       have HTT := Lib.hid (trsS_take hx)
       have HTL : Hid ((trsS (pl.take i)).length ≤ 150) := by
        show _ ≤ _
        have h1 := trsS_len (l := pl.take i) (fun y hy => HIT.out y (List.mem_of_mem_take hy))
        rw [List.length_take] at h1
        omega
       obtain ⟨x0, x1, x2⟩ := x
       obtain ⟨j1, j2, j3⟩ := hxin
       simp only at d0 d1 d2 HTT j1 j2 j3
       obtain ⟨Z, hZ⟩ : ∃ Z, Z = Y ++ trsS (pl.take i) := ⟨_, rfl⟩
       rw [← hZ] at HRI
       have HZL : Hid (Z.length ≤ 190000210) := by
        show _ ≤ _
        have h1 := HYL.out
        have h2 := HTL.out
        rw [hZ, List.length_append]
        omega
       have HZE : Hid (Z ++ encN x0 ++ encN x1 ++ encN x2 = Y ++ trsS (pl.take (i + 1))) := by
        show _ = _
        rw [HTT.out, hZ]
        unfold trS
        simp only [List.append_assoc]
       have HJ1 := Lib.hid (encL j1)
       have HJ2 := Lib.hid (encL j2)
       clear hx hbt hZ HTT HTL
       go_upto_region 10 with fail
       obtain ⟨W2, hW2⟩ : ∃ z, z = wi.alloc (.cells #[.int .i64 x0, .int .i64 x1, .int .i64 x2] 79) := ⟨_, rfl⟩
       obtain ⟨Q, hQ⟩ : ∃ P, P = wi.heap.size := ⟨_, rfl⟩
       have hb : Below wi.heap.size wi W2 := by rw [hW2]; exact (Below.refl _ _).alloc (Nat.le_refl _) _
       have HTB : Hid (TBox W2 Q ⟨x0, x1, x2⟩) := by show TBox _ _ _; rw [hW2, hQ]; exact heap_alloc_new wi _
       replace HRI : Hid (Row W2 (some ⟨gi, 0, none⟩) mi ci Z) := HRI.out.keep hb (Nat.le_refl _)
       replace HBI := Lib.hid (HBI.out.trans (hb.mono HBI.out.size))
       rw [← hW2, ← hQ]
       clear hW2 hQ hb d0 d1 d2
       have KS : Hid (∀ V, Below W2.heap.size W2 V → (fun (V : World) => V.cell? ⟨Q, 0, none⟩ = some (.int .i64 x0) ∧ V.cell? ⟨Q, 1, none⟩ = some (.int .i64 x1) ∧ V.cell? ⟨Q, 2, none⟩ = some (.int .i64 x2)) V) := fun V hV => ⟨(HTB.out.on hV).c0, (HTB.out.on hV).c1, (HTB.out.on hV).c2⟩
       have hdrw : Below W2.heap.size W2 W2.drew := (Below.refl _ W2).drew
       refine wp_region_noPanic ?_
       refine wp_region_z [] (fun (V : World) => V.cell? ⟨Q, 0, none⟩ = some (.int .i64 x0) ∧ V.cell? ⟨Q, 1, none⟩ = some (.int .i64 x1) ∧ V.cell? ⟨Q, 2, none⟩ = some (.int .i64 x2)) (by kernel_rfl) ?_
       have hHeld := KS.out _ hdrw
       obtain ⟨uc_0, hu⟩ : ∃ u, u = W2.drew := ⟨_, rfl⟩
       rw [← hu] at hHeld hdrw
       rw [← hu]
       clear hu
       have HU := Lib.hid hdrw
       clear hdrw
       refine zt 0 ?_
       refine zt 1 ?_
       refine zt 2 ?_
       refine zt 4 ?_
       refine zt 5 ?_
       refine zt 7 ?_
       refine zt 8 ?_
       refine zr 3 (fun C hC => ?_)
       go_simp
       refine (put_row uc_0 _ _ _ _ x0 (HRI.out.keep HU.out (Nat.le_refl _)) (by have h0 := HZL.out; have h1 := HJ1.out; have h2 := HJ2.out; (try simp only [List.length_append]); omega) (j1)).mono ?_
       rintro e uc_1 ⟨gf, nf, cf, rfl, hr, hb⟩
       have HV1 := Lib.hid hr
       replace HU := Lib.hid (HU.out.trans (hb.mono HU.out.size))
       clear hr hb
       have hHeld := KS.out _ HU.out
       refine zc hC hHeld ?_
       clear hC C
       refine zr 6 (fun C hC => ?_)
       go_simp
       refine (put_row uc_1 _ _ _ _ x1 HV1.out (by have h0 := HZL.out; have h1 := HJ1.out; have h2 := HJ2.out; (try simp only [List.length_append]); omega) (j2)).mono ?_
       rintro e uc_2 ⟨gh, nh, ch, rfl, hr, hb⟩
       have HV2 := Lib.hid hr
       replace HU := Lib.hid (HU.out.trans (hb.mono HU.out.size))
       clear hr hb
       have hHeld := KS.out _ HU.out
       refine zc hC hHeld ?_
       clear hC C
       refine zr 9 (fun C hC => ?_)
       go_simp
       refine (put_row uc_2 _ _ _ _ x2 HV2.out (by have h0 := HZL.out; have h1 := HJ1.out; have h2 := HJ2.out; (try simp only [List.length_append]); omega) (j3)).mono ?_
       rintro e uc_3 ⟨ge, ne, ce, rfl, hr, hb⟩
       have HV3 := Lib.hid hr
       replace HU := Lib.hid (HU.out.trans (hb.mono HU.out.size))
       clear hr hb
       have hHeld := KS.out _ HU.out
       refine zc hC hHeld ?_
       clear hC C
       refine zt 10 ?_
       refine wpAnyZ_done (by kernel_rfl) ?_ _
       refine NoPanic.normal ?_
       clear hHeld KS HV1 HV2
       replace HBI := Lib.hid (HBI.out.trans (HU.out.mono HBI.out.size))
       have HRZ := Lib.hid (rowEq HV3.out HZE.out)
       clear HU HV3 HRI HTB HZL HZE HJ1 HJ2
       go_wp2
       go_roundw
       case rel => exact ⟨i + 1, ge, ne, ce, rfl, rfl, by omega, HRZ.out, HBI.out⟩
       case measure => simp [intOf]; omega
     · have hd2 : decide (i < pn) = false := decide_eq_false hit
       have HRJ : Hid (Row wi (some ⟨gi, 0, none⟩) mi ci (encN n ++ encN (len : Int) ++ pdsS (l.take (j + 1)))) := by
        refine rowEq HRI.out ?_
        rw [HXE.out, HYE.out, List.take_of_length_le (by rw [← HPN.out]; omega)]
       have HBJ := Lib.hid (HB.out.trans (HBI.out.mono HB.out.size))
       clear HRI HBI HB HXE HYE HYL
       go_wp2
       go_roundw
       case rel => exact ⟨j + 1, gi, mi, ci, rfl, rfl, by omega, HRJ.out, HBJ.out⟩
       case measure => simp [intOf]; omega
  · have hd : decide (j < len) = false := decide_eq_false hlt
    have HFIN : Hid (Row wo (some ⟨g, 0, none⟩) mm c (bodyS l n)) := by
     refine rowEq HR.out ?_
     rw [List.take_of_length_le (by rw [HLL.out]; omega)]
     unfold bodyS
     rw [HLL.out, List.append_assoc]
    have HML : Hid (mm ≤ 140737488355300) := by
     show _ ≤ _
     have h1 := HR.out.len
     have h2 := HHD.out
     have h3 := HTK.out j
     rw [List.length_append] at h1
     omega
    clear HR
    go_wp2_with fail
    refine (sealed_any wo _ mm c _ HFIN.out.1 (fun e => by cases e) HML.out).mono ?_
    rintro e w9 ⟨v, rfl, hmade⟩
    have HMADE := Lib.hid hmade
    clear hmade
    go_wp2
    go_ret
    exact ⟨v, rfl, made_below HB.out HMADE.out⟩
end Go.Proofs.YtgohekjkbgfeeaaGreat
namespace Go.Proofs.YtgohekjkbgfeeaaGreat
open Go.RowKit
open Go.SeqMath
open Go.ProdMath
open Go.BatMath hiding AllB take_all
set_option linter.unusedVariables false

theorem refGap_any (a b : Int) (w : World) (v : Int) (hv : gapI a b = v) :
 Calls Tryz.prog 96 #[.int .i64 a, .int .i64 b] w fun e w' => e = .returned (.int .i64 v) ∧ w = w' := by
 rcases ha : rightB a with _ | _
 · have HV : Hid (v = -1) := by show _ = _; rw [← hv, gap_no (.inl ha)]
   have HA := Lib.hid ha
   clear hv ha
   go_enter Tryz.func96, Tryz.ntmps96
   go_wp2_with fail
   refine (refSeq_any a _ false HA.out).mono ?_
   rintro e w' ⟨rfl, rfl⟩
   go_wp2
   go_ret
   exact ⟨by rw [HV.out]; rfl, rfl⟩
 · rcases hb : rightB b with _ | _
   · have HV : Hid (v = -1) := by show _ = _; rw [← hv, gap_no (.inr hb)]
     have HA := Lib.hid ha
     have HB := Lib.hid hb
     clear hv ha hb
     go_enter Tryz.func96, Tryz.ntmps96
     go_wp2_with fail
     refine (refSeq_any a _ true HA.out).mono ?_
     rintro e w' ⟨rfl, rfl⟩
     go_wp2_with fail
     refine (refSeq_any b _ false HB.out).mono ?_
     rintro e w' ⟨rfl, rfl⟩
     go_wp2
     go_ret
     exact ⟨by rw [HV.out]; rfl, rfl⟩
   · obtain ⟨a0, a1⟩ := of_right ha
     obtain ⟨b0, b1⟩ := of_right hb
     have HV : Hid ((b - a) % 2147483648 = v) := by show _ = _; rw [← hv, gap_yes a0 a1 b0 b1]
     have HA := Lib.hid ha
     have HB := Lib.hid hb
     clear hv ha hb
     obtain ⟨d, hd⟩ : ∃ d, d = (b - a).tmod 2147483648 := ⟨_, rfl⟩
     have hd0 : -2147483648 < d := by
      rw [hd]
      have := Int.tmod_lt_of_pos (-(b - a)) (b := 2147483648) (by decide)
      rw [Int.neg_tmod] at this
      omega
     have hd1 : d < 2147483648 := by rw [hd]; exact Int.tmod_lt_of_pos _ (by decide)
     have HD : Hid ((d + 2147483648).tmod 2147483648 = v) := by
      show _ = _
      rw [Int.tmod_eq_emod_of_nonneg (by omega), ← HV.out, hd]
      by_cases h : 0 ≤ b - a
      · rw [Int.tmod_eq_emod_of_nonneg h]; omega
      · have h2 : (b - a).tmod 2147483648 = -((-(b - a)) % 2147483648) := by
         rw [← Int.tmod_eq_emod_of_nonneg (by omega : 0 ≤ -(b - a)), Int.neg_tmod, Int.neg_neg]
        rw [h2]; omega
     have hdd : (b - a).tmod 2147483648 = d := hd.symm
     have hde : (d + 2147483648).tmod 2147483648 = v := HD.out
     have hdf : (d + 2147483648) % 2147483648 = v := by rw [← HD.out, Int.tmod_eq_emod_of_nonneg (by omega)]
     have HDF := Lib.hid hdf
     clear hd HD HV hdf
     go_enter Tryz.func96, Tryz.ntmps96
     go_wp2_with fail
     refine (refSeq_any a _ true HA.out).mono ?_
     rintro e w' ⟨rfl, rfl⟩
     go_wp2_with fail
     refine (refSeq_any b _ true HB.out).mono ?_
     rintro e w' ⟨rfl, rfl⟩
     go_wp2
     go_ret
     exact ⟨by first | rfl | (rw [← HDF.out]; rfl), rfl⟩
set_option maxRecDepth 100000 in
set_option maxHeartbeats 4000000 in
theorem prRefRight_any (w : World) (id ep op : Int) (last : List Tr) (ad : Option Addr) (n cap : Nat) (hl : RowAt trK w ad n cap last) (hn : n ≤ 100000000000) (r : Bool) (hr : r = true ↔ RightP ⟨id, ep, last, op⟩) :
 Calls Tryz.prog 62 #[.agg #[.int .i64 id, .int .i64 ep, .slice ad n cap, .int .i64 op]] w (GivesBool w r) := by
 have HR := Lib.hid hr
 clear hr
 have hln := hl.length
 obtain ⟨W0, hW0⟩ : ∃ W0, W0 = (w.alloc (.cells #[.int .i64 id, .int .i64 ep, .slice ad n cap, .int .i64 op] 78)) := ⟨_, rfl⟩
 have HB0 : Hid (Below w.heap.size w W0) := by show Below _ _ _; rw [hW0]; exact (Below.refl _ _).alloc (Nat.le_refl _) _
 have HP0 : Hid (PBox W0 w.heap.size (id) (ep) (.slice ad n cap) (op)) := by
  show PBox _ w.heap.size (id) (ep) (.slice ad n cap) (op)
  rw [hW0]
  have h1 := pbox_new w (id) (ep) (.slice ad n cap) (op)
  simpa using h1
 have HW0 := Lib.hid hW0
 clear hW0
 obtain ⟨B1, hB1⟩ : ∃ B, B = w.heap.size := ⟨_, rfl⟩
 rw [← hB1] at HP0
 go_enter Tryz.func62, Tryz.ntmps62
 go_upto_region 1 with fail
 rw [← HW0.out, ← hB1]
 clear HW0 hB1
 have HL0 := Lib.hid (hl.keep HB0.out)
 have HLN : Hid (last.length = n) := hln
 clear hl hln
 have q0 := HP0.out.c0
 have q1 := HP0.out.c1
 have q2 := HP0.out.c2
 have q3 := HP0.out.c3
 by_cases h1 : id < 0
 · have hd1 : decide (id < 0) = true := decide_eq_true (by omega)
   have HE : Hid (r = false) := right_bad HR.out (fun h => by have := h.1; dsimp at this; have := HLN.out; omega)
   clear HR h1
   go_wp2
   go_ret
   exact gives_bool HE.out HB0.out
 · have hd1 : decide (id < 0) = false := decide_eq_false (by omega)
   by_cases h2 : ep < 0
   · have hd2 : decide (ep < 0) = true := decide_eq_true (by omega)
     have HE : Hid (r = false) := right_bad HR.out (fun h => by have := h.2.1; dsimp at this; have := HLN.out; omega)
     clear HR h1 h2
     go_wp2
     go_ret
     exact gives_bool HE.out HB0.out
   · have hd2 : decide (ep < 0) = false := decide_eq_false (by omega)
     by_cases h3 : 32767 < ep
     · have hd3 : decide (32767 < ep) = true := decide_eq_true (by omega)
       have HE : Hid (r = false) := right_bad HR.out (fun h => by have := h.2.2.1; dsimp at this; have := HLN.out; omega)
       clear HR h1 h2 h3
       go_wp2
       go_ret
       exact gives_bool HE.out HB0.out
     · have hd3 : decide (32767 < ep) = false := decide_eq_false (by omega)
       by_cases h4 : 5 < n
       · have hd4 : decide ((5 : Int) < (n : Int)) = true := decide_eq_true (by omega)
         have hd4n : decide (5 < n) = true := decide_eq_true h4
         have HE : Hid (r = false) := right_bad HR.out (fun h => by have := h.2.2.2.2.2; dsimp at this; have := HLN.out; omega)
         clear HR h1 h2 h3 h4
         go_wp2
         go_ret
         exact gives_bool HE.out HB0.out
       · have hd4 : decide ((5 : Int) < (n : Int)) = false := decide_eq_false (by omega)
         have hd4n : decide (5 < n) = false := decide_eq_false h4
         by_cases h5 : op < -1
         · have hd5 : decide (op < -1) = true := decide_eq_true (by omega)
           have HE : Hid (r = false) := right_bad HR.out (fun h => by have := h.2.2.2.1; dsimp at this; have := HLN.out; omega)
           clear HR h1 h2 h3 h4 h5
           go_wp2
           go_ret
           exact gives_bool HE.out HB0.out
         · have hd5 : decide (op < -1) = false := decide_eq_false (by omega)
           by_cases h6 : 1099511627776 < op
           · have hd6 : decide (1099511627776 < op) = true := decide_eq_true (by omega)
             have HE : Hid (r = false) := right_bad HR.out (fun h => by have := h.2.2.2.2.1; dsimp at this; have := HLN.out; omega)
             clear HR h1 h2 h3 h4 h5 h6
             go_wp2
             go_ret
             exact gives_bool HE.out HB0.out
           · have hd6 : decide (1099511627776 < op) = false := decide_eq_false (by omega)
             have HALL : Hid ((∀ j, j < n → StepOk last j) → r = true) := fun hs => right_end HR.out ⟨by dsimp; omega, by dsimp; omega, by dsimp; omega, by dsimp; omega, by dsimp; omega, by dsimp; have := HLN.out; omega⟩ (fun j hj => hs j (by rw [← HLN.out]; exact hj))
             clear h1 h2 h3 h4 h5 h6
             go_wp2
             go_loopw [38] (fun v38 wr => ∃ j : Nat, v38 = .int .i64 (j : Int) ∧ j ≤ n ∧ (∀ i, i < j → StepOk last i) ∧ Below W0.heap.size W0 wr) (fun v38 _ => n - (intOf v38).toNat)
             case atStart => exact ⟨0, rfl, Nat.zero_le _, (fun i hi => by omega), Below.refl _ _⟩
             case round =>
              obtain ⟨j, rfl, hj, hst, hbel⟩ := hrel
              have HS := Lib.hid hst
              have HB := Lib.hid hbel
              clear hst hbel q0 q1 q2 q3
              obtain ⟨wo, hwo⟩ : ∃ wo : World, wo = wr := ⟨_, rfl⟩
              subst hwo
              by_cases hlt : j < n
              · have hd7 : decide (j < n) = true := decide_eq_true hlt
                have hjn : (j : Int) < (n : Int) := by omega
                obtain ⟨bk, off, x, rfl, hbk, hx, c0, c1, c2⟩ := tr_get (HL0.out.keep HB.out) hlt
                have HX := Lib.hid hx
                clear hx hbk
                go_upto_region 6 with fail
                obtain ⟨W1, hW1⟩ : ∃ W1, W1 = wo.alloc (.cells #[.int .i64 x.f, .int .i64 x.l, .int .i64 x.b] 79) := ⟨_, rfl⟩
                have HB1 : Hid (Below W0.heap.size W0 W1) := by show Below _ _ _; rw [hW1]; exact HB.out.alloc HB.out.size _
                obtain ⟨K, hK⟩ : ∃ K, K = wo.heap.size := ⟨_, rfl⟩
                have HT1 : Hid (TBox W1 K x) := by show TBox _ _ _; rw [hW1, hK]; exact tbox_new wo x
                have HPP := Lib.hid (HP0.out.on HB1.out)
                have HL1 := Lib.hid (HL0.out.keep HB1.out)
                rw [← hW1, ← hK]
                clear hW1 hK c0 c1 c2 HB
                have t0 := HT1.out.c0
                have t1 := HT1.out.c1
                have t2 := HT1.out.c2
                obtain ⟨g, hg⟩ : ∃ g, gapI x.f x.l = g := ⟨_, rfl⟩
                have HG := Lib.hid hg
                have HOKI : Hid (TrOk x ↔ (0 ≤ g ∧ g < 16 ∧ 0 ≤ x.b ∧ x.b ≤ 1099511627776)) := by show _ ↔ _; rw [← hg]; exact Iff.rfl
                clear hg
                go_wp2_with fail
                refine (refGap_any x.f x.l _ g HG.out).mono ?_
                rintro e w2 ⟨rfl, rfl⟩
                by_cases k1 : g < 0
                · have hc1 : decide (g < 0) = true := decide_eq_true k1
                  have HE : Hid (r = false) := right_step HR.out (step_bad HX.out (fun h => by have := HOKI.out.1 h; omega))
                  clear k1
                  go_wp2
                  go_ret
                  exact gives_bool HE.out (HB0.out.trans (HB1.out.mono HB0.out.size))
                · have hc1 : decide (g < 0) = false := decide_eq_false k1
                  by_cases k2 : 16 ≤ g
                  · have hc2 : decide (16 ≤ g) = true := decide_eq_true k2
                    have HE : Hid (r = false) := right_step HR.out (step_bad HX.out (fun h => by have := HOKI.out.1 h; omega))
                    clear k1 k2
                    go_wp2
                    go_ret
                    exact gives_bool HE.out (HB0.out.trans (HB1.out.mono HB0.out.size))
                  · have hc2 : decide (16 ≤ g) = false := decide_eq_false k2
                    by_cases k3 : x.b < 0
                    · have hc3 : decide (x.b < 0) = true := decide_eq_true k3
                      have HE : Hid (r = false) := right_step HR.out (step_bad HX.out (fun h => by have := HOKI.out.1 h; omega))
                      clear k1 k2 k3
                      go_wp2
                      go_ret
                      exact gives_bool HE.out (HB0.out.trans (HB1.out.mono HB0.out.size))
                    · have hc3 : decide (x.b < 0) = false := decide_eq_false k3
                      by_cases k4 : 1099511627776 < x.b
                      · have hc4 : decide (1099511627776 < x.b) = true := decide_eq_true k4
                        have HE : Hid (r = false) := right_step HR.out (step_bad HX.out (fun h => by have := HOKI.out.1 h; omega))
                        clear k1 k2 k3 k4
                        go_wp2
                        go_ret
                        exact gives_bool HE.out (HB0.out.trans (HB1.out.mono HB0.out.size))
                      · have hc4 : decide (1099511627776 < x.b) = false := decide_eq_false k4
                        have HTO : Hid (TrOk x) := HOKI.out.2 ⟨by omega, by omega, by omega, by omega⟩
                        clear k1 k2 k3 k4
                        have KS : Hid (∀ W, Below W1.heap.size W1 W → (fun (W : World) => W.cell? ⟨K, 0, none⟩ = some (.int .i64 x.f) ∧ W.cell? ⟨K, 1, none⟩ = some (.int .i64 x.l) ∧ W.cell? ⟨K, 2, none⟩ = some (.int .i64 x.b) ∧ W.cell? ⟨B1, 0, none⟩ = some (.int .i64 id) ∧ W.cell? ⟨B1, 1, none⟩ = some (.int .i64 ep) ∧ W.cell? ⟨B1, 2, none⟩ = some (.slice (some ⟨bk, off, none⟩) n cap) ∧ W.cell? ⟨B1, 3, none⟩ = some (.int .i64 op) ∧ Below W1.heap.size W1 W) W) := by
                         intro W hW
                         have hP := HPP.out.on hW
                         have hT := HT1.out.on hW
                         exact ⟨hT.c0, hT.c1, hT.c2, hP.c0, hP.c1, hP.c2, hP.c3, hW⟩
                        have hb1d : Below W1.heap.size W1 W1.drew := (Below.refl _ W1).drew
                        go_upto_region 9 with fail
                        by_cases hj0 : j = 0
                        · have hz : decide ((0 : Int) < (j : Int)) = false := decide_eq_false (by omega)
                          have hzn : decide (0 < j) = false := decide_eq_false (by omega)
                          have HNX : Hid (∀ i, i < j + 1 → StepOk last i) := by
                           intro i hi
                           have : i = j := by omega
                           subst this
                           exact step_of HX.out HTO.out (fun y h0 => by omega)
                          clear hj0
                          refine wp_region_noPanic ?_
                          refine wp_region_z [] (fun (W : World) => W.cell? ⟨K, 0, none⟩ = some (.int .i64 x.f) ∧ W.cell? ⟨K, 1, none⟩ = some (.int .i64 x.l) ∧ W.cell? ⟨K, 2, none⟩ = some (.int .i64 x.b) ∧ W.cell? ⟨B1, 0, none⟩ = some (.int .i64 id) ∧ W.cell? ⟨B1, 1, none⟩ = some (.int .i64 ep) ∧ W.cell? ⟨B1, 2, none⟩ = some (.slice (some ⟨bk, off, none⟩) n cap) ∧ W.cell? ⟨B1, 3, none⟩ = some (.int .i64 op) ∧ Below W1.heap.size W1 W) (by kernel_rfl) ?_
                          have hHeld := KS.out _ hb1d
                          obtain ⟨u0, hu0⟩ : ∃ u, u = W1.drew := ⟨_, rfl⟩
                          rw [← hu0] at hHeld hb1d
                          rw [← hu0]
                          clear hu0
                          have HU := Lib.hid hb1d
                          clear hb1d
                          refine zt 0 ?_
                          refine zt 1 ?_
                          refine zt 2 ?_
                          refine zt 3 ?_
                          refine zt 4 ?_
                          refine zt 5 ?_
                          refine zt 6 ?_
                          refine zt 7 ?_
                          refine zt 8 ?_
                          refine zt 9 ?_
                          refine zt 10 ?_
                          refine zt 11 ?_
                          refine zt 12 ?_
                          refine zt 13 ?_
                          refine zt 14 ?_
                          refine zt 15 ?_
                          refine zt 16 ?_
                          refine zt 17 ?_
                          refine zt 18 ?_
                          refine zt 19 ?_
                          refine zt 20 ?_
                          refine zt 21 ?_
                          refine zt 22 ?_
                          refine zt 23 ?_
                          refine zt 24 ?_
                          refine zt 25 ?_
                          refine zt 26 ?_
                          refine wpAnyZ_done (by kernel_rfl) ?_ _
                          refine NoPanic.normal ?_
                          clear hHeld
                          have HBU := Lib.hid (HB1.out.trans (HU.out.mono HB1.out.size))
                          clear t0 t1 t2
                          go_wp2
                          go_roundw
                          case rel => exact ⟨j + 1, by go_num, by omega, HNX.out, HBU.out⟩
                          case measure => simp [intOf]; omega
                        · have hz : decide ((0 : Int) < (j : Int)) = true := decide_eq_true (by omega)
                          have hzn : decide (0 < j) = true := decide_eq_true (by omega)
                          have hzp : 0 < j := by omega
                          have hi1 : (1 : Int) ≤ (j : Int) := by omega
                          have hi2 : (j : Int) - 1 < (n : Int) := by omega
                          have hi3 : ((j : Int) - 1).toNat = j - 1 := by omega
                          have hi4 : IntKind.i64.wrap ((j : Int) - 1) = (j : Int) - 1 := IntWalk.i64_in _ (by omega)
                          obtain ⟨bk', off', y, e', hbk, hy, d0, d1, d2⟩ := tr_get HL1.out (i := j - 1) (by omega)
                          cases e'
                          have HY := Lib.hid hy
                          have KY : Hid (∀ W, Below W1.heap.size W1 W → (fun (W : World) => W.cell? ⟨K, 0, none⟩ = some (.int .i64 x.f) ∧ W.cell? ⟨K, 1, none⟩ = some (.int .i64 x.l) ∧ W.cell? ⟨K, 2, none⟩ = some (.int .i64 x.b) ∧ W.cell? ⟨B1, 0, none⟩ = some (.int .i64 id) ∧ W.cell? ⟨B1, 1, none⟩ = some (.int .i64 ep) ∧ W.cell? ⟨B1, 2, none⟩ = some (.slice (some ⟨bk, off, none⟩) n cap) ∧ W.cell? ⟨B1, 3, none⟩ = some (.int .i64 op) ∧ (W.cell? ⟨bk, off + (j - 1) * 3, none⟩ = some (.int .i64 y.f) ∧ W.cell? ⟨bk, off + (j - 1) * 3 + 1, none⟩ = some (.int .i64 y.l) ∧ W.cell? ⟨bk, off + (j - 1) * 3 + 2, none⟩ = some (.int .i64 y.b)) ∧ Below W1.heap.size W1 W) W) := by
                           intro W hW
                           have h := KS.out W hW
                           exact ⟨h.1, h.2.1, h.2.2.1, h.2.2.2.1, h.2.2.2.2.1, h.2.2.2.2.2.1, h.2.2.2.2.2.2.1, ⟨(hW.cell (p := ⟨bk, _, none⟩) hbk).trans d0, (hW.cell (p := ⟨bk, _, none⟩) hbk).trans d1, (hW.cell (p := ⟨bk, _, none⟩) hbk).trans d2⟩, hW⟩
                          clear hj0 hy hbk d0 d1 d2
                          by_cases hxy : x.b ≤ y.b
                          · have hxd : decide (x.b ≤ y.b) = true := decide_eq_true hxy
                            have HE : Hid (r = false) := right_step HR.out (step_bad2 hzp HX.out HY.out (fun h => by have := h.1; omega))
                            clear hxy
                            refine wp_region_noPanic ?_
                            refine wp_region_z [] (fun (W : World) => W.cell? ⟨K, 0, none⟩ = some (.int .i64 x.f) ∧ W.cell? ⟨K, 1, none⟩ = some (.int .i64 x.l) ∧ W.cell? ⟨K, 2, none⟩ = some (.int .i64 x.b) ∧ W.cell? ⟨B1, 0, none⟩ = some (.int .i64 id) ∧ W.cell? ⟨B1, 1, none⟩ = some (.int .i64 ep) ∧ W.cell? ⟨B1, 2, none⟩ = some (.slice (some ⟨bk, off, none⟩) n cap) ∧ W.cell? ⟨B1, 3, none⟩ = some (.int .i64 op) ∧ (W.cell? ⟨bk, off + (j - 1) * 3, none⟩ = some (.int .i64 y.f) ∧ W.cell? ⟨bk, off + (j - 1) * 3 + 1, none⟩ = some (.int .i64 y.l) ∧ W.cell? ⟨bk, off + (j - 1) * 3 + 2, none⟩ = some (.int .i64 y.b)) ∧ Below W1.heap.size W1 W) (by kernel_rfl) ?_
                            have hHeld : (fun (W : World) => W.cell? ⟨K, 0, none⟩ = some (.int .i64 x.f) ∧ W.cell? ⟨K, 1, none⟩ = some (.int .i64 x.l) ∧ W.cell? ⟨K, 2, none⟩ = some (.int .i64 x.b) ∧ W.cell? ⟨B1, 0, none⟩ = some (.int .i64 id) ∧ W.cell? ⟨B1, 1, none⟩ = some (.int .i64 ep) ∧ W.cell? ⟨B1, 2, none⟩ = some (.slice (some ⟨bk, off, none⟩) n cap) ∧ W.cell? ⟨B1, 3, none⟩ = some (.int .i64 op) ∧ (W.cell? ⟨bk, off + (j - 1) * 3, none⟩ = some (.int .i64 y.f) ∧ W.cell? ⟨bk, off + (j - 1) * 3 + 1, none⟩ = some (.int .i64 y.l) ∧ W.cell? ⟨bk, off + (j - 1) * 3 + 2, none⟩ = some (.int .i64 y.b)) ∧ Below W1.heap.size W1 W) _ := KY.out _ hb1d
                            obtain ⟨u0, hu0⟩ : ∃ u, u = W1.drew := ⟨_, rfl⟩
                            rw [← hu0] at hHeld hb1d
                            rw [← hu0]
                            clear hu0
                            have HU := Lib.hid hb1d
                            clear hb1d
                            refine zt 0 ?_
                            refine zt 1 ?_
                            refine zt 2 ?_
                            refine zt 3 ?_
                            refine zt 4 ?_
                            refine zt 5 ?_
                            refine zt 6 ?_
                            refine zt 7 ?_
                            refine zt 8 ?_
                            refine zt 9 ?_
                            refine zt 10 ?_
                            refine zt 11 ?_
                            refine zt 12 ?_
                            refine zt 13 ?_
                            refine zt 14 ?_
                            refine zt 15 ?_
                            refine zt 16 ?_
                            refine zt 17 ?_
                            refine zt 18 ?_
                            refine zt 19 ?_
                            refine zt 20 ?_
                            refine zt 21 ?_
                            refine zt 22 ?_
                            refine zt 23 ?_
                            refine zt 24 ?_
                            refine zt 25 ?_
                            refine zt 26 ?_
                            refine wpAnyZ_done (by kernel_rfl) ?_ _
                            refine NoPanic.normal ?_
                            clear hHeld
                            clear t0 t1 t2
                            go_wp2
                            go_ret
                            exact gives_bool HE.out (HB0.out.trans ((HB1.out.trans (HU.out.mono HB1.out.size)).mono HB0.out.size))
                          · have hxd : decide (x.b ≤ y.b) = false := decide_eq_false hxy
                            obtain ⟨fo, hfo⟩ : ∃ fo, followsB y.l x.f = fo := ⟨_, rfl⟩
                            have HFO := Lib.hid hfo
                            cases fo
                            · have HE : Hid (r = false) := right_step HR.out (step_bad2 hzp HX.out HY.out (fun h => by have := h.2; rw [hfo] at this; cases this))
                              clear hxy hfo
                              refine wp_region_noPanic ?_
                              refine wp_region_z [] (fun (W : World) => W.cell? ⟨K, 0, none⟩ = some (.int .i64 x.f) ∧ W.cell? ⟨K, 1, none⟩ = some (.int .i64 x.l) ∧ W.cell? ⟨K, 2, none⟩ = some (.int .i64 x.b) ∧ W.cell? ⟨B1, 0, none⟩ = some (.int .i64 id) ∧ W.cell? ⟨B1, 1, none⟩ = some (.int .i64 ep) ∧ W.cell? ⟨B1, 2, none⟩ = some (.slice (some ⟨bk, off, none⟩) n cap) ∧ W.cell? ⟨B1, 3, none⟩ = some (.int .i64 op) ∧ (W.cell? ⟨bk, off + (j - 1) * 3, none⟩ = some (.int .i64 y.f) ∧ W.cell? ⟨bk, off + (j - 1) * 3 + 1, none⟩ = some (.int .i64 y.l) ∧ W.cell? ⟨bk, off + (j - 1) * 3 + 2, none⟩ = some (.int .i64 y.b)) ∧ Below W1.heap.size W1 W) (by kernel_rfl) ?_
                              have hHeld : (fun (W : World) => W.cell? ⟨K, 0, none⟩ = some (.int .i64 x.f) ∧ W.cell? ⟨K, 1, none⟩ = some (.int .i64 x.l) ∧ W.cell? ⟨K, 2, none⟩ = some (.int .i64 x.b) ∧ W.cell? ⟨B1, 0, none⟩ = some (.int .i64 id) ∧ W.cell? ⟨B1, 1, none⟩ = some (.int .i64 ep) ∧ W.cell? ⟨B1, 2, none⟩ = some (.slice (some ⟨bk, off, none⟩) n cap) ∧ W.cell? ⟨B1, 3, none⟩ = some (.int .i64 op) ∧ (W.cell? ⟨bk, off + (j - 1) * 3, none⟩ = some (.int .i64 y.f) ∧ W.cell? ⟨bk, off + (j - 1) * 3 + 1, none⟩ = some (.int .i64 y.l) ∧ W.cell? ⟨bk, off + (j - 1) * 3 + 2, none⟩ = some (.int .i64 y.b)) ∧ Below W1.heap.size W1 W) _ := KY.out _ hb1d
                              obtain ⟨u0, hu0⟩ : ∃ u, u = W1.drew := ⟨_, rfl⟩
                              rw [← hu0] at hHeld hb1d
                              rw [← hu0]
                              clear hu0
                              have HU := Lib.hid hb1d
                              clear hb1d
                              refine zt 0 ?_
                              refine zt 1 ?_
                              refine zt 2 ?_
                              refine zt 3 ?_
                              refine zt 4 ?_
                              refine zt 5 ?_
                              refine zt 6 ?_
                              refine zt 7 ?_
                              refine zt 8 ?_
                              refine zt 9 ?_
                              refine zt 10 ?_
                              refine zt 11 ?_
                              refine zt 12 ?_
                              refine zt 13 ?_
                              refine zt 14 ?_
                              refine zt 15 ?_
                              refine zt 16 ?_
                              refine zt 17 ?_
                              refine zt 18 ?_
                              refine zt 19 ?_
                              refine zt 20 ?_
                              refine zt 21 ?_
                              refine zt 22 ?_
                              refine zr 23 (fun C hC => ?_)
                              go_simp
                              refine (refFollows_any y.l x.f u0 false HFO.out).mono ?_
                              rintro e u1 ⟨rfl, rfl⟩
                              go_wp2_with fail
                              have hHeld : (fun (W : World) => W.cell? ⟨K, 0, none⟩ = some (.int .i64 x.f) ∧ W.cell? ⟨K, 1, none⟩ = some (.int .i64 x.l) ∧ W.cell? ⟨K, 2, none⟩ = some (.int .i64 x.b) ∧ W.cell? ⟨B1, 0, none⟩ = some (.int .i64 id) ∧ W.cell? ⟨B1, 1, none⟩ = some (.int .i64 ep) ∧ W.cell? ⟨B1, 2, none⟩ = some (.slice (some ⟨bk, off, none⟩) n cap) ∧ W.cell? ⟨B1, 3, none⟩ = some (.int .i64 op) ∧ (W.cell? ⟨bk, off + (j - 1) * 3, none⟩ = some (.int .i64 y.f) ∧ W.cell? ⟨bk, off + (j - 1) * 3 + 1, none⟩ = some (.int .i64 y.l) ∧ W.cell? ⟨bk, off + (j - 1) * 3 + 2, none⟩ = some (.int .i64 y.b)) ∧ Below W1.heap.size W1 W) _ := hHeld
                              refine zc hC hHeld ?_
                              clear hC C
                              refine zt 24 ?_
                              refine zt 25 ?_
                              refine zt 26 ?_
                              refine wpAnyZ_done (by kernel_rfl) ?_ _
                              refine NoPanic.normal ?_
                              clear hHeld
                              clear t0 t1 t2
                              go_wp2
                              go_ret
                              exact gives_bool HE.out (HB0.out.trans ((HB1.out.trans (HU.out.mono HB1.out.size)).mono HB0.out.size))
                            · have HNX : Hid (∀ i, i < j + 1 → StepOk last i) := by
                               intro i hi
                               by_cases h : i < j
                               · exact HS.out i h
                               · have : i = j := by omega
                                 subst this
                                 exact step_of HX.out HTO.out (fun y' _ hy' => by rw [HY.out] at hy'; cases hy'; exact ⟨by omega, hfo⟩)
                              clear hxy hfo
                              refine wp_region_noPanic ?_
                              refine wp_region_z [] (fun (W : World) => W.cell? ⟨K, 0, none⟩ = some (.int .i64 x.f) ∧ W.cell? ⟨K, 1, none⟩ = some (.int .i64 x.l) ∧ W.cell? ⟨K, 2, none⟩ = some (.int .i64 x.b) ∧ W.cell? ⟨B1, 0, none⟩ = some (.int .i64 id) ∧ W.cell? ⟨B1, 1, none⟩ = some (.int .i64 ep) ∧ W.cell? ⟨B1, 2, none⟩ = some (.slice (some ⟨bk, off, none⟩) n cap) ∧ W.cell? ⟨B1, 3, none⟩ = some (.int .i64 op) ∧ (W.cell? ⟨bk, off + (j - 1) * 3, none⟩ = some (.int .i64 y.f) ∧ W.cell? ⟨bk, off + (j - 1) * 3 + 1, none⟩ = some (.int .i64 y.l) ∧ W.cell? ⟨bk, off + (j - 1) * 3 + 2, none⟩ = some (.int .i64 y.b)) ∧ Below W1.heap.size W1 W) (by kernel_rfl) ?_
                              have hHeld : (fun (W : World) => W.cell? ⟨K, 0, none⟩ = some (.int .i64 x.f) ∧ W.cell? ⟨K, 1, none⟩ = some (.int .i64 x.l) ∧ W.cell? ⟨K, 2, none⟩ = some (.int .i64 x.b) ∧ W.cell? ⟨B1, 0, none⟩ = some (.int .i64 id) ∧ W.cell? ⟨B1, 1, none⟩ = some (.int .i64 ep) ∧ W.cell? ⟨B1, 2, none⟩ = some (.slice (some ⟨bk, off, none⟩) n cap) ∧ W.cell? ⟨B1, 3, none⟩ = some (.int .i64 op) ∧ (W.cell? ⟨bk, off + (j - 1) * 3, none⟩ = some (.int .i64 y.f) ∧ W.cell? ⟨bk, off + (j - 1) * 3 + 1, none⟩ = some (.int .i64 y.l) ∧ W.cell? ⟨bk, off + (j - 1) * 3 + 2, none⟩ = some (.int .i64 y.b)) ∧ Below W1.heap.size W1 W) _ := KY.out _ hb1d
                              obtain ⟨u0, hu0⟩ : ∃ u, u = W1.drew := ⟨_, rfl⟩
                              rw [← hu0] at hHeld hb1d
                              rw [← hu0]
                              clear hu0
                              have HU := Lib.hid hb1d
                              clear hb1d
                              refine zt 0 ?_
                              refine zt 1 ?_
                              refine zt 2 ?_
                              refine zt 3 ?_
                              refine zt 4 ?_
                              refine zt 5 ?_
                              refine zt 6 ?_
                              refine zt 7 ?_
                              refine zt 8 ?_
                              refine zt 9 ?_
                              refine zt 10 ?_
                              refine zt 11 ?_
                              refine zt 12 ?_
                              refine zt 13 ?_
                              refine zt 14 ?_
                              refine zt 15 ?_
                              refine zt 16 ?_
                              refine zt 17 ?_
                              refine zt 18 ?_
                              refine zt 19 ?_
                              refine zt 20 ?_
                              refine zt 21 ?_
                              refine zt 22 ?_
                              refine zr 23 (fun C hC => ?_)
                              go_simp
                              refine (refFollows_any y.l x.f u0 true HFO.out).mono ?_
                              rintro e u1 ⟨rfl, rfl⟩
                              go_wp2_with fail
                              have hHeld : (fun (W : World) => W.cell? ⟨K, 0, none⟩ = some (.int .i64 x.f) ∧ W.cell? ⟨K, 1, none⟩ = some (.int .i64 x.l) ∧ W.cell? ⟨K, 2, none⟩ = some (.int .i64 x.b) ∧ W.cell? ⟨B1, 0, none⟩ = some (.int .i64 id) ∧ W.cell? ⟨B1, 1, none⟩ = some (.int .i64 ep) ∧ W.cell? ⟨B1, 2, none⟩ = some (.slice (some ⟨bk, off, none⟩) n cap) ∧ W.cell? ⟨B1, 3, none⟩ = some (.int .i64 op) ∧ (W.cell? ⟨bk, off + (j - 1) * 3, none⟩ = some (.int .i64 y.f) ∧ W.cell? ⟨bk, off + (j - 1) * 3 + 1, none⟩ = some (.int .i64 y.l) ∧ W.cell? ⟨bk, off + (j - 1) * 3 + 2, none⟩ = some (.int .i64 y.b)) ∧ Below W1.heap.size W1 W) _ := hHeld
                              refine zc hC hHeld ?_
                              clear hC C
                              refine zt 24 ?_
                              refine zt 25 ?_
                              refine zt 26 ?_
                              refine wpAnyZ_done (by kernel_rfl) ?_ _
                              refine NoPanic.normal ?_
                              clear hHeld
                              have HBU := Lib.hid (HB1.out.trans (HU.out.mono HB1.out.size))
                              clear t0 t1 t2
                              go_wp2
                              go_roundw
                              case rel => exact ⟨j + 1, by go_num, by omega, HNX.out, HBU.out⟩
                              case measure => simp [intOf]; omega
              · have hd7 : decide (j < n) = false := decide_eq_false hlt
                have HE : Hid (r = true) := HALL.out (fun i hi => HS.out i (by omega))
                go_wp2
                go_ret
                exact gives_bool HE.out (HB0.out.trans (HB.out.mono HB0.out.size))
end Go.Proofs.YtgohekjkbgfeeaaGreat
namespace Go.Proofs.YtgohekjkbgfeeaaGreat
open Go.RowKit
open Go.SnapMath
open Go.ProdMath
open Go.BatMath hiding AllB take_all
set_option linter.unusedVariables false

/-- Unseal in one piece. -/
def GivesUns (w : World) (bs : List Nat) (e : Ending) (w' : World) : Prop := ∃ ad len cap, e = .returned (.tuple #[.slice ad len cap, .bool (!(openS bs).2)]) ∧ Byt w' ad len cap (openS bs).1 ∧ Below w.heap.size w w'
theorem unsealR_any (w : World) (ad : Option Addr) (len cap : Nat) (bs : List Nat) (h : Byt w ad len cap bs) (hL : len ≤ 140737488355300) :
 Calls Tryz.prog 60 #[.slice ad len cap] w (GivesUns w bs) := by
 refine (refUnseal_any w ad len cap bs h hL).mono ?_
 rintro e w' (⟨hk, rfl, hb⟩ | ⟨hk, g, c, rfl, hy, hb⟩)
 · have ho : openS bs = ([], true) := by unfold openS; rw [hk]; rfl
   unfold GivesUns
   rw [ho]
   exact ⟨none, 0, 0, rfl, Byt.nil _, hb⟩
 · have ho : openS bs = (bs.drop 4, false) := by unfold openS; rw [hk]; rfl
   unfold GivesUns
   rw [ho]
   exact ⟨_, _, c, rfl, hy, hb⟩
/-- The producers read so far: the call's own row, each with its batches in a row of its own. -/
structure AccAt (w : World) (base : Nat) (v : Value) (ms : List PM) : Prop where
 own : OwnRow pdK w base v ms
 ins : LastsAt w ms
 sep : ∀ m ∈ ms, ∀ a, m.ad = some a → base ≤ a.block ∧ a.block < w.heap.size ∧ v.ownBlock ≠ some a.block
theorem AccAt.nil (w : World) (base : Nat) : AccAt w base (.slice none 0 0) [] := ⟨ownRow_nil pdK w base, fun m h => (by cases h), fun m h => (by cases h)⟩
/-- The row itself, as it reads. -/
theorem AccAt.row {w : World} {base n cap : Nat} {ad : Option Addr} {ms : List PM} (h : AccAt w base (.slice ad n cap) ms) : PdsAt w ad n cap ms ∧ ms.length = n := by
 obtain ⟨ad2, cap2, e, hr, _⟩ := OwnRow.row pdK_ok h.own (n := ms.length) rfl
 injection e with e1 e2 e3
 subst e1 e2 e3
 exact ⟨⟨hr, h.ins⟩, rfl⟩
theorem AccAt.grown {w w' : World} {base k : Nat} {v : Value} {ms : List PM} (h : AccAt w base v ms) (hg : w.grownBy w' (some k)) (hk : k < base) : AccAt w' base v ms := by
 refine ⟨h.own.grown hg fun j hj e => ?_, h.ins.grown hg fun m hm a ha e => ?_, fun m hm a ha => ?_⟩
 · have := (h.own.lt j hj).1
   cases e
   omega
 · have := (h.sep m hm a ha).1
   omega
 · obtain ⟨h1, h2, h3⟩ := h.sep m hm a ha
   exact ⟨h1, Nat.lt_of_lt_of_le h2 hg.size, h3⟩
theorem AccAt.on {w w' : World} {base : Nat} {v : Value} {ms : List PM} (h : AccAt w base v ms) (hb : Below w.heap.size w w') : AccAt w' base v ms :=
 ⟨h.own.on hb, h.ins.keep hb, fun m hm a ha => by obtain ⟨h1, h2, h3⟩ := h.sep m hm a ha; exact ⟨h1, Nat.lt_of_lt_of_le h2 hb.size, h3⟩⟩
/-- One more behind them. -/
theorem AccAt.snoc {w w' : World} {base : Nat} {v v' : Value} {ms : List PM} {m : PM} (h : AccAt w base v ms) (hm : LastAt w m) (ha : ∀ a, m.ad = some a → base ≤ a.block ∧ a.block < w.heap.size ∧ v.ownBlock ≠ some a.block) (hap : Appended pdK w base v (ms ++ [m]) v' w') : AccAt w' base v' (ms ++ [m]) := by
 have hall : ∀ q ∈ ms ++ [m], LastAt w q ∧ ∀ a, q.ad = some a → base ≤ a.block ∧ a.block < w.heap.size ∧ v.ownBlock ≠ some a.block := fun q hq => by
  rcases List.mem_append.1 hq with hq | hq
  · exact ⟨h.ins q hq, h.sep q hq⟩
  · rw [List.mem_singleton] at hq
    rw [hq]
    exact ⟨hm, ha⟩
 refine ⟨hap.1, fun q hq => (hall q hq).1.grown hap.2.1 fun a hqa e => ((hall q hq).2 a hqa).2.2 e.symm, fun q hq a hqa => ?_⟩
 obtain ⟨h1, h2, h3⟩ := (hall q hq).2 a hqa
 refine ⟨h1, Nat.lt_of_lt_of_le h2 hap.2.1.size, fun e => ?_⟩
 rcases hap.2.2.2 _ e with h4 | h4
 · exact h3 h4
 · omega
theorem pds_snoc (ms : List PM) (m : PM) : pds (ms ++ [m]) = pds ms ++ [m.p] := by unfold pds; rw [List.map_append]; rfl
theorem lastId_at {ms : List PM} {n : Nat} {q : PM} (p : Pd) (h : ms.length = n + 1) (hq : ms[n]? = some q) : lastId (pds ms) p = decide (q.p.id < p.id) := by
 have h1 : (pds ms).getLast? = some q.p := by
  rw [List.getLast?_eq_getElem?]
  unfold pds
  rw [List.length_map, h, List.getElem?_map, Nat.add_sub_cancel, hq]
  rfl
 unfold lastId
 rw [h1]
end Go.Proofs.YtgohekjkbgfeeaaGreat
namespace Go.Proofs.YtgohekjkbgfeeaaGreat
open Go.RowKit
open Go.SnapMath
open Go.ProdMath
open Go.BatMath hiding AllB take_all
set_option linter.unusedVariables false

/-- A table, or none. -/
def GivesSnTable (w0 w : World) (k : Nat) (bs : List Nat) (f : Bool) (e : Ending) (w' : World) : Prop :=
 w.grownBy w' (some k) ∧ ((∃ kt km ps r, e = .returned (.tuple #[.pointer (some ⟨kt, 0, none⟩), .bool true]) ∧ TcOk w' kt km ps ∧ w.heap.size ≤ kt ∧ w.heap.size ≤ km ∧ KrAt w0 w' k r false ∧ f = false ∧ TabS bs (pds ps) r) ∨
  (e = .returned (.tuple #[.pointer none, .bool false]) ∧ (f = true ∨ TabNo bs)))
set_option maxRecDepth 100000 in
set_option maxHeartbeats 8000000 in
theorem snTable_any (w1 wo : World) (k : Nat) (b : List Nat) (f : Bool) (h : KrAt w1 wo k b f) (hL : b.length ≤ 1048600) :
 Calls Tryz.prog 41 #[.pointer (some ⟨k, 0, none⟩)] wo (GivesSnTable w1 wo k b f) := by
 have HRD := Lib.hid h
 have HKW : Hid (k < wo.heap.size) := h.lt
 have HBL : Hid (b.length ≤ 1048600) := hL
 obtain ⟨⟨kk, b2, g⟩, e1⟩ : ∃ r, rdN b f = r := ⟨_, rfl⟩
 have l1 := (rdN_len b f).1
 have hik := rdN_in b f
 rw [e1] at l1 hik
 simp only at l1 hik
 have HL2 : Hid (b2.length ≤ 1048600) := Nat.le_trans l1 hL
 have HE1 := Lib.hid e1
 have HIK := Lib.hid hik
 clear h hL e1 l1 hik
 go_enter Tryz.func41, Tryz.ntmps41
 go_wp2_with fail
 refine (snNext_any w1 wo k _ _ HRD.out (Nat.le_trans HBL.out (by omega))).mono ?_
 rintro e wa ⟨rfl, hr, hg⟩
 rw [HE1.out] at hr ⊢
 have HRa := Lib.hid hr
 have HGa : Hid (wo.grownBy wa (some k)) := hg
 clear hr hg HRD
 have q1 := HRa.out.c1
 cases g with
 | true =>
   have HNO : Hid (f = true ∨ TabNo b) := by
    show _ ∨ _
    cases f with
    | true => exact .inl rfl
    | false => exact .inr (tab_fell HE1.out)
   go_wp2
   go_ret2
   exact ⟨HGa.out, .inr ⟨rfl, HNO.out⟩⟩
 | false =>
   have hf := rdN_false HE1.out rfl
   subst hf
   by_cases hk0 : kk < 0
   · have hd0 : decide (kk < 0) = true := decide_eq_true hk0
     have HNO : Hid (TabNo b) := tab_neg HE1.out hk0
     go_wp2
     go_ret2
     exact ⟨HGa.out, .inr ⟨rfl, .inr HNO.out⟩⟩
   · obtain ⟨kn, rfl⟩ : ∃ kn : Nat, kk = (kn : Int) := ⟨kk.toNat, by omega⟩
     have hkn : kn ≤ 9223372036854775807 := by have := HIK.out.2; omega
     have hd0 : decide ((kn : Int) < 0) = false := decide_eq_false (by omega)
     clear hk0
     go_wp2
     clear q1 hd0
     go_loopw [5, 6, 20] (fun v5 v6 v20 wr => ∃ (j : Nat) (c : List Nat) (u : Value) (ms : List PM) (z : Int), u = v5 ∧ v6 = .int .i64 z ∧ v20 = .int .i64 (j : Int) ∧ j ≤ kn ∧ Hid (z = lastW (pds ms)) ∧ Hid (AccAt wr wo.heap.size u ms) ∧ Hid (KrAt w1 wr k c false) ∧ Hid (AccOk (pds ms)) ∧ Hid (ms.length = j) ∧ Hid (b2 = pdsS (pds ms) ++ c) ∧ Hid (wo.grownBy wr (some k))) (fun _ _ v20 _ => kn - (intOf v20).toNat)
     case atStart => exact ⟨0, b2, _, [], -1, rfl, rfl, rfl, Nat.zero_le _, rfl, AccAt.nil _ _, HRa.out, AccOk.nil, rfl, rfl, HGa.out⟩
     case round =>
      obtain ⟨j, c, u, ms, z, rfl, rfl, rfl, hj, HZ, HA, HR, HAC, HML, HB2, HG⟩ := hrel
      clear HRa HGa
      obtain ⟨w4, hw4⟩ : ∃ w4 : World, w4 = wr := ⟨_, rfl⟩
      subst hw4
      have HBC : Hid (4 * ms.length + c.length ≤ 1048600) := by
       show _ ≤ _
       have h1 := HL2.out
       have h2 := pdsS_pos HAC.out.pdIn
       rw [HB2.out, List.length_append] at h1
       unfold pds at h2
       rw [List.length_map] at h2
       unfold pds at h1
       omega
      by_cases hlt : j < kn
      · have hd1 : decide (j < kn) = true := decide_eq_true hlt
        have hjl : (j : Int) < (kn : Int) := by omega
        go_wp2_with fail
        refine (snState_any w1 w4 k c HR.out (by have := HBC.out; omega)).mono ?_
        rintro e w5 ⟨hg, ⟨p, ad, cap, c2, rfl, hrow, hnew, hkr, hright, hi64, hbs⟩ | ⟨p0, p1, va, vn, vc, p3, rfl, hno⟩⟩
        · have HG5 : Hid (wo.grownBy w5 (some k)) := grow_trans HG.out hg
          have HA5 := Lib.hid (HA.out.grown hg HKW.out)
          have HR5 := Lib.hid hkr
          have HROW := Lib.hid hrow
          have HNEW : Hid (∀ a, ad = some a → w4.heap.size ≤ a.block ∧ a.block < w5.heap.size) := hnew
          have HOWN : Hid (∀ q, u.ownBlock = some q → q < w4.heap.size) := fun q hq => (HA.out.own.lt q hq).2
          have HW4 : Hid (wo.heap.size ≤ w4.heap.size) := HG.out.size
          have HS5 : Hid (w4.heap.size ≤ w5.heap.size) := hg.size
          have HRT := Lib.hid hright
          have HI := Lib.hid hi64
          have HBS := Lib.hid hbs
          clear hg hrow hnew hkr hright hi64 hbs HG HA HR
          obtain ⟨pid, pep, pl, po⟩ := p
          simp only at HROW HBS HI
          simp only
          obtain ⟨pn, hpn⟩ : ∃ n, n = pl.length := ⟨_, rfl⟩
          rw [← hpn] at HROW ⊢
          have HPN := Lib.hid hpn
          clear hpn
          go_upto_region 9 with fail
          obtain ⟨W6, hW6⟩ : ∃ y, y = w5.alloc (.cells #[.int .i64 pid, .int .i64 pep, .slice ad pn cap, .int .i64 po] 78) := ⟨_, rfl⟩
          obtain ⟨P, hP⟩ : ∃ y, y = w5.heap.size := ⟨_, rfl⟩
          have hb6 : Below w5.heap.size w5 W6 := by rw [hW6]; exact (Below.refl _ _).alloc (Nat.le_refl _) _
          have HP6 : Hid (PBox W6 P pid pep (.slice ad pn cap) po) := by show PBox _ _ _ _ _ _; rw [hW6, hP]; exact pbox_new w5 _ _ _ _
          have HG6 : Hid (wo.grownBy W6 (some k)) := grow_below HG5.out hb6
          have HA6 := Lib.hid (HA5.out.on hb6)
          have HR6 := Lib.hid (HR5.out.on hb6)
          have HROW6 := Lib.hid (HROW.out.keep hb6)
          have HNEW6 : Hid (∀ a, ad = some a → w4.heap.size ≤ a.block ∧ a.block < W6.heap.size) := fun a ha => ⟨(HNEW.out a ha).1, Nat.lt_of_lt_of_le (HNEW.out a ha).2 hb6.size⟩
          have HPP : Hid (w4.heap.size ≤ P) := by show _ ≤ _; rw [hP]; exact HS5.out
          rw [← hW6, ← hP]
          clear hW6 hP hb6 HG5 HA5 HR5 HROW HNEW
          have r0 := HP6.out.c0
          by_cases hz : pid ≤ z
          · have hdz : decide (pid ≤ z) = true := decide_eq_true hz
            have HNO : Hid (TabNo b) := tab_low HE1.out HAC.out HB2.out (by have := HML.out; unfold pds; rw [List.length_map]; omega) HRT.out HI.out HBS.out (by have := HZ.out; simp only; omega)
            go_wp2
            go_ret2
            exact ⟨HG6.out, .inr ⟨rfl, .inr HNO.out⟩⟩
          · have hdz : decide (pid ≤ z) = false := decide_eq_false hz
            have HAC2 : Hid (AccOk (pds ms ++ [⟨pid, pep, pl, po⟩])) := HAC.out.snoc HRT.out HI.out (lastW_yes (by have := HZ.out; simp only; omega))
            have HB3 : Hid (b2 = pdsS (pds ms ++ [⟨pid, pep, pl, po⟩]) ++ c2) := by show _ = _; rw [pdsS_snoc, ← HBS.out]; exact HB2.out
            have HMS : Hid (ms.length ≤ 1000000) := by show _ ≤ _; have := HBC.out; omega
            have KS : Hid (∀ V, Below W6.heap.size W6 V → (fun (V : World) => V.cell? ⟨P, 0, none⟩ = some (.int .i64 pid) ∧ V.cell? ⟨P, 1, none⟩ = some (.int .i64 pep) ∧ V.cell? ⟨P, 2, none⟩ = some (.slice ad pn cap) ∧ V.cell? ⟨P, 3, none⟩ = some (.int .i64 po)) V) := fun V hV => ⟨(HP6.out.on hV).c0, (HP6.out.on hV).c1, (HP6.out.on hV).c2, (HP6.out.on hV).c3⟩
            have hdrw : Below W6.heap.size W6 W6.drew := (Below.refl _ W6).drew
            go_upto_region 11 with fail
            clear r0 hz HBS
            refine wp_region_noPanic ?_
            refine wp_region_z [] (fun (V : World) => V.cell? ⟨P, 0, none⟩ = some (.int .i64 pid) ∧ V.cell? ⟨P, 1, none⟩ = some (.int .i64 pep) ∧ V.cell? ⟨P, 2, none⟩ = some (.slice ad pn cap) ∧ V.cell? ⟨P, 3, none⟩ = some (.int .i64 po)) (by kernel_rfl) ?_
            have hHeld := KS.out _ hdrw
            obtain ⟨u3, hu3⟩ : ∃ u, u = W6.drew := ⟨_, rfl⟩
            rw [← hu3] at hHeld hdrw
            rw [← hu3]
            clear hu3
            have HU3 := Lib.hid hdrw
            clear hdrw
            refine zt 0 ?_
            refine zt 1 ?_
            refine zt 4 ?_
            refine zt 5 ?_
            refine zr 2 (fun C hC => ?_)
            go_simp
            obtain ⟨m9, hm9⟩ : ∃ m : PM, m = ⟨⟨pid, pep, pl, po⟩, ad, cap⟩ := ⟨_, rfl⟩
            obtain ⟨u4, hu4⟩ : ∃ y, y = u3.alloc (.cells #[.int .i64 pid, .int .i64 pep, .slice ad pn cap, .int .i64 po] 78) := ⟨_, rfl⟩
            obtain ⟨Q, hQ⟩ : ∃ y, y = u3.heap.size := ⟨_, rfl⟩
            have hb4 : Below u3.heap.size u3 u4 := by rw [hu4]; exact (Below.refl _ _).alloc (Nat.le_refl _) _
            have HLIT : Hid (RowAt pdK u4 (some ⟨Q, 0, none⟩) 1 1 [m9]) := by
             show RowAt _ _ _ _ _ _
             rw [hu4, hQ]
             exact rowAt_lit pdK_ok u3 [m9] (by simp) _ (by rw [hm9, HPN.out]; rfl) 1 rfl
            have HU4 := Lib.hid (HU3.out.trans (hb4.mono HU3.out.size))
            have HM9 := Lib.hid hm9
            (try rw [← hu4, ← hQ])
            clear hu4 hQ hb4 hm9
            have hHeld := KS.out _ HU4.out
            refine zc hC hHeld ?_
            clear hC C
            refine zr 3 (fun C hC => ?_)
            refine held_row (by rfl) pdK_ok (.tmp 35) (.tmp 37) rfl wo.heap.size ms [m9] _ rfl (HA6.out.own.on HU4.out) (Nat.le_trans HG6.out.size HU4.out.size) (some ⟨Q, 0, none⟩) 1 1 rfl HLIT.out (by have := HMS.out; omega) ?_
            rintro v7 u5 hap
            have HA4 := Lib.hid (HA6.out.on HU4.out)
            have HP4 := Lib.hid (HP6.out.on HU4.out)
            have HA7 : Hid (AccAt u5 wo.heap.size v7 (ms ++ [⟨⟨pid, pep, pl, po⟩, ad, cap⟩])) := by
             have h0 := HM9.out
             subst h0
             have h8 := HROW6.out.keep HU4.out
             rw [HPN.out] at h8
             refine HA4.out.snoc h8 (fun a ha => ?_) hap
             have h1 := HNEW6.out a ha
             have h2 := HW4.out
             have h3 := HU4.out.size
             exact ⟨by omega, by omega, fun e => by have := HOWN.out _ e; omega⟩
            have hug : ∀ q, u.ownBlock = some q → wo.heap.size ≤ q := fun q hq => (HA4.out.own.lt q hq).1
            have HP7 := Lib.hid (HP4.out.grown hap.2.1 (fun e => by have := HOWN.out P e; have := HPP.out; omega))
            have HR7 := Lib.hid ((HR6.out.on HU4.out).grown hap.2.1 (fun q hq => by have h1 := hug q hq; have h2 := HKW.out; have h3 := HR6.out.old; constructor <;> omega))
            have HG7 : Hid (wo.grownBy u5 (some k)) := grow_own (grow_below HG6.out HU4.out) hap.2.1 hug
            clear hap hug HA4 HP4 HA6 HP6 HR6 HG6 HLIT
            have hHeld : (fun (V : World) => V.cell? ⟨P, 0, none⟩ = some (.int .i64 pid) ∧ V.cell? ⟨P, 1, none⟩ = some (.int .i64 pep) ∧ V.cell? ⟨P, 2, none⟩ = some (.slice ad pn cap) ∧ V.cell? ⟨P, 3, none⟩ = some (.int .i64 po)) u5 := ⟨HP7.out.c0, HP7.out.c1, HP7.out.c2, HP7.out.c3⟩
            refine zc hC hHeld ?_
            clear hC C
            refine zt 6 ?_
            refine zt 7 ?_
            refine wpAnyZ_done (by kernel_rfl) ?_ _
            refine NoPanic.normal ?_
            clear hHeld KS
            have hps : pds (ms ++ [⟨⟨pid, pep, pl, po⟩, ad, cap⟩]) = pds ms ++ [⟨pid, pep, pl, po⟩] := pds_snoc ms _
            have HZ7 : Hid (pid = lastW (pds (ms ++ [⟨⟨pid, pep, pl, po⟩, ad, cap⟩]))) := by show _ = _; rw [hps, lastW_snoc]
            have HAC7 : Hid (AccOk (pds (ms ++ [⟨⟨pid, pep, pl, po⟩, ad, cap⟩]))) := by show AccOk _; rw [hps]; exact HAC2.out
            have HB7 : Hid (b2 = pdsS (pds (ms ++ [⟨⟨pid, pep, pl, po⟩, ad, cap⟩])) ++ c2) := by show _ = _; rw [hps]; exact HB3.out
            have HML7 : Hid ((ms ++ [(⟨⟨pid, pep, pl, po⟩, ad, cap⟩ : PM)]).length = j + 1) := by show _ = _; rw [List.length_append, HML.out]; rfl
            clear hps HP7 HAC HAC2 HB3 HZ HB2
            go_wp2
            go_roundw
            case rel => exact ⟨j + 1, c2, v7, ms ++ [(⟨⟨pid, pep, pl, po⟩, ad, cap⟩ : PM)], pid, rfl, rfl, rfl, by omega, HZ7.out, HA7.out, HR7.out, HAC7.out, HML7.out, HB7.out, HG7.out⟩
            case measure => simp [intOf]; omega
        · have HNO : Hid (TabNo b) := tab_stop HE1.out HAC.out HB2.out (by have := HML.out; unfold pds; rw [List.length_map]; omega) hno
          have HG5 : Hid (wo.grownBy w5 (some k)) := grow_trans HG.out hg
          clear hno hg
          go_wp2
          go_ret2
          exact ⟨grow_alloc HG5.out _, .inr ⟨rfl, .inr HNO.out⟩⟩
      · have hd1 : decide (j < kn) = false := decide_eq_false hlt
        have hjn : j = kn := by omega
        have HTS : Hid (TabS b (pds ms) c) := tab_done HE1.out HAC.out (by have := HBC.out; unfold pds; rw [List.length_map]; omega) HB2.out (by have := HML.out; unfold pds; rw [List.length_map]; omega)
        obtain ⟨n9, hn9⟩ : ∃ n9, ms.length = n9 := ⟨_, rfl⟩
        obtain ⟨ad9, cap9, rfl, _, _⟩ := OwnRow.row pdK_ok HA.out.own hn9
        have HPD := Lib.hid (HA.out.row).1
        have h9 : n9 ≤ 1000000 := by have := HBC.out; omega
        have HTO := Lib.hid (tcOf_any w4 ad9 n9 cap9 ms HPD.out h9 HAC.out.asc HAC.out.few HAC.out.ids)
        clear hn9 h9 hjn
        go_wp2_with fail
        refine HTO.out.mono ?_
        rintro e w5 ⟨kt, km, ps, rfl, ht, hps, hkt, hkm, hb⟩
        have HT := Lib.hid ht
        have HPS := Lib.hid hps
        have HKT : Hid (wo.heap.size ≤ kt ∧ wo.heap.size ≤ km) := by have := HG.out.size; show _ ∧ _; omega
        have HR5 := Lib.hid (HR.out.on hb)
        have HG5 : Hid (wo.grownBy w5 (some k)) := grow_below HG.out hb
        clear ht hps hkt hkm hb HTO
        go_wp2
        go_ret2
        exact ⟨HG5.out, .inl ⟨kt, km, ps, c, rfl, HT.out, HKT.out.1, HKT.out.2, HR5.out, rfl, by rw [HPS.out]; exact HTS.out⟩⟩
end Go.Proofs.YtgohekjkbgfeeaaGreat
