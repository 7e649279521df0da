/- Parts of a proof, merged: AcBytes, SnapMath3, AcMath, AcNums, AcRead, TcGet, PrDup, PrCheck, PrApply, TcCheck. -/
import Derived.Test.YtbejincejbnbaaaKa11
import Derived.Test.YtbejincejbnbaaaKa3
import Derived.Test.YtbejincejbnbaaaKa4
import Derived.Test.YtbejincejbnbaaaKa1
import Derived.Test.YtbejincejbnbaaaKa8
import Derived.Test.YtbejincejbnbaaaKa6
import Derived.Test.YtbejincejbnbaaaKa5
namespace Go.Proofs.Ytbejincejbnbaaa
open Go.RowKit
open Go.AbMath
open Go.ProdMath
open Go.VarMath (encN)
open Go.BatMath hiding AllB getD_lt take_all
set_option linter.unusedVariables false

theorem ac_encL {n : Int} (h : In64 n) : (encN n).length ≤ 10 ∧ 1 ≤ (encN n).length := ⟨(SnapMath.encN_len h).2, (SnapMath.encN_len h).1⟩
theorem ac_own_byt {w : World} {base : Nat} {v : Value} {l : List Nat} {n : Nat} (h : OwnRow byteK w base v l) (ha : CrcMath.AllB l) (hn : l.length = n) : ∃ ad cap, v = .slice ad n cap ∧ Byt w ad n cap l := by
 obtain ⟨ad, cap, rfl, hr, _⟩ := OwnRow.row byteK_ok h hn
 exact ⟨ad, cap, rfl, byt_of hr ha⟩
set_option maxRecDepth 100000 in
set_option maxHeartbeats 8000000 in
theorem acBytes_any (F : Nat → Prop) (w : World) (a : Addr) (l : List Dr) (h : AcR F w a l) (hok : DrsOk l) (hn : l.length ≤ 5000) (hin : ∀ d ∈ l, In64 d.prod) :
 Calls Try.prog 22 #[.pointer (some a)] w (GivesMade w (bytesA l)) := by
 obtain ⟨k, v, rfl, h, _⟩ := h
 obtain ⟨ad, cap, rfl, hr⟩ := h.at
 obtain ⟨n, hnl⟩ : ∃ n, l.length = n := ⟨_, rfl⟩
 obtain ⟨mz, hmz⟩ : ∃ m, m = maxL l := ⟨_, rfl⟩
 have hbx := h.box
 rw [hnl] at hr hbx hn
 rw [← hmz] at hbx
 have H := Lib.hid hr
 have HBX := Lib.hid hbx
 have HNL := Lib.hid hnl
 have HIN := Lib.hid (hok.isIn hin)
 have HN := Lib.hid hn
 have HNI : Hid (In64 (n : Int)) := SnapMath.in_nat (by omega)
 have HTK : Hid (∀ j, (drsS (l.take j)).length ≤ 150000) := fun j => by
  have h1 := (drsS_len (l := l.take j) fun p hp => HIN.out p (List.mem_of_mem_take hp)).2
  rw [List.length_take] at h1
  omega
 have q0 := hbx.c0
 clear h hr hbx hmz hnl hok hin
 go_enter Try.func22, Try.ntmps22
 go_wp2_with fail
 refine (put_any w none 0 0 [] (n : Int) ⟨Byt.nil w, fun _ => rfl⟩ (by omega) HNI.out.1 HNI.out.2).mono ?_
 rintro e w2 ⟨g, cp, rfl, hown, hb2⟩
 rw [List.nil_append] at hown ⊢
 obtain ⟨v1, hv1⟩ : ∃ v, v = Value.slice (some ⟨g, 0, none⟩) (encN (n : Int)).length cp := ⟨_, rfl⟩
 rw [← hv1] at hown ⊢
 have HO2 : Hid (OwnRow byteK w2 w.heap.size v1 (encN (n : Int) ++ drsS (l.take 0))) := by
  show OwnRow _ _ _ _ (_ ++ [])
  rw [List.append_nil]
  exact own_bytes.2 hown
 have HB2 := Lib.hid hb2
 have HBX2 := Lib.hid (HBX.out.same (hb2.block k HBX.out.lt))
 clear hown hv1 hb2 q0
 have q0 := HBX2.out.c0
 have HEL := Lib.hid (ac_encL HNI.out).1
 obtain ⟨E0, hE0⟩ : ∃ E, E = encN (n : Int) := ⟨_, rfl⟩
 rw [← hE0] at HO2 HEL
 have HE0 := Lib.hid hE0
 clear hE0
 go_wp2_with fail
 clear q0
 go_loopw [3, 17] (fun v3 v17 wr => ∃ (j : Nat) (u : Value), u = v3 ∧ v17 = .int .i64 (j : Int) ∧ j ≤ n ∧ Hid (OwnRow byteK wr w.heap.size u (E0 ++ drsS (l.take j))) ∧ Hid (Below w.heap.size w wr)) (fun _ v17 _ => n - (intOf v17).toNat)
 case atStart => exact ⟨0, v1, rfl, rfl, Nat.zero_le _, HO2.out, HB2.out⟩
 case round =>
  obtain ⟨j, u, rfl, rfl, hj, HO, HB⟩ := hrel
  clear HO2 HB2 HBX2
  obtain ⟨wo, hwo⟩ : ∃ wo : World, wo = wr := ⟨_, rfl⟩
  subst hwo
  by_cases hlt : j < n
  · have hd : decide (j < n) = true := decide_eq_true hlt
    have hjl : (j : Int) < (n : Int) := by omega
    obtain ⟨bk, off, x, rfl, hbk, hx, p0, p1, p2⟩ := dr_get (H.out.keep HB.out) hlt
    have HT := Lib.hid (drsS_take hx)
    have hxi := HIN.out x (List.mem_of_getElem? hx)
    have HXL := Lib.hid (HTK.out j)
    obtain ⟨x0, x1, x2⟩ := x
    simp only at p0 p1 p2
    have HI0 : Hid (In64 x0) := hxi.1
    have HI1 : Hid (In64 x1) := hxi.2.1
    have HI2 : Hid (In64 x2) := hxi.2.2
    clear hx hxi
    go_upto_region 5 with fail
    obtain ⟨W1, hW1⟩ : ∃ z, z = wo.alloc (.cells #[.int .i64 x0, .int .i64 x1, .int .i64 x2] 29) := ⟨_, rfl⟩
    obtain ⟨P, hP⟩ : ∃ P, P = wo.heap.size := ⟨_, rfl⟩
    have hb : Below wo.heap.size wo W1 := by rw [hW1]; exact (Below.refl _ _).alloc (Nat.le_refl _) _
    have HP : Hid (DBox W1 P ⟨x0, x1, x2⟩) := by show DBox _ _ _; rw [hW1, hP]; exact dbox_new wo ⟨x0, x1, x2⟩
    have HO1 := Lib.hid (HO.out.on hb)
    have HB1 := Lib.hid (HB.out.trans (hb.mono HB.out.size))
    have HPN : Hid (∀ q, u.ownBlock = some q → q ≠ P) := fun q hq e => by have h1 := (HO.out.lt q hq).2; rw [e, hP] at h1; exact Nat.lt_irrefl _ h1
    rw [← hW1, ← hP]
    clear hW1 hP hb p0 p1 p2 hbk HO HB
    obtain ⟨X0, hX0⟩ : ∃ X, X = E0 ++ drsS (l.take j) := ⟨_, rfl⟩
    rw [← hX0] at HO1
    have HXE : Hid (E0 ++ drsS (l.take (j + 1)) = X0 ++ encN x0 ++ encN x1 ++ encN x2) := by
     show _ = _
     rw [HT.out, hX0]
     simp only [drS, List.append_assoc]
    have HX0 : Hid (X0.length ≤ 150010) := by show _ ≤ _; have h1 := HXL.out; have h2 := HEL.out; rw [hX0, List.length_append]; omega
    clear hX0 HT HXL
    have r0 := HP.out.c0
    go_wp2_with fail
    refine (put_any W1 none 0 0 [] x0 ⟨Byt.nil W1, fun _ => rfl⟩ (by omega) HI0.out.1 HI0.out.2).mono ?_
    rintro e y_1 ⟨g_1, cp_1, rfl, hown, hb2⟩
    rw [List.nil_append] at hown ⊢
    obtain ⟨la_1, hla⟩ : ∃ la, (encN x0).length = la := ⟨_, rfl⟩
    have hl10 := (ac_encL HI0.out).1
    have HROW : Hid (RowAt byteK y_1 (some ⟨g_1, 0, none⟩) la_1 cp_1 (encN x0)) := by
     have h1 : OwnRow byteK y_1 (World.heap W1).size (.slice (some ⟨g_1, 0, none⟩) (encN x0).length cp_1) (encN x0) := own_bytes.2 hown
     obtain ⟨ad2, cap2, e, hr, _⟩ := OwnRow.row byteK_ok h1 hla
     rw [hla] at e
     cases e
     exact hr
    rw [hla]
    have HBY := Lib.hid hb2
    rw [hla] at hl10
    have HLA := Lib.hid hl10
    have HOY := Lib.hid (HO1.out.on hb2)
    have HBB := Lib.hid (HB1.out.trans (hb2.mono HB1.out.size))
    have HPY := Lib.hid (HP.out.on hb2)
    clear hown hb2 hla hl10 r0
    go_wp2_with (at_builtin; refine list_row (by rfl) byteK_ok (.tmp 21) (.tmp 24) rfl w.heap.size (X0) (encN x0) u rfl HOY.out HBB.out.size (some ⟨g_1, 0, none⟩) la_1 cp_1 rfl HROW.out (by have := HX0.out; have := HLA.out; omega) ?_)
    intro u_1 w_1 hap
    have HO_1 : Hid (OwnRow byteK w_1 w.heap.size u_1 (X0 ++ encN x0)) := by show OwnRow _ _ _ _ _; first | exact hap.1 | (simp only [List.append_assoc]; exact hap.1)
    have HB_1 : Hid (Below w.heap.size w w_1) := appended_below hap HOY.out HBB.out (Nat.le_refl _) HBB.out.size
    have HP_1 : Hid (DBox w_1 P ⟨x0, x1, x2⟩) := HPY.out.grown hap.2.1 fun e => HPN.out P e rfl
    have HPN_1 : Hid (∀ q, u_1.ownBlock = some q → q ≠ P) := fun q hq e => by
     rcases hap.2.2.2 q hq with h1 | h1
     · exact HPN.out q h1 e
     · have := HPY.out.lt; omega
    have HL_1 := HLA
    clear hap HROW HBY HOY HBB HPY HLA
    have r1 := HP_1.out.c1
    go_wp2_with fail
    refine (put_any w_1 none 0 0 [] x1 ⟨Byt.nil w_1, fun _ => rfl⟩ (by omega) HI1.out.1 HI1.out.2).mono ?_
    rintro e y_2 ⟨g_2, cp_2, rfl, hown, hb2⟩
    rw [List.nil_append] at hown ⊢
    obtain ⟨la_2, hla⟩ : ∃ la, (encN x1).length = la := ⟨_, rfl⟩
    have hl10 := (ac_encL HI1.out).1
    have HROW : Hid (RowAt byteK y_2 (some ⟨g_2, 0, none⟩) la_2 cp_2 (encN x1)) := by
     have h1 : OwnRow byteK y_2 (World.heap w_1).size (.slice (some ⟨g_2, 0, none⟩) (encN x1).length cp_2) (encN x1) := own_bytes.2 hown
     obtain ⟨ad2, cap2, e, hr, _⟩ := OwnRow.row byteK_ok h1 hla
     rw [hla] at e
     cases e
     exact hr
    rw [hla]
    have HBY := Lib.hid hb2
    rw [hla] at hl10
    have HLA := Lib.hid hl10
    have HOY := Lib.hid (HO_1.out.on hb2)
    have HBB := Lib.hid (HB_1.out.trans (hb2.mono HB_1.out.size))
    have HPY := Lib.hid (HP_1.out.on hb2)
    clear hown hb2 hla hl10 r1
    go_wp2_with (at_builtin; refine list_row (by rfl) byteK_ok (.tmp 26) (.tmp 29) rfl w.heap.size (X0 ++ encN x0) (encN x1) u_1 rfl HOY.out HBB.out.size (some ⟨g_2, 0, none⟩) la_2 cp_2 rfl HROW.out (by have := HX0.out; have := HLA.out; have := (ac_encL HI0.out).1; simp only [List.length_append]; omega) ?_)
    intro u_2 w_2 hap
    have HO_2 : Hid (OwnRow byteK w_2 w.heap.size u_2 (X0 ++ encN x0 ++ encN x1)) := by show OwnRow _ _ _ _ _; first | exact hap.1 | (simp only [List.append_assoc]; exact hap.1)
    have HB_2 : Hid (Below w.heap.size w w_2) := appended_below hap HOY.out HBB.out (Nat.le_refl _) HBB.out.size
    have HP_2 : Hid (DBox w_2 P ⟨x0, x1, x2⟩) := HPY.out.grown hap.2.1 fun e => HPN_1.out P e rfl
    have HPN_2 : Hid (∀ q, u_2.ownBlock = some q → q ≠ P) := fun q hq e => by
     rcases hap.2.2.2 q hq with h1 | h1
     · exact HPN_1.out q h1 e
     · have := HPY.out.lt; omega
    have HL_2 := HLA
    clear hap HROW HBY HOY HBB HPY HLA
    have r2 := HP_2.out.c2
    go_wp2_with fail
    refine (put_any w_2 none 0 0 [] x2 ⟨Byt.nil w_2, fun _ => rfl⟩ (by omega) HI2.out.1 HI2.out.2).mono ?_
    rintro e y_3 ⟨g_3, cp_3, rfl, hown, hb2⟩
    rw [List.nil_append] at hown ⊢
    obtain ⟨la_3, hla⟩ : ∃ la, (encN x2).length = la := ⟨_, rfl⟩
    have hl10 := (ac_encL HI2.out).1
    have HROW : Hid (RowAt byteK y_3 (some ⟨g_3, 0, none⟩) la_3 cp_3 (encN x2)) := by
     have h1 : OwnRow byteK y_3 (World.heap w_2).size (.slice (some ⟨g_3, 0, none⟩) (encN x2).length cp_3) (encN x2) := own_bytes.2 hown
     obtain ⟨ad2, cap2, e, hr, _⟩ := OwnRow.row byteK_ok h1 hla
     rw [hla] at e
     cases e
     exact hr
    rw [hla]
    have HBY := Lib.hid hb2
    rw [hla] at hl10
    have HLA := Lib.hid hl10
    have HOY := Lib.hid (HO_2.out.on hb2)
    have HBB := Lib.hid (HB_2.out.trans (hb2.mono HB_2.out.size))
    have HPY := Lib.hid (HP_2.out.on hb2)
    clear hown hb2 hla hl10 r2
    go_wp2_with (at_builtin; refine list_row (by rfl) byteK_ok (.tmp 31) (.tmp 34) rfl w.heap.size (X0 ++ encN x0 ++ encN x1) (encN x2) u_2 rfl HOY.out HBB.out.size (some ⟨g_3, 0, none⟩) la_3 cp_3 rfl HROW.out (by have := HX0.out; have := HLA.out; have := (ac_encL HI0.out).1; have := (ac_encL HI1.out).1; simp only [List.length_append]; omega) ?_)
    intro u_3 w_3 hap
    have HO_3 : Hid (OwnRow byteK w_3 w.heap.size u_3 (X0 ++ encN x0 ++ encN x1 ++ encN x2)) := by show OwnRow _ _ _ _ _; first | exact hap.1 | (simp only [List.append_assoc]; exact hap.1)
    have HB_3 : Hid (Below w.heap.size w w_3) := appended_below hap HOY.out HBB.out (Nat.le_refl _) HBB.out.size
    have HP_3 : Hid (DBox w_3 P ⟨x0, x1, x2⟩) := HPY.out.grown hap.2.1 fun e => HPN_2.out P e rfl
    have HPN_3 : Hid (∀ q, u_3.ownBlock = some q → q ≠ P) := fun q hq e => by
     rcases hap.2.2.2 q hq with h1 | h1
     · exact HPN_2.out q h1 e
     · have := HPY.out.lt; omega
    have HL_3 := HLA
    clear hap HROW HBY HOY HBB HPY HLA
    have HFIN3 : Hid (OwnRow byteK w_3 w.heap.size u_3 (E0 ++ drsS (l.take (j + 1)))) := by show OwnRow _ _ _ _ _; rw [HXE.out]; exact HO_3.out
    go_wp2_with fail
    go_roundw
    case rel => exact ⟨j + 1, u_3, rfl, rfl, by omega, HFIN3.out, HB_3.out⟩
    case measure => simp [intOf]; omega
  · have hd : decide (j < n) = false := decide_eq_false hlt
    have hjn : j = n := by omega
    have HFIN : Hid (OwnRow byteK wo w.heap.size u (bodyA l)) := by
     have h1 := HO.out
     rw [hjn, List.take_of_length_le (by rw [HNL.out]; exact Nat.le_refl _), HE0.out] at h1
     show OwnRow _ _ _ _ (encN (l.length : Int) ++ drsS l)
     rw [HNL.out]
     exact h1
    have hAll : CrcMath.AllB (bodyA l) := bodyA_all HIN.out (by rw [HNL.out]; omega)
    have hbl : (bodyA l).length ≤ 150010 := by
     have h1 := HEL.out
     have h2 := HTK.out n
     rw [List.take_of_length_le (by rw [HNL.out]; exact Nat.le_refl _)] at h2
     rw [show bodyA l = encN (l.length : Int) ++ drsS l from rfl, HNL.out, ← HE0.out, List.length_append]
     omega
    obtain ⟨L, hLe⟩ : ∃ L, (bodyA l).length = L := ⟨_, rfl⟩
    obtain ⟨ad9, cap9, rfl, hrow9⟩ := ac_own_byt HFIN.out hAll hLe
    rw [hLe] at hbl
    have HROW9 := Lib.hid hrow9
    have HLE := Lib.hid hLe
    clear hjn hAll hLe hrow9 HFIN HO
    go_wp2_with fail
    refine (crcPut_any wo ad9 L cap9 (bodyA l) HROW9.out (by omega)).mono ?_
    rintro e w9 ⟨g9, rfl, hg9, hown9, hb9⟩
    have HS9 : Hid ((bytesA l).length = L + 4) := by
     show _ = _
     unfold bytesA
     rw [CrcMath.length_sealB, HLE.out]
    have HG9 : Hid (w.heap.size ≤ g9) := Nat.le_trans HB.out.size hg9
    have HOW9 : Hid (Own w9 g9 (bytesA l)) := hown9
    have HBZ := Lib.hid (HB.out.trans (hb9.mono HB.out.size))
    clear hg9 hown9 hb9
    go_wp2_with fail
    go_ret
    exact ⟨.slice (some ⟨g9, 0, none⟩) (L + 4) (L + 4), rfl, g9, L + 4, by rw [HS9.out], by rw [HS9.out]; exact Nat.le_refl _, HG9.out, HOW9.out.pre, HBZ.out⟩
end Go.Proofs.Ytbejincejbnbaaa
namespace Go.SnapMath
open Go.ProdMath
open Go.BatMath (In64)
open Go.VarMath (encN encU getB getB_encN getB_bounds getB_none getB_some scan val two64 zig_zag AllB)
set_option linter.unusedVariables false

theorem scan_split : ∀ (f : Nat) (bs l : List Nat), scan f bs = some l → ∃ r, bs = l ++ r
 | 0, bs, l, h => by cases h
 | f + 1, [], l, h => by cases h
 | f + 1, b :: r, l, h => by
   unfold scan at h
   split at h
   · cases h; exact ⟨r, rfl⟩
   · cases hs : scan f r with
     | none => rw [hs] at h; cases h
     | some l2 =>
       rw [hs] at h
       obtain ⟨r2, e⟩ := scan_split f r l2 hs
       cases h
       exact ⟨r2, by rw [e]; rfl⟩
theorem getB_is {bs : List Nat} {n : Int} {j : Nat} (h : getB bs = (n, j)) (hj : j ≠ 0) : bs = encN n ++ bs.drop j ∧ In64 n := by
 have hb := getB_bounds bs
 rw [h] at hb
 refine ⟨?_, hb.2.2.1, hb.2.2.2⟩
 cases hs : scan 10 bs with
 | none => rw [getB_none hs] at h; cases h; exact absurd rfl hj
 | some l =>
   rw [getB_some hs] at h
   split at h
   · rename_i hc
     obtain ⟨r, e⟩ := scan_split 10 bs l hs
     obtain ⟨h1, h2⟩ := Prod.mk.inj h
     have he : encN n = l := by rw [← h1]; show encU (VarMath.zig _) = l; rw [zig_zag]; exact hc
     rw [he, e, ← h2, List.drop_left]
   · cases h; exact absurd rfl hj
end Go.SnapMath
namespace Go.AbMath
open Go.ProdMath
open Go.SnapMath
open Go.BatMath (In64)
open Go.VarMath (encN getB getB_encN getB_bounds AllB)
set_option linter.unusedVariables false

def ensN : List Int → List Nat
 | [] => []
 | n :: l => encN n ++ ensN l
def AllI (l : List Int) : Prop := ∀ n ∈ l, In64 n
theorem ensN_app : ∀ (a b : List Int), ensN (a ++ b) = ensN a ++ ensN b
 | [], b => rfl
 | n :: a, b => by
   show encN n ++ ensN (a ++ b) = encN n ++ ensN a ++ ensN b
   rw [ensN_app a b, List.append_assoc]
theorem ensN_one (n : Int) : ensN [n] = encN n := List.append_nil _
theorem ensN_len : ∀ {l : List Int} (h : AllI l), l.length ≤ (ensN l).length
 | [], _ => Nat.le_refl _
 | n :: l, h => by
   have h1 := (encN_len (h n (by simp))).1
   have h2 := ensN_len (l := l) fun y hy => h y (by simp [hy])
   show l.length + 1 ≤ (encN n ++ ensN l).length
   rw [List.length_append]
   omega
/-- What begins with these numbers is these numbers, and more. -/
theorem ensN_strip : ∀ (a l : List Int) (r : List Nat), AllI a → AllI l → ensN a ++ r = ensN l → ∃ l', l = a ++ l' ∧ r = ensN l'
 | [], l, r, _, _, e => ⟨l, rfl, e⟩
 | n :: a, [], r, ha, _, e => by
   have h1 := (encN_len (ha n (by simp))).1
   have h2 := congrArg List.length e
   rw [show ensN (n :: a) = encN n ++ ensN a from rfl] at h2
   simp only [List.length_append, ensN, List.length_nil] at h2
   omega
 | n :: a, m :: l, r, ha, hl, e => by
   have hn := ha n (by simp)
   have hm := hl m (by simp)
   have e1 : encN n ++ (ensN a ++ r) = encN m ++ ensN l := by rw [← List.append_assoc]; exact e
   have g1 := getB_encN hn.1 hn.2 (ensN a ++ r)
   have g2 := getB_encN hm.1 hm.2 (ensN l)
   rw [e1, g2] at g1
   have e2 : m = n := (Prod.mk.inj g1).1
   subst e2
   obtain ⟨l', h1, h2⟩ := ensN_strip a l r (fun q hq => ha q (by simp [hq])) (fun q hq => hl q (by simp [hq])) (List.append_cancel_left e1)
   exact ⟨l', by rw [h1]; rfl, h2⟩
/-- A rest that does not begin with a number is no row of numbers. -/
theorem ensN_none {a : List Int} {r b : List Nat} (ha : AllI a) (hb : b = ensN a ++ r) (hr : r ≠ []) (hg : (getB r).2 = 0) : ∀ l, AllI l → b ≠ ensN l := by
 intro l hl e
 obtain ⟨l', h1, h2⟩ := ensN_strip a l r ha hl (hb.symm.trans e)
 cases l' with
 | nil => exact hr h2
 | cons m l' =>
   have hm : In64 m := hl m (by rw [h1]; simp)
   rw [h2] at hg
   have g := getB_encN hm.1 hm.2 (ensN l')
   have h3 := (encN_len hm).1
   rw [show ensN (m :: l') = encN m ++ ensN l' from rfl, g] at hg
   simp only at hg
   omega
theorem ensN_inj {a l : List Int} (ha : AllI a) (hl : AllI l) (e : ensN a = ensN l) : a = l := by
 obtain ⟨l', h1, h2⟩ := ensN_strip a l [] ha hl (by rw [List.append_nil]; exact e)
 cases l' with
 | nil => rw [h1, List.append_nil]
 | cons m l' =>
   have hm : In64 m := hl m (by rw [h1]; simp)
   have h3 := (encN_len hm).1
   have h4 := congrArg List.length h2
   rw [show ensN (m :: l') = encN m ++ ensN l' from rfl, List.length_append] at h4
   simp only [List.length_nil] at h4
   omega
/-! threes -/
def flatD : List Dr → List Int
 | [] => []
 | d :: l => d.prod :: d.first :: d.last :: flatD l
def dsOf : List Int → List Dr
 | a :: b :: c :: l => ⟨a, b, c⟩ :: dsOf l
 | _ => []
theorem flat_len : ∀ l : List Dr, (flatD l).length = 3 * l.length
 | [] => rfl
 | d :: l => by
   show (flatD l).length + 1 + 1 + 1 = 3 * (l.length + 1)
   rw [flat_len l]; omega
theorem dsOf_flat : ∀ l : List Dr, dsOf (flatD l) = l
 | [] => rfl
 | d :: l => by
   show (⟨d.prod, d.first, d.last⟩ : Dr) :: dsOf (flatD l) = _
   rw [dsOf_flat l]
theorem flat_dsOf : ∀ (n : Nat) (t : List Int), t.length = 3 * n → flatD (dsOf t) = t ∧ (dsOf t).length = n
 | 0, [], _ => ⟨rfl, rfl⟩
 | 0, _ :: _, h => by simp at h
 | n + 1, [], h => by simp at h
 | n + 1, [_], h => by simp at h; omega
 | n + 1, [_, _], h => by simp at h; omega
 | n + 1, a :: b :: c :: t, h => by
   have h1 := flat_dsOf n t (by simp only [List.length_cons] at h; omega)
   refine ⟨?_, ?_⟩
   · show a :: b :: c :: flatD (dsOf t) = _
     rw [h1.1]
   · show (dsOf t).length + 1 = _
     rw [h1.2]
theorem flat_get : ∀ (l : List Dr) (j : Nat) (d : Dr), l[j]? = some d → (flatD l)[3 * j]? = some d.prod ∧ (flatD l)[3 * j + 1]? = some d.first ∧ (flatD l)[3 * j + 2]? = some d.last
 | [], j, d, h => by cases h
 | x :: l, 0, d, h => by
   cases h
   exact ⟨rfl, rfl, rfl⟩
 | x :: l, j + 1, d, h => by
   have h1 := flat_get l j d h
   rw [show 3 * (j + 1) = 3 * j + 1 + 1 + 1 by omega]
   exact h1
theorem flat_all : ∀ {l : List Dr} (h : ∀ d ∈ l, DrIn d), AllI (flatD l)
 | [], _, n, hn => by cases hn
 | d :: l, h, n, hn => by
   have h1 := h d (by simp)
   rcases List.mem_cons.1 hn with rfl | hn
   · exact h1.1
   · rcases List.mem_cons.1 hn with rfl | hn
     · exact h1.2.1
     · rcases List.mem_cons.1 hn with rfl | hn
       · exact h1.2.2
       · exact flat_all (fun q hq => h q (by simp [hq])) n hn
theorem ens_flat : ∀ l : List Dr, ensN (flatD l) = drsS l
 | [] => rfl
 | d :: l => by
   show encN d.prod ++ (encN d.first ++ (encN d.last ++ ensN (flatD l))) = drS d ++ drsS l
   rw [ens_flat l]
   unfold drS
   simp only [List.append_assoc]
theorem body_ens (l : List Dr) : bodyA l = ensN ((l.length : Int) :: flatD l) := by
 show _ = encN _ ++ ensN (flatD l)
 rw [ens_flat]
 rfl
/-- A list's bytes, as the numbers in them. -/
theorem IsAb.nums {bs : List Nat} {l : List Dr} (h : IsAb bs l) (hL : bs.length ≤ 1048600) : CrcMath.okB bs = true ∧ bs.drop 4 = ensN ((l.length : Int) :: flatD l) ∧ AllI ((l.length : Int) :: flatD l) ∧ DrsOk l := by
 have hf := h.few
 obtain ⟨ha, hi, e⟩ := h
 have hin := ha.isIn hi
 refine ⟨?_, ?_, ?_, ha⟩
 · rw [e]
   exact CrcMath.okB_seal (bodyA_all hin (by omega))
 · rw [e]
   unfold bytesA
   rw [CrcMath.drop_sealB, body_ens]
 · intro n hn
   rcases List.mem_cons.1 hn with rfl | hn
   · exact in_nat (by omega)
   · exact flat_all hin n hn
theorem nums_no {bs : List Nat} {l0 : List Int} (hL : bs.length ≤ 1048600) (e : bs.drop 4 = ensN l0) (hi : AllI l0) {l : List Dr} (h : IsAb bs l) : l0 = (l.length : Int) :: flatD l := by
 obtain ⟨_, h2, h3, _⟩ := h.nums hL
 exact ensN_inj hi h3 (e.symm.trans h2)
theorem nums_is {bs : List Nat} {l0 : List Int} {l : List Dr} (hb : AllB bs) (hok : CrcMath.okB bs = true) (e : bs.drop 4 = ensN l0) (h0 : l0 = (l.length : Int) :: flatD l) (ha : DrsOk l) (hi : AllI l0) : IsAb bs l := by
 refine ⟨ha, fun d hd => ?_, ?_⟩
 · obtain ⟨j, hj⟩ := List.getElem?_of_mem hd
   have h1 := (flat_get l j d hj).1
   exact hi _ (by rw [h0]; exact List.mem_cons_of_mem _ (List.mem_of_getElem? h1))
 · have h4 : 4 ≤ bs.length := by
    rcases Nat.lt_or_ge bs.length 4 with h | h
    · rw [CrcMath.okB_short h] at hok; cases hok
    · exact h
   rw [← (CrcMath.sealB_drop h4 hb).2 hok, e, h0, ← body_ens]
   rfl
end Go.AbMath
namespace Go.Proofs.Ytbejincejbnbaaa
open Go.RowKit
open Go.AbMath
open Go.ProdMath
open Go.VarMath (encN getB getB_bounds)
open Go.BatMath hiding AllB getD_lt take_all
set_option linter.unusedVariables false

theorem infoNm : (Try.prog.info? 2).map (fun i => (i.zero, i.size, i.bytes)) = some (some (.int .i64 0), 1, 8) := by kernel_rfl
def nmK : Kind Int := ⟨fun n => [.int .i64 n], 1, 2, 43⟩
theorem nmK_ok : nmK.Ok 8 where
 und := Try.underlying43
 info := by
  obtain ⟨i, hi, hz, hs, hb⟩ := info_parts infoNm
  exact ⟨i, _, hi, hz, hs, hb, rfl⟩
 len := fun _ => rfl
 pos := by decide
 one := fun r u hu => by
  simp only [nmK, List.mem_cons, List.not_mem_nil, or_false] at hu
  rcases hu with rfl <;> rfl
 few := by decide
def nmLen : Value → Nat
 | .slice _ n _ => n
 | _ => 0
theorem nm_cut {w : World} {ad : Option Addr} {len cap : Nat} {bs : List Nat} (h : Byt w ad len cap bs) (h0 : 0 < len) (k : Nat) (hk : k ≤ len) :
 ∃ ad' cap', (∀ V, (Instr.slice 38 (.slice ad len cap) (some (.int .i64 (k : Int))) none none).run Try.prog V = .ok (.slice ad' (len - k) cap') V) ∧ Byt w ad' (len - k) cap' (bs.drop k) := by
 have hne : ad ≠ none := by
  rcases h.cells with h1 | ⟨b, off, e, _⟩
  · omega
  · rw [e]; intro h2; cases h2
 obtain ⟨ad', cap', h1, h2, _⟩ := row_from byteK_ok (row_bytes ⟨h, fun e => absurd e hne⟩) k hk
 exact ⟨ad', cap', h1, byt_of h2 fun x hx => h.all x (List.mem_of_mem_drop hx)⟩
def GivesNumbers (w : World) (b : List Nat) (e : Ending) (w' : World) : Prop :=
 Hid (Below w.heap.size w w') ∧ ((∃ ad len cap l, e = .returned (.tuple #[.slice ad len cap, .bool true]) ∧ Hid (RowAt nmK w' ad len cap l) ∧ Hid (b = ensN l) ∧ Hid (AllI l)) ∨ (e = .returned (.tuple #[.slice none 0 0, .bool false]) ∧ Hid (∀ l, AllI l → b ≠ ensN l)))
set_option maxRecDepth 100000 in
set_option maxHeartbeats 8000000 in
theorem acNums_any (w : World) (ad : Option Addr) (len cap : Nat) (b : List Nat) (h : Byt w ad len cap b) (hL : len ≤ 1048600) :
 Calls Try.prog 42 #[.slice ad len cap] w (GivesNumbers w b) := by
 have H := Lib.hid h
 have HL := Lib.hid hL
 have HBL : Hid (b.length ≤ 1048600) := by show _ ≤ _; rw [h.length]; exact hL
 clear h hL
 go_enter Try.func42, Try.ntmps42
 go_wp2_with fail
 go_loopw [0, 4] (fun v0 v4 wr => ∃ (ad1 : Option Addr) (n c : Nat) (acc : List Int) (rest : List Nat) (u : Value), v0 = .slice ad1 n c ∧ u = v4 ∧ Hid (n ≤ 1048600) ∧ Hid (Byt w ad1 n c rest) ∧ Hid (b = ensN acc ++ rest) ∧ Hid (AllI acc) ∧ Hid (OwnRow nmK wr w.heap.size u acc) ∧ Hid (Below w.heap.size w wr)) (fun v0 _ _ => nmLen v0)
 case atStart => exact ⟨ad, len, cap, [], b, _, rfl, rfl, HL.out, H.out, rfl, (fun n hn => by cases hn), ownRow_nil _ _ _, Below.refl _ _⟩
 case round =>
  obtain ⟨ad1, n, c, acc, rest, u, rfl, rfl, HNL, HY, HE, HI, HO, HB⟩ := hrel
  clear H
  obtain ⟨wo, hwo⟩ : ∃ wo : World, wo = wr := ⟨_, rfl⟩
  subst hwo
  by_cases hlt : 0 < n
  · have hd : decide (0 < n) = true := decide_eq_true hlt
    have hdi : decide ((0 : Int) < (n : Int)) = true := decide_eq_true (by omega)
    have HN0 : Hid (0 < n) := hlt
    clear hlt
    go_wp2_with fail
    refine (get_any wo ad1 n c rest (HY.out.keep HB.out (Nat.le_refl _)) (Nat.le_trans HNL.out (by omega))).mono ?_
    rintro e w2 ⟨rfl, rfl⟩
    obtain ⟨⟨x, kk⟩, hg⟩ : ∃ r, getB rest = r := ⟨_, rfl⟩
    have hgb := getB_bounds rest
    rw [hg] at hgb
    rw [hg]
    simp only at hgb ⊢
    have HG := Lib.hid hg
    have HKN : Hid (kk ≤ n) := by have := HY.out.length; show _ ≤ _; omega
    have HXI : Hid (In64 x) := ⟨hgb.2.2.1, hgb.2.2.2⟩
    clear hg hgb
    by_cases h0 : kk = 0
    · have hz : ((kk : Int) == 0) = true := by rw [h0]; rfl
      have HNO : Hid (∀ l, AllI l → b ≠ ensN l) := ensN_none HI.out HE.out (fun e => by have h1 := HY.out.length; rw [e] at h1; have := HN0.out; simp at h1; omega) (by rw [HG.out]; exact h0)
      clear h0
      go_wp2_with fail
      go_ret2
      exact ⟨HB.out, .inr ⟨rfl, HNO.out⟩⟩
    · have hz : ((kk : Int) == 0) = false := beq_false_of_ne (by omega)
      obtain ⟨ad2, c2, hcut, hy2⟩ := nm_cut HY.out HN0.out kk HKN.out
      have HY2 := Lib.hid hy2
      have HE2 : Hid (b = ensN (acc ++ [x]) ++ rest.drop kk) := by
       show _ = _
       rw [ensN_app, ensN_one, List.append_assoc, ← (SnapMath.getB_is HG.out h0).1]
       exact HE.out
      have HI2 : Hid (AllI (acc ++ [x])) := fun q hq => by
       rcases List.mem_append.1 hq with hq | hq
       · exact HI.out q hq
       · rw [List.mem_singleton.1 hq]; exact HXI.out
      have HKP : Hid (0 < kk) := Nat.pos_of_ne_zero h0
      have HAL : Hid (acc.length ≤ 1048600) := by
       have h1 := ensN_len HI.out
       have h2 := congrArg List.length HE.out
       rw [List.length_append] at h2
       have h4 := HBL.out
       show _ ≤ _
       omega
      clear h0 hy2 HG
      go_upto_region 6 with fail
      have hdr : Below wo.heap.size wo wo.drew := (Below.refl _ wo).drew
      refine wp_region_noPanic ?_
      refine wp_region_z [] (fun (V : World) => True) (by kernel_rfl) ?_
      have hHeld : (fun (V : World) => True) wo.drew := trivial
      obtain ⟨u0, hu0⟩ : ∃ u, u = wo.drew := ⟨_, rfl⟩
      rw [← hu0] at hHeld hdr
      rw [← hu0]
      clear hu0
      have HQ0 := Lib.hid hdr
      clear hdr
      refine zt 0 ?_
      refine zt 1 ?_
      refine zt 4 ?_
      refine zt 5 ?_
      refine zt 6 ?_
      refine zr 2 (fun C hC => ?_)
      go_simp
      obtain ⟨u1, hu1⟩ : ∃ u, u = u0.alloc (.cells #[.int .i64 x] 2) := ⟨_, rfl⟩
      obtain ⟨g1, hg1⟩ : ∃ G, G = u0.heap.size := ⟨_, rfl⟩
      have hbb : Below u0.heap.size u0 u1 := by rw [hu1]; exact (Below.refl _ _).alloc (Nat.le_refl _) _
      have HQ1 : Hid (Below wo.heap.size wo u1) := HQ0.out.trans (hbb.mono HQ0.out.size)
      have HRX : Hid (RowAt nmK u1 (some ⟨g1, 0, none⟩) 1 1 [x]) := by show RowAt _ _ _ _ _ _; rw [hu1, hg1]; exact rowAt_lit nmK_ok u0 [x] (by simp) _ rfl 1 rfl
      rw [← hu1, ← hg1]
      clear hu1 hg1 hbb
      have hHeld : (fun (V : World) => True) u1 := trivial
      refine zc hC hHeld ?_
      clear hC C
      have HOU := Lib.hid (HO.out.on HQ1.out)
      refine zr 3 (fun C hC => ?_)
      refine held_row (by rfl) nmK_ok (.tmp 17) (.tmp 19) rfl w.heap.size acc [x] u rfl HOU.out (Nat.le_trans HB.out.size HQ1.out.size) (some ⟨g1, 0, none⟩) 1 1 rfl HRX.out (by have := HAL.out; omega) ?_
      rintro v6 u2 hap
      have HO6 : Hid (OwnRow nmK u2 w.heap.size v6 (acc ++ [x])) := hap.1
      have HB6 : Hid (Below w.heap.size w u2) := appended_below hap HOU.out (HB.out.trans (HQ1.out.mono HB.out.size)) (Nat.le_refl _) (Nat.le_trans HB.out.size HQ1.out.size)
      clear hap
      have hHeld : (fun (V : World) => True) u2 := trivial
      refine zc hC hHeld ?_
      clear hC C
      refine zt 7 ?_
      refine zt 8 ?_
      refine wpAnyZ_done (by kernel_rfl) ?_ _
      refine NoPanic.normal ?_
      clear hHeld hcut HOU HRX
      go_wp2_with fail
      go_roundw
      case rel => exact ⟨ad2, n - kk, c2, acc ++ [x], rest.drop kk, v6, rfl, rfl, by have := HNL.out; show _ ≤ _; omega, HY2.out, HE2.out, HI2.out, HO6.out, HB6.out⟩
      case measure => have := HKP.out; have := HN0.out; simp only [nmLen]; omega
  · have hd : decide (0 < n) = false := decide_eq_false hlt
    have hdi : decide ((0 : Int) < (n : Int)) = false := decide_eq_false (by omega)
    have HE3 : Hid (b = ensN acc) := by
     have h1 := HY.out.length
     have h2 : rest = [] := List.eq_nil_of_length_eq_zero (by omega)
     have h3 := HE.out
     rw [h2, List.append_nil] at h3
     exact h3
    obtain ⟨ad9, cap9, rfl, hr9, _⟩ := OwnRow.row nmK_ok HO.out rfl
    have HR9 := Lib.hid hr9
    clear hr9
    go_wp2_with fail
    go_ret2
    exact ⟨HB.out, .inl ⟨_, _, _, acc, rfl, HR9.out, HE3.out, HI.out⟩⟩
end Go.Proofs.Ytbejincejbnbaaa
namespace Go.Proofs.Ytbejincejbnbaaa
open Go.RowKit
open Go.AbMath
open Go.ProdMath
open Go.SnapMath (openS)
open Go.BatMath hiding AllB getD_lt take_all
set_option linter.unusedVariables false

/-- crc.Check in one piece. -/
theorem acCheck_any (w : World) (ad : Option Addr) (len cap : Nat) (bs : List Nat) (h : Byt w ad len cap bs) (hL : len ≤ 140737488355328) :
 Calls Try.prog 41 #[.slice ad len cap] w (GivesUns w bs) := by
 have hall := h.all
 refine (check_any w ad len cap bs h hL).mono ?_
 rintro e w' ⟨h1, h2⟩
 cases hk : CrcMath.okB bs with
 | false =>
   obtain ⟨rfl, hb⟩ := h1 hk
   have ho : openS bs = ([], true) := by unfold openS; rw [hk]; rfl
   unfold GivesUns
   rw [ho]
   exact ⟨none, 0, 0, rfl, Byt.nil _, hb⟩
 | true =>
   obtain ⟨g, m, hm, rfl, hg, hown, hb⟩ := h2 hk
   have ho : openS bs = (bs.drop 4, false) := by unfold openS; rw [hk]; rfl
   have hm2 : (bs.drop 4).length = m := by rw [List.length_drop, h.length]; omega
   have h9 := hown.byt (fun x hx => hall x (List.mem_of_mem_drop hx)) m (by omega)
   rw [hm2] at h9
   unfold GivesUns
   rw [ho]
   exact ⟨_, _, _, rfl, h9, hb⟩
theorem ac_ok0 {bs : List Nat} (h : (openS bs).2 = false) : CrcMath.okB bs = true ∧ (openS bs).1 = bs.drop 4 := by
 unfold openS at *
 cases hk : CrcMath.okB bs with
 | true => exact ⟨rfl, rfl⟩
 | false => rw [hk] at h; cases h
theorem ac_ok1 {bs : List Nat} (h : (openS bs).2 = true) : CrcMath.okB bs = false := by
 unfold openS at h
 cases hk : CrcMath.okB bs with
 | true => rw [hk] at h; cases h
 | false => rfl
/-- What stands in a list may be added where it stands. -/
theorem drs_okD {D : List Dr} (h : DrsOk D) {j : Nat} {d : Dr} (hd : D[j]? = some d) : okD (lastD (D.take j)) d ∧ DrsOk (D.take j) := by
 have e : D.take j ++ d :: D.drop (j + 1) = D := by
  have h1 := List.take_append_drop j D
  have h2 : D.drop j = d :: D.drop (j + 1) := by
   obtain ⟨hj, e⟩ := List.getElem?_eq_some_iff.1 hd
   rw [List.drop_eq_getElem_cons hj, e]
  rw [h2] at h1
  exact h1
 have ha : DrsOk (D.take j) := ⟨fun x hx => h.each x (List.mem_of_mem_take hx), List.Pairwise.sublist (List.take_sublist _ _) h.asc⟩
 refine ⟨⟨h.each d (List.mem_of_getElem? hd), ?_⟩, ha⟩
 have h3 := h.each d (List.mem_of_getElem? hd)
 refine (lastD_lt ha (by unfold DrOk at h3; omega)).2 fun x hx => ?_
 have h4 := h.asc
 rw [← e] at h4
 exact (List.pairwise_append.1 h4).2.2 x hx d (by simp)
theorem drs_add {D : List Dr} {j : Nat} {d : Dr} (hd : D[j]? = some d) (hk : okD (lastD (D.take j)) d) (ha : DrsOk (D.take j)) : addD (D.take j) d = D.take (j + 1) ∧ DrsOk (D.take (j + 1)) := by
 have e : D.take (j + 1) = D.take j ++ [d] := by rw [List.take_add_one, hd]; rfl
 rw [e]
 unfold addD
 rw [if_pos hk]
 exact ⟨rfl, ha.snoc hk⟩
theorem nm_cell {w : World} {bk off n cap : Nat} {y : Int} {t : List Int} (h : RowAt nmK w (some ⟨bk, off, none⟩) n cap (y :: t)) (hn : 0 < n) {q : Nat} {x : Int} (hq : t[q]? = some x) (p : Nat) (hp : p = q + 1) : w.cell? ⟨bk, off + p, none⟩ = some (.int .i64 x) := by
 subst hp
 rcases h.cells with h1 | ⟨b2, o2, e2, _, h1⟩
 · omega
 · cases e2
   have h2 := h1 (q + 1) x (by rw [List.getElem?_cons_succ]; exact hq) 0 _ rfl
   rwa [show off + ((q + 1) * nmK.size + 0) = off + (q + 1) by show off + ((q + 1) * 1 + 0) = _; omega] at h2
set_option maxRecDepth 100000 in
set_option maxHeartbeats 8000000 in
theorem acRead_any (w : World) (ad : Option Addr) (len cap : Nat) (bs : List Nat) (h : Byt w ad len cap bs) (hL : bs.length ≤ 1048600) :
 Calls Try.prog 21 #[.slice ad len cap] w (AbReads2 AcR w bs) := by
 have H := Lib.hid h
 have HALL := Lib.hid h.all
 have hlen := h.length
 have HLL : Hid (len ≤ 140737488355328) := by show _ ≤ _; omega
 have HL := Lib.hid hL
 clear h hL hlen
 go_enter Try.func21, Try.ntmps21
 go_wp2_with fail
 refine (acCheck_any w ad len cap bs H.out HLL.out).mono ?_
 rintro e w1 ⟨ad1, len1, cap1, rfl, hy1, hb1⟩
 have HY1 := Lib.hid hy1
 have HB1 := Lib.hid hb1
 clear hy1 hb1
 obtain ⟨q, hq⟩ : ∃ q, (openS bs).2 = q := ⟨_, rfl⟩
 rw [hq]
 cases q with
 | true =>
   have HNO : Hid (∀ l, ¬ IsAb bs l) := fun l hl => by have h1 := (hl.nums HL.out).1; rw [ac_ok1 hq] at h1; cases h1
   clear hq
   go_wp2_with fail
   go_ret2
   exact ⟨HB1.out, .inr ⟨rfl, HNO.out⟩⟩
 | false =>
   obtain ⟨hok, hdr⟩ := ac_ok0 hq
   rw [hdr] at HY1
   have HOK := Lib.hid hok
   have HLEN1 : Hid (len1 ≤ 1048600) := by have h1 := HY1.out.length; have h2 := HL.out; rw [List.length_drop] at h1; show _ ≤ _; omega
   clear hq hok hdr
   go_wp2_with fail
   refine (acNums_any w1 ad1 len1 cap1 _ HY1.out HLEN1.out).mono ?_
   rintro e w2 ⟨HB2, ⟨ad2, n, cap2, l0, rfl, HR, HE, HI⟩ | ⟨rfl, HN⟩⟩
   rotate_left
   · have HNO : Hid (∀ l, ¬ IsAb bs l) := fun l hl => by obtain ⟨_, h2, h3, _⟩ := hl.nums HL.out; exact HN.out _ h3 h2
     have HB3 := Lib.hid (HB1.out.trans (HB2.out.mono HB1.out.size))
     clear HN HB2
     go_wp2_with fail
     go_ret2
     exact ⟨HB3.out, .inr ⟨rfl, HNO.out⟩⟩
   have HB3 := Lib.hid (HB1.out.trans (HB2.out.mono HB1.out.size))
   have HNL := Lib.hid HR.out.length
   have HN6 : Hid (n ≤ 1048600) := by
    have h1 := ensN_len HI.out
    have h2 := congrArg List.length HE.out
    have h3 := HNL.out
    have h4 := HL.out
    rw [List.length_drop] at h2
    show _ ≤ _
    omega
   have HAN : Hid (∀ l, IsAb bs l → l0 = (l.length : Int) :: flatD l) := fun l hl => nums_no HL.out HE.out HI.out hl
   clear HB2 HY1 HB1
   obtain ⟨c, hc⟩ : ∃ c, n % 3 = c := ⟨_, rfl⟩
   obtain ⟨dd, hdd⟩ : ∃ d, n / 3 = d := ⟨_, rfl⟩
   have k1 : (n : Int) % 3 = (c : Int) := by omega
   have k2 : (n : Int).tmod 3 = (c : Int) := by rw [Int.tmod_eq_emod_of_nonneg (by omega)]; omega
   have k3 : (n : Int) / 3 = (dd : Int) := by omega
   have k4 : (n : Int).tdiv 3 = (dd : Int) := by rw [Int.tdiv_eq_ediv_of_nonneg (by omega)]; omega
   have k5 : wrap64 (dd : Int) = (dd : Int) := by have := HN6.out; unfold wrap64; omega
   have HC := Lib.hid hc
   have HDD := Lib.hid hdd
   clear hc hdd
   by_cases hc1 : c = 1
   rotate_left
   · have kc : ((c : Int) != 1) = true := by simp; omega
     have HNO : Hid (∀ l, ¬ IsAb bs l) := fun l hl => by
      have h1 := congrArg List.length (HAN.out l hl)
      rw [List.length_cons, flat_len, HNL.out] at h1
      have := HC.out
      omega
     clear hc1
     go_wp2_with fail
     go_ret2
     exact ⟨HB3.out, .inr ⟨rfl, HNO.out⟩⟩
   have kc : ((c : Int) != 1) = false := by rw [hc1]; rfl
   have HNM : Hid (n = 3 * dd + 1) := by have h1 := HC.out; have h2 := HDD.out; show n = _; omega
   clear hc1 HC HDD
   obtain ⟨bk, off, x0, rfl, hbk, hx0, hcell⟩ := HR.out.get (i := 0) (by have := HNM.out; omega)
   have c0 : w2.cell? ⟨bk, off, none⟩ = some (.int .i64 x0) := hcell 0 _ rfl
   have kn : (0 : Int) < (n : Int) := by have := HNM.out; omega
   have HX0 := Lib.hid hx0
   clear hcell hbk hx0
   by_cases hx : x0 = (dd : Int)
   rotate_left
   · have kx : (x0 != (dd : Int)) = true := by simpa using hx
     have HNO : Hid (∀ l, ¬ IsAb bs l) := fun l hl => by
      have h0 := HAN.out l hl
      have h1 := congrArg List.length h0
      rw [List.length_cons, flat_len, HNL.out] at h1
      have h2 := HX0.out
      rw [h0] at h2
      have h3 : (l.length : Int) = x0 := Option.some.inj h2
      have := HNM.out
      omega
     clear hx
     go_wp2_with fail
     go_ret2
     exact ⟨HB3.out, .inr ⟨rfl, HNO.out⟩⟩
   have kx : (x0 != (dd : Int)) = false := by rw [hx]; simp
   obtain ⟨D, hD⟩ : ∃ D, D = dsOf l0.tail := ⟨_, rfl⟩
   have HL0 : Hid (l0 = (dd : Int) :: flatD D ∧ D.length = dd) := by
    have h2 := HX0.out
    cases hl : l0 with
    | nil => rw [hl] at h2; cases h2
    | cons y t =>
      rw [hl] at h2
      have h3 : y = x0 := Option.some.inj h2
      have h4 := HNL.out
      rw [hl, List.length_cons] at h4
      have h5 := flat_dsOf dd t (by have := HNM.out; omega)
      have h6 : D = dsOf t := by rw [hD, hl]; rfl
      rw [h6, h5.1, h3, hx]
      exact ⟨rfl, h5.2⟩
   have HDA : Hid (∀ l, IsAb bs l → D = l) := fun l hl => by
    have h1 := HAN.out l hl
    rw [HL0.out.1] at h1
    rw [← dsOf_flat l, ← (List.cons.inj h1).2, dsOf_flat]
   clear hx hD HAN
   go_wp2_with fail
   refine (acNew_any w2).mono ?_
   rintro e w3 ⟨k, rfl, hat, hk, hb⟩
   have HR3 := Lib.hid (HR.out.keep hb)
   have HRB : Hid (bk < w3.heap.size) := HR3.out.lt (by have := HNM.out; omega) _ rfl
   have HF3 : Hid (∃ F, AcR F w3 ⟨k, 0, none⟩ (D.take 0) ∧ ∀ q, F q → w2.heap.size ≤ q) := ⟨AFoot k (.slice none 0 0), ⟨k, _, rfl, hat, fun j => Iff.rfl⟩, fun q hq => by
    rcases hq with rfl | h1
    · exact hk
    · cases h1⟩
   have HB4 := Lib.hid hb
   have HRB2 : Hid (bk < w2.heap.size) := HR.out.lt (by have := HNM.out; omega) _ rfl
   clear hat hk hb c0 k1 k2 k3 k4 k5 kc kx kn HX0
   have HDL : Hid (dd ≤ 1000000) := by have h1 := HNM.out; have h2 := HN6.out; show _ ≤ _; omega
   go_wp2_with fail
   go_loopw [8] (fun v8 wr => ∃ (j i : Nat) (F : Nat → Prop), v8 = .int .i64 (i : Int) ∧ Hid (i = 3 * j + 1 ∧ j ≤ dd) ∧ Hid (AcR F wr ⟨k, 0, none⟩ (D.take j)) ∧ Hid (∀ q, F q → w2.heap.size ≤ q) ∧ Hid (Below w2.heap.size w2 wr) ∧ Hid (DrsOk (D.take j))) (fun v8 _ => n - (intOf v8).toNat)
   case atStart =>
    obtain ⟨F, h1, h2⟩ := HF3.out
    exact ⟨0, 1, F, rfl, ⟨rfl, Nat.zero_le _⟩, h1, h2, HB4.out, DrsOk.nil⟩
   case round =>
    obtain ⟨j, i, F, rfl, HJ, HAR, HFF, HBB, HDO⟩ := hrel
    clear HF3 HB4 HR3 HRB
    obtain ⟨wo, hwo⟩ : ∃ wo : World, wo = wr := ⟨_, rfl⟩
    subst hwo
    by_cases hlt : j < dd
    · obtain ⟨d, hd⟩ : ∃ d, D[j]? = some d := ⟨_, List.getElem?_eq_getElem (by have := HL0.out.2; omega)⟩
      obtain ⟨i1, hi1⟩ : ∃ q, i + 1 = q := ⟨_, rfl⟩
      obtain ⟨i2, hi2⟩ : ∃ q, i + 2 = q := ⟨_, rfl⟩
      obtain ⟨i3, hi3⟩ : ∃ q, i + 3 = q := ⟨_, rfl⟩
      have hin : i3 ≤ n := by have := HJ.out; have := HNM.out; omega
      have HIN : Hid (n ≤ 1048600) := HN6.out
      have HJ1 : Hid (i3 = 3 * (j + 1) + 1 ∧ j + 1 ≤ dd) := by have := HJ.out; show _ ∧ _; omega
      have HME : Hid (n - i3 < n - i) := by show _ < _; omega
      have HDL2 : Hid ((D.take j).length ≤ 1000000) := by show _ ≤ _; have := HDL.out; rw [List.length_take]; omega
      have z0 : decide (i < n) = true := decide_eq_true (by omega)
      have z0i : decide ((i : Int) < (n : Int)) = true := decide_eq_true (by omega)
      have z1 : (i : Int) < (n : Int) := by omega
      have z2 : (i1 : Int) < (n : Int) := by omega
      have z3 : (i2 : Int) < (n : Int) := by omega
      have y1 : IntKind.i64.wrap ((i : Int) + 1) = (i1 : Int) := by have := HIN.out; rw [IntKind.wrap_i64]; omega
      have y2 : IntKind.i64.wrap ((i : Int) + 2) = (i2 : Int) := by have := HIN.out; rw [IntKind.wrap_i64]; omega
      have y3 : IntKind.i64.wrap ((i : Int) + 3) = (i3 : Int) := by have := HIN.out; rw [IntKind.wrap_i64]; omega
      have y4 : wrap64 ((i : Int) + 3) = (i3 : Int) := by have := HIN.out; unfold wrap64; omega
      have HG := flat_get D j d hd
      have HRL : Hid (RowAt nmK w2 (some ⟨bk, off, none⟩) n cap2 ((dd : Int) :: flatD D)) := by
       have h1 := HR.out
       rw [HL0.out.1] at h1
       exact h1
      have hn0 : 0 < n := by have := HNM.out; omega
      obtain ⟨x0, x1, x2⟩ := d
      simp only at HG
      have HCL : Hid (∀ V, Below w2.heap.size w2 V → V.cell? ⟨bk, off + i, none⟩ = some (.int .i64 x0) ∧ V.cell? ⟨bk, off + i1, none⟩ = some (.int .i64 x1) ∧ V.cell? ⟨bk, off + i2, none⟩ = some (.int .i64 x2)) := fun V hV => by
       have e := HJ.out.1
       have e1 : i = 3 * j + 1 := e
       have e2 : i1 = 3 * j + 1 + 1 := by rw [← hi1, e]
       have e3 : i2 = 3 * j + 2 + 1 := by rw [← hi2, e]
       exact ⟨nm_cell (HRL.out.keep hV) hn0 HG.1 i e1, nm_cell (HRL.out.keep hV) hn0 HG.2.1 i1 e2, nm_cell (HRL.out.keep hV) hn0 HG.2.2 i2 e3⟩
      have HDJ := Lib.hid hd
      clear hi1 hi2 hi3 hin HG hn0 HRL hlt hd
      go_upto_region 11 with fail
      have hdr : Below wo.heap.size wo wo.drew := (Below.refl _ wo).drew
      refine wp_region_noPanic ?_
      refine wp_region_z [] (fun (V : World) => V.cell? ⟨bk, off + i, none⟩ = some (.int .i64 x0) ∧ V.cell? ⟨bk, off + i1, none⟩ = some (.int .i64 x1) ∧ V.cell? ⟨bk, off + i2, none⟩ = some (.int .i64 x2)) (by kernel_rfl) ?_
      have hHeld : (fun (V : World) => V.cell? ⟨bk, off + i, none⟩ = some (.int .i64 x0) ∧ V.cell? ⟨bk, off + i1, none⟩ = some (.int .i64 x1) ∧ V.cell? ⟨bk, off + i2, none⟩ = some (.int .i64 x2)) _ := HCL.out _ (HBB.out.trans (hdr.mono HBB.out.size))
      obtain ⟨u0, hu0⟩ : ∃ u, u = wo.drew := ⟨_, rfl⟩
      rw [← hu0] at hHeld hdr
      rw [← hu0]
      clear hu0
      have HQ0 := Lib.hid hdr
      clear hdr
      have HAR0 : Hid (AcR F u0 ⟨k, 0, none⟩ (D.take j)) := acR_kept F (fun _ => False) _ _ _ _ HAR.out (Kept.of_below HQ0.out) (fun _ _ h => h)
      refine zt 0 ?_
      refine zt 1 ?_
      refine zt 2 ?_
      refine zt 3 ?_
      refine zt 4 ?_
      refine zt 5 ?_
      refine zt 6 ?_
      refine zt 7 ?_
      refine zt 8 ?_
      refine zt 9 ?_
      refine zt 10 ?_
      refine zt 11 ?_
      refine zt 12 ?_
      refine zt 13 ?_
      refine zt 14 ?_
      refine zt 15 ?_
      refine zr 16 (fun C hC => ?_)
      go_simp
      obtain ⟨rb, hrb⟩ : ∃ r, r = decide (okD (lastD (D.take j)) ⟨x0, x1, x2⟩) := ⟨_, rfl⟩
      have CA := acAdd_any F u0 ⟨k, 0, none⟩ (D.take j) ⟨x0, x1, x2⟩ HAR0.out HDO.out HDL2.out
      rw [← hrb] at CA
      have HRB := Lib.hid hrb
      clear hrb
      refine CA.mono ?_
      clear CA
      rintro e u2 ⟨F2, rfl, har, hkp, hft⟩
      have HAR2 := Lib.hid har
      have HFF2 : Hid (∀ q, F2 q → w2.heap.size ≤ q) := fun q hq => by
       rcases hft q hq with h1 | h1
       · exact HFF.out q h1
       · exact Nat.le_trans (Nat.le_trans HBB.out.size HQ0.out.size) h1
      have HBB2 : Hid (Below w2.heap.size w2 u2) := (HBB.out.trans (HQ0.out.mono HBB.out.size)).trans (hkp.below HFF.out (Nat.le_trans HBB.out.size HQ0.out.size))
      clear har hkp hft
      have hHeld : (fun (V : World) => V.cell? ⟨bk, off + i, none⟩ = some (.int .i64 x0) ∧ V.cell? ⟨bk, off + i1, none⟩ = some (.int .i64 x1) ∧ V.cell? ⟨bk, off + i2, none⟩ = some (.int .i64 x2)) u2 := HCL.out _ HBB2.out
      refine zc hC hHeld ?_
      clear hC C
      refine zt 17 ?_
      refine wpAnyZ_done (by kernel_rfl) ?_ _
      refine NoPanic.normal ?_
      clear hHeld
      by_cases hok : okD (lastD (D.take j)) ⟨x0, x1, x2⟩
      · have hr : rb = true := HRB.out.trans (decide_eq_true hok)
        have HAJ := Lib.hid (drs_add HDJ.out hok HDO.out)
        rw [HAJ.out.1] at HAR2
        rw [hr]
        clear hok hr HRB
        go_wp2_with fail
        go_roundw
        case rel => exact ⟨j + 1, i3, F2, rfl, HJ1.out, HAR2.out, HFF2.out, HBB2.out, HAJ.out.2⟩
        case measure => have := HME.out; simp [intOf]; omega
      · have hr : rb = false := HRB.out.trans (decide_eq_false hok)
        have HNO : Hid (∀ l, ¬ IsAb bs l) := fun l hl => by
         have h1 := HDA.out l hl
         have h2 := (hl.nums HL.out).2.2.2
         rw [← h1] at h2
         exact hok (drs_okD h2 HDJ.out).1
        have HB9 : Hid (Below w.heap.size w u2) := HB3.out.trans (HBB2.out.mono HB3.out.size)
        rw [hr]
        clear hok hr HRB
        go_wp2_with fail
        go_ret2
        exact ⟨HB9.out, .inr ⟨rfl, HNO.out⟩⟩
    · have hje : j = dd := by have := HJ.out; omega
      have z0 : decide (i < n) = false := decide_eq_false (by have := HJ.out; have := HNM.out; omega)
      have z0i : decide ((i : Int) < (n : Int)) = false := decide_eq_false (by have := HJ.out; have := HNM.out; omega)
      have htk : D.take j = D := List.take_of_length_le (by have := HL0.out.2; omega)
      rw [htk] at HAR HDO
      have HYES : Hid (IsAb bs D) := nums_is HALL.out HOK.out HE.out (by rw [HL0.out.2]; exact HL0.out.1) HDO.out HI.out
      have HB9 : Hid (Below w.heap.size w wo) := HB3.out.trans (HBB.out.mono HB3.out.size)
      have HFF9 : Hid (∀ q, F q → w.heap.size ≤ q) := fun q hq => Nat.le_trans HB3.out.size (HFF.out q hq)
      clear hje htk hlt
      go_wp2_with fail
      go_ret2
      exact ⟨HB9.out, .inl ⟨⟨k, 0, none⟩, D, F, rfl, HAR.out, HFF9.out, HYES.out⟩⟩
end Go.Proofs.Ytbejincejbnbaaa
namespace Go.Proofs.Ytbejincejbnbaaa
open Go.RowKit
open Go.SeqMath
open Go.ProdMath
open Go.BatMath hiding AllB getD_lt take_all
set_option linter.unusedVariables false

/-- What a look-up finds: the state of a producer, or none. -/
theorem tc_look (ms : List PM) (id : Int) (h0 : -9223372036854775808 ≤ id) (h1 : id ≤ 9223372036854775807) (hfew : fewP (pds ms)) :
 ∃ (p : Pd) (kn : Bool) (ad : Option Addr) (n cap : Nat), (lookD (pds ms) id).getD Pd.zero = p ∧ (lookD (pds ms) id).isSome = kn ∧ n ≤ 5 ∧
   (∀ W km, TcMap W km ms → (Instr.lookup 110 (.map (some km)) (.int .i64 id) true).run Try.prog W = .ok (.tuple #[.agg #[.int .i64 p.id, .int .i64 p.epoch, .slice ad n cap, .int .i64 p.opn], .bool kn]) W) ∧
   (∀ W km, TcMap W km ms → (Instr.lookup 110 (.map (some km)) (.int .i64 id) false).run Try.prog W = .ok (.agg #[.int .i64 p.id, .int .i64 p.epoch, .slice ad n cap, .int .i64 p.opn]) W) ∧
   ∀ W, LastsAt W ms → RowAt trK W ad n cap p.last := by
 have hl := lookM_p ms id
 cases hm : lookM ms id with
 | none =>
   rw [hm] at hl
   refine ⟨Pd.zero, false, none, 0, 0, by rw [← hl]; rfl, by rw [← hl]; rfl, by omega, fun W km hW => ?_, fun W km hW => ?_, fun W hW => rowAt_nil W⟩
   all_goals have hz : (zeroValue 103).run Try.prog W = .ok (.agg #[.int .i64 0, .int .i64 0, .slice none 0 0, .int .i64 0]) W := Try.zeroValue103 W
   · exact mapAs_none tcMapT keyI hW _ (key_int h0 h1) (fun q hq e => lookM_none hm q hq (by simpa [pmE] using e)) _ hz true
   · exact mapAs_none tcMapT keyI hW _ (key_int h0 h1) (fun q hq e => lookM_none hm q hq (by simpa [pmE] using e)) _ hz false
 | some m =>
   rw [hm] at hl
   obtain ⟨hmem, hid⟩ := lookM_some hm
   refine ⟨m.p, true, m.ad, m.p.last.length, m.cap, by rw [← hl]; rfl, by rw [← hl]; rfl, hfew m.p (List.mem_map.2 ⟨m, hmem, rfl⟩), fun W km hW => ?_, fun W km hW => ?_, fun W hW => hW m hmem⟩
   · have h2 := mapAs_some tcMapT keyI hW m hmem true
     rw [← hid]
     exact h2
   · have h2 := mapAs_some tcMapT keyI hW m hmem false
     rw [← hid]
     exact h2
end Go.Proofs.Ytbejincejbnbaaa
namespace Go.Proofs.Ytbejincejbnbaaa
open Go.RowKit
open Go.SeqMath
open Go.ProdMath
open Go.BatMath hiding AllB getD_lt take_all
set_option linter.unusedVariables false

theorem prAp_old (w : World) (o : Obj) {r : Nat} (h : r < w.heap.size) : (w.alloc o).heap[r]? = w.heap[r]? := by
  show (w.heap.push o)[r]? = _
  rw [Array.getElem?_push_lt h, Array.getElem?_eq_getElem h]
/-- The blocks ahead of the result: the batch that came in, the result's, and how many there are. -/
structure AP (w : World) (xo : Obj) (W : World) : Prop where
 xb : W.heap[w.heap.size + 1]? = some xo
 rb : PBox W (w.heap.size + 2) 0 0 (.slice none 0 0) 0
 sz : W.heap.size = w.heap.size + 3
 bel : Below w.heap.size w W
theorem AP.p {w W : World} {xo : Obj} (h : AP w xo W) (j : Nat) (u : Value) : AP w xo (W.setCell ⟨w.heap.size, j, none⟩ u) :=
 ⟨box_off h.xb (by omega) _, h.rb.off (by omega) _, by rw [size_set]; exact h.sz, h.bel.setCell (Nat.le_refl _) _⟩
theorem resultsPrApply {tmps : Array Value} {B : Nat} {W : World} {b0 b1 b3 : Int} {v : Value} (h : PBox W B b0 b1 v b3) (ht : tmps.getD 6 undef = .pointer (some ⟨B, 0, none⟩)) :
 (results Try.f55 tmps).run Try.prog W = .ok (.agg #[.int .i64 b0, .int .i64 b1, v, .int .i64 b3]) W := by
 rw [results_cell_one (p := 6) (ty := 103) Try.results55, ht]
 have hl := run_loadVar_row (P := Try.prog) W B 103 103 _ (0, 0) _ h Try.underlying103 rfl (by kernel_rfl)
 simp only [asAddr, Sem.run_pure, Result.andThen, hl]
/-- What the walk knows ahead of the new state. -/
def ApCut (w : World) (xo : Obj) (b2 : Int) (l0 : List Tr) (o0 : Int) (W : World) : Prop :=
 ∃ i1 e1 a1 n1 c1 o1 l1, AP w xo W ∧ PBox W w.heap.size i1 e1 (.slice a1 n1 c1) o1 ∧ RowAt trK W a1 n1 c1 l1 ∧ n1 ≤ 1000000 ∧ Hid ((if b2 = e1 then l1 else []) = l0) ∧ Hid (o1 = o0)
set_option maxRecDepth 100000 in
set_option maxHeartbeats 8000000 in
theorem prApply_any (w : World) (id ep op : Int) (last : List Tr) (ad : Option Addr) (n cap : Nat) (hl : RowAt trK w ad n cap last) (hn : n ≤ 1000000) (known : Bool) (b0 b1 b2 b3 : Int) (b4 : Bool) (b5 : Int) (recs : List Rc) (rd : Option Addr) (rn rc : Nat) (hrl : recs.length = rn) (hrn : rn ≤ 140737488355328) (p : Pd) (hp : applyD ⟨id, ep, last, op⟩ known ⟨b0, b1, b2, b3, b4, b5, recs⟩ = p) :
 Calls Try.prog 55 #[.agg #[.int .i64 id, .int .i64 ep, .slice ad n cap, .int .i64 op], .bool known, .agg #[.int .i64 b0, .int .i64 b1, .int .i64 b2, .int .i64 b3, .bool b4, .int .i64 b5, .slice rd rn rc]] w (GivesApply w p) := by
 obtain ⟨xo, hxo⟩ : ∃ xo : Obj, xo = (.cells #[.int .i64 b0, .int .i64 b1, .int .i64 b2, .int .i64 b3, .bool b4, .int .i64 b5, .slice rd rn rc] 58 (0, 0)) := ⟨_, rfl⟩
 obtain ⟨W0, hW0⟩ : ∃ W0, W0 = (((w.alloc (.cells #[.int .i64 id, .int .i64 ep, .slice ad n cap, .int .i64 op] 103)).alloc (.cells #[.int .i64 b0, .int .i64 b1, .int .i64 b2, .int .i64 b3, .bool b4, .int .i64 b5, .slice rd rn rc] 58)).alloc (.cells #[.int .i64 0, .int .i64 0, .slice none 0 0, .int .i64 0] 103)) := ⟨_, rfl⟩
 have HA0 : Hid (AP w xo W0) := by
  show AP _ _ _
  rw [hW0, hxo]
  have e2 := Below.refl w.heap.size w
  refine ⟨?_, ?_, by simp, ((e2.alloc (Nat.le_refl _) _).alloc (by simp) _).alloc (by simp <;> omega) _⟩
  · rw [prAp_old _ _ (by simp)]
    have := heap_alloc_new (w.alloc (.cells #[.int .i64 id, .int .i64 ep, .slice ad n cap, .int .i64 op] 103)) (.cells #[.int .i64 b0, .int .i64 b1, .int .i64 b2, .int .i64 b3, .bool b4, .int .i64 b5, .slice rd rn rc] 58)
    simpa using this
  · show (_ : World).heap[_]? = _
    have := heap_alloc_new ((w.alloc (.cells #[.int .i64 id, .int .i64 ep, .slice ad n cap, .int .i64 op] 103)).alloc (.cells #[.int .i64 b0, .int .i64 b1, .int .i64 b2, .int .i64 b3, .bool b4, .int .i64 b5, .slice rd rn rc] 58)) (.cells #[.int .i64 0, .int .i64 0, .slice none 0 0, .int .i64 0] 103)
    simpa using this
 have HPB : Hid (PBox W0 w.heap.size id ep (.slice ad n cap) op) := by
  show (_ : World).heap[_]? = _
  rw [hW0, prAp_old _ _ (by simp <;> omega), prAp_old _ _ (by simp)]
  exact heap_alloc_new w _
 have HL0 := Lib.hid (hl.keep HA0.out.bel)
 have HPP : Hid (applyD ⟨id, ep, last, op⟩ known ⟨b0, b1, b2, b3, b4, b5, recs⟩ = p) := hp
 have HRL := Lib.hid hrl
 have HXO := Lib.hid hxo
 clear hl hp hrl hxo
 go_enter Try.func55, Try.ntmps55
 go_upto_if 9 with (fail)
 rw [← hW0]
 clear hW0
 obtain ⟨l0, hl0⟩ : ∃ l0, l0 = oldLast ⟨id, ep, last, op⟩ known ⟨b0, b1, b2, b3, b4, b5, recs⟩ := ⟨_, rfl⟩
 obtain ⟨o0, ho0⟩ : ∃ o0, o0 = oldOpen ⟨id, ep, last, op⟩ known := ⟨_, rfl⟩
 have HPE1 : Hid (b5 ≠ 0 → p = ⟨b1, b2, l0, -1⟩) := by
  intro hm
  rw [← HPP.out, hl0]
  simp [applyD, hm]
 have HPE2 : Hid (b5 = 0 → ∀ oz, oz = (if b4 = true ∧ o0 < 0 then b0 else o0) → p = ⟨b1, b2, newLast l0 ⟨b3, lastI b3 rn, b0⟩, oz⟩) := by
  intro hm oz hoz
  rw [hoz, ← HPP.out, hl0, ho0, ← HRL.out]
  simp [applyD, hm]
 have HLE : Hid (l0 = if known = true ∧ ep = b2 then last else []) := by show l0 = _; rw [hl0]; rfl
 have HOE : Hid (o0 = if known = true then op else -1) := by show o0 = _; rw [ho0]; rfl
 clear hl0 ho0 HPP HRL
 go_cut [] from 8 (fun wx => ApCut w xo b2 l0 o0 wx)
 case first =>
  have q0 := HPB.out.c0
  have q1 := HPB.out.c1
  have q2 := HPB.out.c2
  have q3 := HPB.out.c3
  have f0 := HPB.out.free 0
  have f1 := HPB.out.free 1
  have f2 := HPB.out.free 2
  have f3 := HPB.out.free 3
  cases known
  · go_wp2
    go_meet
    case rel =>
     refine ⟨0, 0, none, 0, 0, -1, [], (((HA0.out.p 0 _).p 1 _).p 2 _).p 3 _, (((HPB.out.s0 0).s1 0).s2 (.slice none 0 0)).s3 (-1), rowAt_nil _, by omega, ?_, ?_⟩
     · show _ = _; rw [HLE.out]; simp
     · show _ = _; rw [HOE.out]; rfl
  · go_wp2
    go_meet
    case rel =>
     refine ⟨id, ep, ad, n, cap, op, last, HA0.out, HPB.out, HL0.out, hn, ?_, ?_⟩
     · show _ = _
       rw [HLE.out]
       by_cases h : b2 = ep
       · rw [if_pos h, if_pos (by simp [h])]
       · rw [if_neg h, if_neg (fun h2 => h h2.2.symm)]
     · show _ = _; rw [HOE.out]; rfl
 case rest =>
  obtain ⟨i1, e1, a1, n1, c1, o1, l1, hap, hpb, hrw, hn1, hle, hoe⟩ := hcut
  have HAP := Lib.hid hap
  have HPB1 := Lib.hid hpb
  have HRW := Lib.hid hrw
  clear hap hpb hrw HA0 HPB HL0 HLE HOE hn
  have hxb : BoxAt wc (w.heap.size + 1) b0 b1 b2 b3 b4 b5 (.slice rd rn rc) := by have := HAP.out.xb; rw [HXO.out] at this; exact this
  have HXB := Lib.hid hxb
  clear hxb
  have x1 := HXB.out.c1
  have x2 := HXB.out.c2
  have y1 := HPB1.out.c1
  go_upto_region 4 with fail
  obtain ⟨W1, hW1⟩ : ∃ W1, W1 = wc.alloc (.cells #[.int .i64 b1, .int .i64 b2, .slice none 0 0, .int .i64 (-1)] 103) := ⟨_, rfl⟩
  obtain ⟨po, hpo⟩ : ∃ po : Obj, po = .cells #[.int .i64 i1, .int .i64 e1, .slice a1 n1 c1, .int .i64 o1] 103 (0, 0) := ⟨_, rfl⟩
  have hb1 : Below wc.heap.size wc W1 := by rw [hW1]; exact (Below.refl _ _).alloc (Nat.le_refl _) _
  have HPB2 := Lib.hid (HPB1.out.on hb1)
  have HA1 : Hid (AS w po xo b1 b2 (.slice none 0 0) (-1) W1) := by
   show AS _ _ _ _ _ _ _ _
   refine ⟨by rw [hpo]; exact HPB2.out, ?_, HAP.out.rb.on hb1, ?_, HAP.out.bel.trans (hb1.mono HAP.out.bel.size)⟩
   · rw [hb1.block _ (lt_of_block HAP.out.xb)]; exact HAP.out.xb
   · have h3 := pbox_new wc b1 b2 (.slice none 0 0) (-1)
     rw [← hW1, HAP.out.sz] at h3
     exact h3
  have HL1 := Lib.hid (HRW.out.keep hb1)
  have HXB1 := Lib.hid (HXB.out.on hb1)
  have hsz := HAP.out.sz
  rw [← hW1, hsz]
  have HPO := Lib.hid hpo
  clear hW1 hb1 hsz x1 x2 y1 HPB1 HRW HXB HAP hpo
  have x2 := HXB1.out.c2
  have y1 := HPB2.out.c1
  have y2 := HPB2.out.c2
  have o2 := HA1.out.ob.c2
  have f2 := HA1.out.ob.free 2
  go_upto_if 20 with (fail)
  go_cut [] from 16 (fun wx => ∃ v, AS w po xo b1 b2 v (-1) wx ∧ OwnRow trK wx (w.heap.size + 4) v l0)
  case first =>
   by_cases hee : b2 = e1
   · have hd : (b2 == e1) = true := by rw [hee]; simp
     have e2 : l0 = l1 := by rw [← hle.out, if_pos hee]
     have HE2 := Lib.hid e2
     have HVE : Hid (OwnRow trK W1 (w.heap.size + 4) (.slice none 0 0) []) := ownRow_nil _ _ _
     clear hee e2
     go_wp2_with (at_builtin; refine list_row (by rfl) trK_ok (.tmp 22) (.tmp 24) rfl (w.heap.size + 4) [] l1 _ rfl HVE.out HA1.out.lt a1 n1 c1 rfl HL1.out (by rw [List.length_nil]; omega) ?_)
     intro v2 w2 hap
     obtain ⟨ad2, cap2, hv2, _, _⟩ := OwnRow.row trK_ok (l := l1) (n := n1) hap.1 HL1.out.length
     subst hv2
     have HO2 : Hid (OwnRow trK w2 (w.heap.size + 4) (.slice ad2 n1 cap2) l1) := hap.1
     have HA2 : Hid (AS w po xo b1 b2 (.slice none 0 0) (-1) w2) := HA1.out.grown hap.2.1 fun k hk => (HVE.out.lt k hk).1
     clear hap HVE o2 f2
     have o2 := HA2.out.ob.c2
     have f2 := HA2.out.ob.free 2
     go_wp2
     go_meet
     case rel => exact ⟨_, HA2.out.s2 (.slice ad2 n1 cap2), by rw [HE2.out]; exact HO2.out.off (by omega) _ _⟩
   · have hd : (b2 == e1) = false := beq_false_of_ne hee
     have e2 : l0 = [] := by rw [← hle.out, if_neg hee]
     clear hee
     go_wp2
     go_meet
     case rel => exact ⟨_, HA1.out, by rw [e2]; exact ownRow_nil _ _ _⟩
  case rest =>
   obtain ⟨v, ha, ho⟩ := hcut
   have HA := Lib.hid ha
   have HO := Lib.hid ho
   have hxb : BoxAt wc (w.heap.size + 1) b0 b1 b2 b3 b4 b5 (.slice rd rn rc) := by have := ha.xb; rw [HXO.out] at this; exact this
   have HXC := Lib.hid hxb
   have hn0 : l0.length ≤ 1000000 := by
    have hll := HL1.out.length
    rw [← hle.out]
    split
    · omega
    · exact Nat.zero_le _
   clear hxb ha ho HXB1 HPB2 HA1 HL1 hle x2 y1 y2 o2 f2
   obtain ⟨n0, hln0⟩ : ∃ n0, l0.length = n0 := ⟨_, rfl⟩
   rw [hln0] at hn0
   obtain ⟨ad0, cap0, hv0, hr0, hk0⟩ := OwnRow.row trK_ok HO.out hln0
   subst hv0
   have HLN := Lib.hid hln0
   have HR0 := Lib.hid hr0
   have HK0 : Hid (∀ a, ad0 = some a → w.heap.size + 4 ≤ a.block ∧ a.block < wc.heap.size) := fun a ha => hk0 a ha
   clear hln0 hr0 hk0
   have p5 := HXC.out.c5
   by_cases hm : b5 = 0
   · have hd : (b5 == 0) = true := by rw [hm]; rfl
     have hdn : (b5 != 0) = false := by rw [hm]; rfl
     have HPE : Hid (∀ oz, oz = (if b4 = true ∧ o0 < 0 then b0 else o0) → p = ⟨b1, b2, newLast l0 ⟨b3, lastI b3 rn, b0⟩, oz⟩) := HPE2.out hm
     obtain ⟨lv, hlv⟩ : ∃ lv, lastI b3 rn = lv := ⟨_, rfl⟩
     rw [hlv] at HPE
     have HLV := Lib.hid hlv
     have HM := Lib.hid hm
     clear HPE1 HPE2 hm hlv
     go_upto_region 8 with fail
     clear p5
     have KS : Hid (∀ W, AS w po xo b1 b2 (.slice ad0 n0 cap0) (-1) W → (fun (W : World) => W.cell? ⟨(w.heap.size + 1), 0, none⟩ = some (.int .i64 b0) ∧ W.cell? ⟨(w.heap.size + 1), 1, none⟩ = some (.int .i64 b1) ∧ W.cell? ⟨(w.heap.size + 1), 2, none⟩ = some (.int .i64 b2) ∧ W.cell? ⟨(w.heap.size + 1), 3, none⟩ = some (.int .i64 b3) ∧ W.cell? ⟨(w.heap.size + 1), 4, none⟩ = some (.bool b4) ∧ W.cell? ⟨(w.heap.size + 1), 5, none⟩ = some (.int .i64 b5) ∧ W.cell? ⟨(w.heap.size + 1), 6, none⟩ = some (.slice rd rn rc) ∧ W.cell? ⟨(w.heap.size + 3), 0, none⟩ = some (.int .i64 b1) ∧ W.cell? ⟨(w.heap.size + 3), 1, none⟩ = some (.int .i64 b2) ∧ W.cell? ⟨(w.heap.size + 3), 2, none⟩ = some (.slice ad0 n0 cap0) ∧ W.cell? ⟨(w.heap.size + 3), 3, none⟩ = some (.int .i64 (-1)) ∧ W.frozen? ⟨w.heap.size + 3, 2, none⟩ = false) W) := by
      intro W hW
      have hX : BoxAt W (w.heap.size + 1) b0 b1 b2 b3 b4 b5 (.slice rd rn rc) := by have := hW.xb; rw [HXO.out] at this; exact this
      exact ⟨hX.c0, hX.c1, hX.c2, hX.c3, hX.c4, hX.c5, hX.c6, hW.ob.c0, hW.ob.c1, hW.ob.c2, hW.ob.c3, hW.ob.free 2⟩
     have hdr : Below wc.heap.size wc wc.drew := (Below.refl _ wc).drew
     have HAd := Lib.hid (HA.out.on hdr)
     have HOd := Lib.hid (HO.out.on hdr)
     refine wp_region_noPanic ?_
     refine wp_region_z [12] (fun (W : World) => W.cell? ⟨(w.heap.size + 1), 0, none⟩ = some (.int .i64 b0) ∧ W.cell? ⟨(w.heap.size + 1), 1, none⟩ = some (.int .i64 b1) ∧ W.cell? ⟨(w.heap.size + 1), 2, none⟩ = some (.int .i64 b2) ∧ W.cell? ⟨(w.heap.size + 1), 3, none⟩ = some (.int .i64 b3) ∧ W.cell? ⟨(w.heap.size + 1), 4, none⟩ = some (.bool b4) ∧ W.cell? ⟨(w.heap.size + 1), 5, none⟩ = some (.int .i64 b5) ∧ W.cell? ⟨(w.heap.size + 1), 6, none⟩ = some (.slice rd rn rc) ∧ W.cell? ⟨(w.heap.size + 3), 0, none⟩ = some (.int .i64 b1) ∧ W.cell? ⟨(w.heap.size + 3), 1, none⟩ = some (.int .i64 b2) ∧ W.cell? ⟨(w.heap.size + 3), 2, none⟩ = some (.slice ad0 n0 cap0) ∧ W.cell? ⟨(w.heap.size + 3), 3, none⟩ = some (.int .i64 (-1)) ∧ W.frozen? ⟨w.heap.size + 3, 2, none⟩ = false) (by kernel_rfl) ?_
     have hHeld := KS.out _ HAd.out
     obtain ⟨u0, hu0⟩ : ∃ u, u = wc.drew := ⟨_, rfl⟩
     rw [← hu0] at hHeld HAd HOd
     rw [← hu0]
     clear hu0
     refine zt 0 ?_
     refine zt 1 ?_
     refine zt 2 ?_
     refine zt 3 ?_
     refine zt 4 ?_
     refine zt 6 ?_
     refine zt 7 ?_
     refine zr 5 (fun C hC => ?_)
     go_simp
     refine (prEnd_any u0 b0 b1 b2 b3 b4 b5 rd rn rc HM.out hrn lv HLV.out).mono ?_
     rintro e uz ⟨rfl, hbz⟩
     have HAz := Lib.hid (HAd.out.on hbz)
     have HOz := Lib.hid (HOd.out.on hbz)
     clear hbz
     go_wp2_with fail
     have hHeld := KS.out _ HAz.out
     refine zc hC hHeld ?_
     clear hC C
     refine zt 8 ?_
     refine zr 9 (fun C hC => ?_)
     go_simp
     obtain ⟨u1, hu1⟩ : ∃ u, u = uz.alloc (.cells #[.int .i64 b3, .int .i64 lv, .int .i64 b0] 104) := ⟨_, rfl⟩
     have hb1 : Below uz.heap.size uz u1 := by rw [hu1]; exact (Below.refl _ _).alloc (Nat.le_refl _) _
     have HA1 := Lib.hid (HAz.out.on hb1)
     have HO1 := Lib.hid (HOz.out.on hb1)
     have HX1 : Hid (RowAt trK u1 (some ⟨uz.heap.size, 0, none⟩) 1 1 [⟨b3, lv, b0⟩]) := by show RowAt _ _ _ _ _ _; rw [hu1]; exact rowAt_lit trK_ok uz [⟨b3, lv, b0⟩] (by simp) _ rfl 1 rfl
     obtain ⟨G0, hG0⟩ : ∃ G, G = uz.heap.size := ⟨_, rfl⟩
     rw [← hG0] at HX1
     rw [← hu1, ← hG0]
     clear hu1 hb1 hG0
     have hHeld := KS.out _ HA1.out
     refine zc hC hHeld ?_
     clear hC C
     refine zr 10 (fun C hC => ?_)
     refine held_row (by rfl) trK_ok (.tmp 32) (.tmp 40) rfl (w.heap.size + 4) l0 [⟨b3, lv, b0⟩] _ rfl HO1.out HA1.out.lt (some ⟨G0, 0, none⟩) 1 1 rfl HX1.out (by rw [HLN.out]; omega) ?_
     rintro v2 u2 hap
     obtain ⟨ad2, cap2, hv2, hr2, hk2⟩ := OwnRow.row trK_ok hap.1 (n := n0 + 1) (by rw [List.length_append, HLN.out]; rfl)
     subst hv2
     have HA2 : Hid (AS w po xo b1 b2 (.slice ad0 n0 cap0) (-1) u2) := HA1.out.grown hap.2.1 fun k hk => (HO1.out.lt k hk).1
     have HR2 := Lib.hid hr2
     have HK2 : Hid (∀ a, ad2 = some a → w.heap.size + 4 ≤ a.block ∧ a.block < u2.heap.size) := fun a ha => hk2 a ha
     clear hap hr2 hk2 HO1 HA1 HX1 HAz HOz
     have hHeld := KS.out _ HA2.out
     refine zc hC hHeld ?_
     clear hC C
     refine zt 11 ?_
     refine zr 12 (fun C hC => ?_)
     go_simp
     refine hC.out _ _ (zfree_no (by kernel_rfl)) (fun _ => ?_)
     clear hC C
     (try simp only [Act.put, List.setIfInBounds_toArray, List.set_cons_zero, List.set_cons_succ])
     refine wpAnyZ_done (by kernel_rfl) ?_ _
     refine NoPanic.normal ?_
     clear hHeld
     obtain ⟨w3, hw3⟩ : ∃ w3, w3 = u2.setCell ⟨w.heap.size + 3, 2, none⟩ (.slice ad2 (n0 + 1) cap2) := ⟨_, rfl⟩
     have HA3 : Hid (AS w po xo b1 b2 (.slice ad2 (n0 + 1) cap2) (-1) w3) := by show AS _ _ _ _ _ _ _ _; rw [hw3]; exact HA2.out.s2 _
     have HR3 : Hid (RowAt trK w3 ad2 (n0 + 1) cap2 (l0 ++ [⟨b3, lv, b0⟩])) := by show RowAt _ _ _ _ _ _; rw [hw3]; exact HR2.out.off (fun a ha => by have := (HK2.out a ha).1; omega) _ _
     have HK3 : Hid (∀ a, ad2 = some a → w.heap.size + 4 ≤ a.block ∧ a.block < w3.heap.size) := fun a ha => by rw [hw3, size_set]; exact HK2.out a ha
     rw [← hw3]
     clear hw3 HA2 HR2 HA HAd HOd HR0 HK0 HXC HO HK2
     obtain ⟨k, hk⟩ : ∃ k, k = n0 + 1 - 5 := ⟨_, rfl⟩
     obtain ⟨ad4, cap4, hcut, hr4, hk4⟩ := row_from trK_ok HR3.out k (by omega)
     have hcut : ∀ W, (Instr.slice 101 (.slice ad2 (n0 + 1) cap2) (some (.int .i64 (k : Int))) none none).run Try.prog W = .ok (.slice ad4 (n0 + 1 - k) cap4) W := hcut
     have hmx : (if (n0 : Int) + 1 - 5 < 0 then 0 else (n0 : Int) + 1 - 5) = (k : Int) := by split <;> omega
     have HK4 : Hid (∀ a, ad4 = some a → w.heap.size + 4 ≤ a.block ∧ a.block < w3.heap.size) := fun a ha => by
      obtain ⟨a0, h0, h1⟩ := hk4 a ha
      rw [h1]; exact HK3.out a0 h0
     obtain ⟨l4, hl4⟩ : ∃ l4, l4 = (l0 ++ [(⟨b3, lv, b0⟩ : Tr)]).drop k := ⟨_, rfl⟩
     have HPF : Hid (∀ oz, oz = (if b4 = true ∧ o1 < 0 then b0 else o1) → p = ⟨b1, b2, l4, oz⟩) := by
      intro oz hoz
      rw [hoe.out] at hoz
      rw [HPE.out oz hoz, hl4, hk]
      unfold newLast
      rw [HLN.out]
     rw [← hl4] at hr4
     have HR4 := Lib.hid hr4
     have HKK := Lib.hid hk
     clear hr4 hk4 hl4 HPE HR3 HK3 hk
     have o0_ := HA3.out.ob.c2
     have g2 := HA3.out.ob.free 2
     go_upto_region 10 with fail
     obtain ⟨n4, hn4⟩ : ∃ n4, n4 = n0 + 1 - k := ⟨_, rfl⟩
     rw [← hn4] at HR4
     rw [← hn4]
     obtain ⟨w4, hw4⟩ : ∃ w4, w4 = w3.setCell ⟨w.heap.size + 3, 2, none⟩ (.slice ad4 n4 cap4) := ⟨_, rfl⟩
     have HA4 : Hid (AS w po xo b1 b2 (.slice ad4 n4 cap4) (-1) w4) := by show AS _ _ _ _ _ _ _ _; rw [hw4]; exact HA3.out.s2 _
     have HR5 : Hid (RowAt trK w4 ad4 n4 cap4 l4) := by show RowAt _ _ _ _ _ _; rw [hw4]; exact HR4.out.off (fun a ha => by have := (HK4.out a ha).1; omega) _ _
     have HK5 : Hid (∀ a, ad4 = some a → w.heap.size + 4 ≤ a.block ∧ a.block < w4.heap.size) := fun a ha => by rw [hw4, size_set]; exact HK4.out a ha
     rw [← hw4]
     clear hw4 HA3 HR4 HK4 hcut hmx hn4 o0_ g2 KS
     have HPC : Hid (PBox w4 w.heap.size i1 e1 (.slice a1 n1 c1) o1) := by show (_ : World).heap[_]? = _; rw [HA4.out.pb, HPO.out]
     have y3 := HPC.out.c3
     have g3 := HA4.out.ob.free 3
     have oc3 := HA4.out.ob.c3
     go_upto_region 11 with fail
     obtain ⟨w5, hw5⟩ : ∃ w5, w5 = w4.setCell ⟨w.heap.size + 3, 3, none⟩ (.int .i64 o1) := ⟨_, rfl⟩
     have HA5 : Hid (AS w po xo b1 b2 (.slice ad4 n4 cap4) o1 w5) := by show AS _ _ _ _ _ _ _ _; rw [hw5]; exact HA4.out.s3 _
     have HR6 : Hid (RowAt trK w5 ad4 n4 cap4 l4) := by show RowAt _ _ _ _ _ _; rw [hw5]; exact HR5.out.off (fun a ha => by have := (HK5.out a ha).1; omega) _ _
     have HK6 : Hid (∀ a, ad4 = some a → w.heap.size + 4 ≤ a.block ∧ a.block < w5.heap.size) := fun a ha => by rw [hw5, size_set]; exact HK5.out a ha
     rw [← hw5]
     clear hw5 HA4 HR5 HK5 y3 g3 oc3 HPC
     have HPC : Hid (PBox w5 w.heap.size i1 e1 (.slice a1 n1 c1) o1) := by show (_ : World).heap[_]? = _; rw [HA5.out.pb, HPO.out]
     have hX : BoxAt w5 (w.heap.size + 1) b0 b1 b2 b3 b4 b5 (.slice rd rn rc) := by have := HA5.out.xb; rw [HXO.out] at this; exact this
     have p4 := hX.c4
     cases b4
     · have HP : Hid (p = ⟨b1, b2, l4, o1⟩) := HPF.out o1 (by simp)
       clear HPF hX
       have oc0 := HA5.out.ob.c0
       have g0 := HA5.out.ob.free 0
       have r0 := HA5.out.rb.c0
       have f0 := HA5.out.rb.free 0
       have oc1 := HA5.out.ob.c1
       have g1 := HA5.out.ob.free 1
       have r1 := HA5.out.rb.c1
       have f1 := HA5.out.rb.free 1
       have oc2 := HA5.out.ob.c2
       have g2 := HA5.out.ob.free 2
       have r2 := HA5.out.rb.c2
       have f2 := HA5.out.rb.free 2
       have oc3 := HA5.out.ob.c3
       have g3 := HA5.out.ob.free 3
       have r3 := HA5.out.rb.c3
       have f3 := HA5.out.rb.free 3
       go_wp2
       exact bodyPost_ret (resultsPrApply ((((HA5.out.rb.s0 b1).s1 b2).s2 (.slice ad4 n4 cap4)).s3 o1) rfl) rfl (gives_apply HA5.out HP.out HR6.out HK6.out)
     · have y0 := HPC.out.c0
       have y1 := HPC.out.c1
       have y2 := HPC.out.c2
       have y3 := HPC.out.c3
       clear hX
       by_cases hlt : 0 ≤ o1
       · have HD : Hid (decide (0 ≤ o1) = true) := decide_eq_true hlt
         have HP : Hid (p = ⟨b1, b2, l4, o1⟩) := HPF.out o1 (by simp [Int.not_lt.2 hlt])
         clear HPF hlt
         go_wp2_with fail
         refine (prOpen_any w5 i1 e1 o1 a1 n1 c1 true HD.out).mono ?_
         rintro e w6 ⟨rfl, hb6⟩
         have HA6 := Lib.hid (HA5.out.on hb6)
         have HR7 := Lib.hid (HR6.out.keep hb6)
         have HK7 : Hid (∀ a, ad4 = some a → w.heap.size + 4 ≤ a.block ∧ a.block < w6.heap.size) := fun a ha => ⟨(HK6.out a ha).1, Nat.lt_of_lt_of_le (HK6.out a ha).2 hb6.size⟩
         clear hb6 HA5 HR6 HK6 y0 y1 y2 y3 p4 HPC
         have oc0 := HA6.out.ob.c0
         have g0 := HA6.out.ob.free 0
         have r0 := HA6.out.rb.c0
         have f0 := HA6.out.rb.free 0
         have oc1 := HA6.out.ob.c1
         have g1 := HA6.out.ob.free 1
         have r1 := HA6.out.rb.c1
         have f1 := HA6.out.rb.free 1
         have oc2 := HA6.out.ob.c2
         have g2 := HA6.out.ob.free 2
         have r2 := HA6.out.rb.c2
         have f2 := HA6.out.rb.free 2
         have oc3 := HA6.out.ob.c3
         have g3 := HA6.out.ob.free 3
         have r3 := HA6.out.rb.c3
         have f3 := HA6.out.rb.free 3
         go_wp2
         exact bodyPost_ret (resultsPrApply ((((HA6.out.rb.s0 b1).s1 b2).s2 (.slice ad4 n4 cap4)).s3 o1) rfl) rfl (gives_apply HA6.out HP.out HR7.out HK7.out)
       · have HD : Hid (decide (0 ≤ o1) = false) := decide_eq_false hlt
         have HP : Hid (p = ⟨b1, b2, l4, b0⟩) := HPF.out b0 (by simp [Int.not_le.1 hlt])
         clear HPF hlt
         go_wp2_with fail
         refine (prOpen_any w5 i1 e1 o1 a1 n1 c1 false HD.out).mono ?_
         rintro e w6 ⟨rfl, hb6⟩
         have HA6 := Lib.hid (HA5.out.on hb6)
         have HR7 := Lib.hid (HR6.out.keep hb6)
         have HK7 : Hid (∀ a, ad4 = some a → w.heap.size + 4 ≤ a.block ∧ a.block < w6.heap.size) := fun a ha => ⟨(HK6.out a ha).1, Nat.lt_of_lt_of_le (HK6.out a ha).2 hb6.size⟩
         have hX : BoxAt w6 (w.heap.size + 1) b0 b1 b2 b3 true b5 (.slice rd rn rc) := by have := HA6.out.xb; rw [HXO.out] at this; exact this
         clear hb6 HA5 HR6 HK6 y0 y1 y2 y3 p4 HPC
         have p0 := hX.c0
         clear hX
         have oc0 := HA6.out.ob.c0
         have g0 := HA6.out.ob.free 0
         have r0 := HA6.out.rb.c0
         have f0 := HA6.out.rb.free 0
         have oc1 := HA6.out.ob.c1
         have g1 := HA6.out.ob.free 1
         have r1 := HA6.out.rb.c1
         have f1 := HA6.out.rb.free 1
         have oc2 := HA6.out.ob.c2
         have g2 := HA6.out.ob.free 2
         have r2 := HA6.out.rb.c2
         have f2 := HA6.out.rb.free 2
         have oc3 := HA6.out.ob.c3
         have g3 := HA6.out.ob.free 3
         have r3 := HA6.out.rb.c3
         have f3 := HA6.out.rb.free 3
         go_wp2
         exact bodyPost_ret (resultsPrApply (((((HA6.out.s3 b0).rb.s0 b1).s1 b2).s2 (.slice ad4 n4 cap4)).s3 b0) rfl) rfl (gives_apply (HA6.out.s3 b0) HP.out (HR7.out.off (fun a ha => by have := (HK7.out a ha).1; omega) _ _) (fun a ha => by rw [size_set]; exact HK7.out a ha))
   · have hd : (b5 == 0) = false := beq_false_of_ne hm
     have hdn : (b5 != 0) = true := by unfold bne; rw [hd]; rfl
     have HPE := Lib.hid (HPE1.out hm)
     clear HPE1 HPE2 hm
     have oc0 := HA.out.ob.c0
     have g0 := HA.out.ob.free 0
     have r0 := HA.out.rb.c0
     have f0 := HA.out.rb.free 0
     have oc1 := HA.out.ob.c1
     have g1 := HA.out.ob.free 1
     have r1 := HA.out.rb.c1
     have f1 := HA.out.rb.free 1
     have oc2 := HA.out.ob.c2
     have g2 := HA.out.ob.free 2
     have r2 := HA.out.rb.c2
     have f2 := HA.out.rb.free 2
     have oc3 := HA.out.ob.c3
     have g3 := HA.out.ob.free 3
     have r3 := HA.out.rb.c3
     have f3 := HA.out.rb.free 3
     go_wp2
     exact bodyPost_ret (resultsPrApply ((((HA.out.rb.s0 b1).s1 b2).s2 (.slice ad0 n0 cap0)).s3 (-1)) rfl) rfl (gives_apply HA.out HPE.out HR0.out HK0.out)
end Go.Proofs.Ytbejincejbnbaaa
namespace Go.Proofs.Ytbejincejbnbaaa
open Go.RowKit
open Go.SeqMath
open Go.ProdMath
open Go.BatMath hiding AllB getD_lt take_all
set_option linter.unusedVariables false

theorem right_prod {b : Bat} (h : rightE b = 0) : b.prod = -1 ∨ 0 ≤ b.prod := by
 unfold rightE at h
 split at h
 · omega
 · split at h
   · split at h
     · rename_i h2; exact .inr (head_of h2.2.1).1
     · omega
   · split at h
     · rename_i h2
       rcases h2.1 with h3 | h3
       · exact .inl (none_of h3).1
       · exact .inr (head_of h3.1).1
     · omega
end Go.Proofs.Ytbejincejbnbaaa
