/- Law 13's AbortsNumbers, given what the code does: rows of forty tapes, ranges at bounds; bytes cut off, turned. -/
import Derived.Test.YtbejincejbnbaaaKa14
import Derived.Test.YtbejincejbnbaaaKa3
import Derived.Test.YtbejincejbnbaaaKa11
namespace Go.Proofs.Ytbejincejbnbaaa
open Go.RowKit
open Go.AbMath
open Go.ProdMath
open Go.BatMath hiding AllB getD_lt take_all
set_option linter.unusedVariables false

set_option maxRecDepth 100000 in
theorem abTape_any (w : World) (k : Nat) (hk : k ≤ 60) :
 Calls Try.prog 9 #[.int .i64 (k : Int)] w fun e w' => ∃ ad cap zs, e = .returned (.slice ad 400 cap) ∧ Hid (Nums w' ad 400 zs) ∧ Hid (Below w.heap.size w w') := by
 go_enter Try.func9, Try.ntmps9
 go_wp2
 go_loopw [3, 4] (fun v3 v4 wr => TapeLoop w v3 v4 wr) (fun _ v4 _ => (400 - intOf v4).toNat)
 case atStart => exact ⟨[], 0, _, rfl, rfl, by omega, rfl, (fun z hz => by cases hz), ownRow_nil _ _ _, Below.refl _ _⟩
 case round =>
  obtain ⟨zs, i, u, rfl, rfl, hi, hl, ha, hown, hbel⟩ := hrel
  have HL := Lib.hid hl
  have HA := Lib.hid ha
  have HO := Lib.hid hown
  have HB := Lib.hid hbel
  clear hl ha hown hbel
  by_cases hlt : i < 400
  · have hd : decide ((i : Int) < 400) = true := by simp; omega
    obtain ⟨x, hx⟩ : ∃ x, wrap64 (wrap64 (wrap64 (wrap64 ((i : Int) * i) * 7) + (k : Int) * 43) + wrap64 ((i : Int) * k)) = x := ⟨_, rfl⟩
    obtain ⟨z, hz⟩ : ∃ z, x.tmod 211 = z := ⟨_, rfl⟩
    have hz64 := tmod_in x 211 z (by omega) hz
    obtain ⟨wo, rfl⟩ : ∃ wo : World, wo = wr := ⟨_, rfl⟩
    have HBA : Hid (Below w.heap.size w (wo.alloc (.cells #[.int .i64 z] 3))) := HB.out.alloc HB.out.size _
    have HRW : Hid (RowAt intK (wo.alloc (.cells #[.int .i64 z] 3)) (some ⟨wo.heap.size, 0, none⟩) 1 1 [z]) := rowAt_lit intK_ok wo [z] (by simp) _ rfl 1 rfl
    go_wp2_with (at_builtin; refine list_row (by rfl) intK_ok (.tmp 9) (.tmp 22) rfl w.heap.size zs [z] _ rfl (HO.out.alloc _) HBA.out.size (some ⟨wo.heap.size, 0, none⟩) 1 1 rfl HRW.out (by have := HL.out; omega) ?_)
    intro v' w' hap
    have HO2 := Lib.hid hap.1
    have HB2 : Hid (Below w.heap.size w w') := HBA.out.grown hap.2.1 HBA.out.size fun q hq => (HO.out.lt q hq).1
    have HL2 : Hid ((zs ++ [z]).length = i + 1) := by show _ = _; rw [List.length_append, HL.out]; rfl
    have HA2 : Hid (∀ y ∈ zs ++ [z], In64 y) := by
     intro y hy
     rcases List.mem_append.1 hy with hy | hy
     · exact HA.out y hy
     · rw [List.mem_singleton.1 hy]; exact hz64
    clear hap hx hz
    go_wp2
    go_roundw
    case rel => exact ⟨zs ++ [z], i + 1, _, rfl, by go_num, by omega, HL2.out, HA2.out, HO2.out, HB2.out⟩
    case measure => simp [intOf]; omega
  · have hd : decide ((i : Int) < 400) = false := by simp; omega
    go_wp2
    go_ret
    obtain ⟨ad, cap, rfl, hr, _⟩ := HO.out.at intK_ok
    have hl := HL.out
    obtain rfl : i = 400 := by omega
    rw [hl] at hr
    rw [hl]
    exact ⟨ad, cap, zs, rfl, nums_of hr HA.out, HB.out⟩
/-- The five that the closed sentence adds. -/
def five (n : Nat) : List Dr := (List.range n).map fun (i : Nat) => ⟨(i : Int), (i : Int) * 3, (i : Int) * 3 + 5⟩
def fiveZ (n : Nat) : Int := if n = 0 then -1 else (n : Int) * 3 + 2
theorem five_is : five 5 = [⟨0, 0, 5⟩, ⟨1, 3, 8⟩, ⟨2, 6, 11⟩, ⟨3, 9, 14⟩, ⟨4, 12, 17⟩] := rfl
theorem five_ok : DrsOk (five 5) := by
 rw [five_is]
 refine ⟨fun d hd => ?_, by unfold AscL; simp⟩
 simp only [List.mem_cons, List.not_mem_nil, or_false] at hd
 unfold DrOk
 rcases hd with rfl | rfl | rfl | rfl | rfl <;> decide
theorem five_in : ∀ d ∈ five 5, DrIn d := five_ok.isIn (by
 rw [five_is]
 intro d hd
 simp only [List.mem_cons, List.not_mem_nil, or_false] at hd
 rcases hd with rfl | rfl | rfl | rfl | rfl <;> exact ⟨by decide, by decide⟩)
theorem five_len : (bytesA (five 5)).length ≤ 200 ∧ 8 ≤ (bytesA (five 5)).length := by
 have h1 := drsS_len five_in
 have h2 : (five 5).length = 5 := rfl
 have h3 := SnapMath.encN_len (n := ((five 5).length : Int)) (SnapMath.in_nat (by rw [h2]; omega))
 unfold bytesA bodyA
 rw [CrcMath.length_sealB, List.length_append]
 omega
theorem row_tail {w : World} {ad : Option Addr} {len cap : Nat} {bs : List Nat} (h : Byt w ad len cap bs) (hn : ad ≠ none) (h4 : 4 ≤ len) :
 ∃ ad' cap', (∀ V, (Instr.slice 38 (.slice ad len cap) (some (.int .i64 4)) none none).run Try.prog V = .ok (.slice ad' (len - 4) cap') V) ∧ RowAt byteK w ad' (len - 4) cap' (bs.drop 4) := by
 obtain ⟨ad', cap', h1, h2, _⟩ := row_from byteK_ok (row_bytes ⟨h, fun e => absurd e hn⟩) 4 h4
 exact ⟨ad', cap', h1, h2⟩
set_option maxRecDepth 100000 in
set_option maxHeartbeats 16000000 in
theorem abNumbers_any {R : (Nat → Prop) → World → Addr → List Dr → Prop} (C : AbCode R) (K : ∀ W, Calls Try.prog 15 #[] W (GivesBool W true)) (w : World) :
 Calls Try.prog 3 #[] w (GivesBool w true) := by
 have HC := Lib.hid C
 have HK := Lib.hid K
 clear C K
 go_enter Try.func3, Try.ntmps3
 go_wp2
 go_loopw [1] (fun v1 wr => ∃ k : Nat, v1 = .int .i64 (k : Int) ∧ k ≤ 40 ∧ Hid (Below w.heap.size w wr)) (fun v1 _ => 40 - (intOf v1).toNat)
 case atStart => exact ⟨0, rfl, by omega, Below.refl _ _⟩
 case round =>
  obtain ⟨k, rfl, hk, HB⟩ := hrel
  obtain ⟨wo, hwo⟩ : ∃ wo : World, wo = wr := ⟨_, rfl⟩
  subst hwo
  by_cases hlt : k < 40
  · have hd1 : decide ((k : Int) < 40) = true := decide_eq_true (by omega)
    have hd1n : decide (k < 40) = true := decide_eq_true hlt
    go_wp2_with fail
    refine (abTape_any wo k (by omega)).mono ?_
    rintro e w1 ⟨tad, tcap, zs, rfl, hnum, hb1⟩
    have HNUM := Lib.hid hnum.out
    have HB1 := Lib.hid (HB.out.trans (hb1.out.mono HB.out.size))
    clear hnum hb1 HB
    go_wp2_with fail
    refine (abRow_any w1 tad 400 tcap zs HNUM.out (by omega) 40 (by decide)).mono ?_
    rintro e w2 ⟨ad, len, cap, ms, rfl, hba, hok, hrd, hlen, hb2⟩
    have HBA := Lib.hid hba
    have HOK := Lib.hid hok
    have HRD := Lib.hid hrd
    have HB2 := Lib.hid (HB1.out.trans (hb2.mono HB1.out.size))
    clear hba hok hrd hb2 HB1 HNUM
    go_wp2_with fail
    refine (abRows_any HC.out w2 ad len cap ms HBA.out (by omega) HOK.out HRD.out).mono ?_
    rintro e w3 ⟨rfl, hb⟩
    have HB3 := Lib.hid (HB2.out.trans (hb.mono HB2.out.size))
    clear hb HBA HOK HRD HB2 hlen
    go_wp2_with fail
    go_loopw [2, 3] (fun v2 v3 wr => ∃ (i : Nat) (u : Value) (ls : List Ak), u = v2 ∧ v3 = .int .i64 (i : Int) ∧ i ≤ 30 ∧ Hid (OwnRow akK wr w3.heap.size u ls) ∧ Hid (ls.length = i) ∧ Hid (∀ x ∈ ls, In64 x.d.prod ∧ In64 x.n) ∧ Hid (Below w3.heap.size w3 wr)) (fun _ v3 _ => 30 - (intOf v3).toNat)
    case atStart => exact ⟨0, _, [], rfl, rfl, by omega, ownRow_nil _ _ _, rfl, (fun x hx => by cases hx), Below.refl _ _⟩
    case round =>
     obtain ⟨i, u, ls, rfl, rfl, hi, HO, HL, HI, HBI⟩ := hrel
     obtain ⟨wi, hwi⟩ : ∃ wi : World, wi = wr := ⟨_, rfl⟩
     subst hwi
     by_cases hi30 : i < 30
     · obtain ⟨iv, hiv⟩ : ∃ x : Int, (i : Int) = x := ⟨_, rfl⟩
       obtain ⟨kv, hkv⟩ : ∃ x : Int, (k : Int) = x := ⟨_, rfl⟩
       have hd2 : decide (iv < 30) = true := decide_eq_true (by omega)
       obtain ⟨q7, a1⟩ : ∃ q : Int, iv.tmod 7 = q := ⟨_, rfl⟩
       obtain ⟨q4, a3⟩ : ∃ q : Int, iv.tmod 4 = q := ⟨_, rfl⟩
       obtain ⟨q5, a5⟩ : ∃ q : Int, kv.tmod 5 = q := ⟨_, rfl⟩
       obtain ⟨pr, a7⟩ : ∃ q : Int, wrap64 (q4 - 1) = q := ⟨_, rfl⟩
       obtain ⟨la, a8⟩ : ∃ q : Int, wrap64 (iv + q5) = q := ⟨_, rfl⟩
       obtain ⟨ik, a10⟩ : ∃ q : Int, wrap64 (iv * kv) = q := ⟨_, rfl⟩
       obtain ⟨m19, a9⟩ : ∃ q : Int, ik.tmod 19 = q := ⟨_, rfl⟩
       have HPR : Hid (In64 pr) := by show In64 pr; rw [← a7]; exact wrap_in _
       have HIN : Hid (In64 iv) := by show In64 iv; rw [← hiv]; exact ⟨by omega, by omega⟩
       have HLB : Hid (ls.length + 1 ≤ 100000000000) := by show _ ≤ _; have := HL.out; omega
       have HI30 : Hid (i < 30) := hi30
       have HIV := Lib.hid hiv
       have HKV := Lib.hid hkv
       have HK40 : Hid (k < 40) := hlt
       rw [hiv, hkv]
       clear hiv hkv hi30 hi hlt hk hd1 hd1n
       obtain ⟨W6, hW6⟩ : ∃ y, y = wi.alloc (.cells #[.int .i64 q7, .int .i64 pr, .int .i64 m19, .int .i64 (la), .int .i64 iv] 31) := ⟨_, rfl⟩
       have hb6 : Below wi.heap.size wi W6 := by rw [hW6]; exact (Below.refl _ _).alloc (Nat.le_refl _) _
       have HLIT : Hid (RowAt akK W6 (some ⟨wi.heap.size, 0, none⟩) 1 1 [⟨q7, ⟨pr, m19, la⟩, iv⟩]) := by
        show RowAt _ _ _ _ _ _
        rw [hW6]
        exact rowAt_lit akK_ok wi [⟨q7, ⟨pr, m19, la⟩, iv⟩] (by simp) _ rfl 1 rfl
       have HO6 := Lib.hid (HO.out.on hb6)
       have HB6 := Lib.hid (HBI.out.trans (hb6.mono HBI.out.size))
       have HW6 := Lib.hid hW6
       clear hb6 hW6
       go_wp2_with (at_builtin; rw [← HW6.out]; refine list_row (by rfl) akK_ok (.tmp 22) (.tmp 39) rfl w3.heap.size ls [⟨q7, ⟨pr, m19, la⟩, iv⟩] u rfl HO6.out HB6.out.size (some ⟨wi.heap.size, 0, none⟩) 1 1 rfl HLIT.out HLB.out ?_)
       intro v7 w7 hap
       have HB7 : Hid (Below w3.heap.size w3 w7) := appended_below hap HO6.out HB6.out (Nat.le_refl _) HB6.out.size
       have HO7 : Hid (OwnRow akK w7 w3.heap.size v7 (ls ++ [⟨q7, ⟨pr, m19, la⟩, iv⟩])) := hap.1
       have HI7 : Hid (∀ x ∈ ls ++ [(⟨q7, ⟨pr, m19, la⟩, iv⟩ : Ak)], In64 x.d.prod ∧ In64 x.n) := fun x hx => by
        rcases List.mem_append.1 hx with hx | hx
        · exact HI.out x hx
        · rw [List.mem_singleton.1 hx]; exact ⟨HPR.out, HIN.out⟩
       have HL7 : Hid ((ls ++ [(⟨q7, ⟨pr, m19, la⟩, iv⟩ : Ak)]).length = i + 1) := by show _ = _; rw [List.length_append, HL.out]; rfl
       clear hap HO6 HB6 HLIT HW6 HO HI HL HBI a1 a3 a5 a7 a8 a9 a10
       go_wp2_with fail
       have hiv := HIV.out
       have hkv := HKV.out
       have hi1 : wrap64 ((i : Int) + 1) = ((i + 1 : Nat) : Int) := by have := HI30.out; unfold wrap64; omega
       subst hiv hkv
       rw [hi1]
       clear hi1 hd2
       go_roundw
       case rel => exact ⟨i + 1, v7, _, rfl, rfl, HI30.out, HO7.out, HL7.out, HI7.out, HB7.out⟩
       case measure => have := HI30.out; simp [intOf]; omega
     · have hd2 : decide ((i : Int) < 30) = false := decide_eq_false (by omega)
       have hd2n : decide (i < 30) = false := decide_eq_false hi30
       obtain ⟨lad, lcap, rfl, hr, _⟩ := OwnRow.row akK_ok HO.out HL.out
       have HR := Lib.hid hr
       have HB4 := Lib.hid (HB3.out.trans (HBI.out.mono HB3.out.size))
       clear hr HO HBI
       go_wp2_with fail
       refine (abPlay_any HC.out wi lad i lcap ls HR.out (by omega) HI.out _ _).mono ?_
       rintro e w5 ⟨rfl, hb⟩
       have HB5 := Lib.hid (HB4.out.trans (hb.mono HB4.out.size))
       clear hb HB4 HR HI
       go_wp2_with fail
       go_roundw
       case rel => exact ⟨k + 1, by go_num, by omega, HB5.out⟩
       case measure => simp [intOf]; omega
  · have hd1 : decide ((k : Int) < 40) = false := decide_eq_false (by omega)
    have hd1n : decide (k < 40) = false := decide_eq_false hlt
    clear hlt
    obtain ⟨W1, hW1⟩ : ∃ z, z = wo.alloc (.cells #[.slice none 0 0, .int .i64 (-1)] 36) := ⟨_, rfl⟩
    obtain ⟨kp, hkp⟩ : ∃ z, z = wo.heap.size := ⟨_, rfl⟩
    have hlb : LBox W1 kp (.slice none 0 0) (-1) := by rw [hW1, hkp]; exact lbox_new wo _ _
    have HLA : Hid (LAt wo.heap.size W1 kp (five 0) (fiveZ 0)) := ⟨none, 0, 0, hlb, rowAt_nil _, fun a ha => by cases ha⟩
    have HBW : Hid (Below wo.heap.size wo W1) := by show Below _ _ _; rw [hW1]; exact (Below.refl _ _).alloc (Nat.le_refl _) _
    have HKP : Hid (wo.heap.size ≤ kp) := by show _ ≤ kp; rw [hkp]; exact Nat.le_refl _
    clear hlb
    go_upto_region 14 with fail
    rw [← hW1, ← hkp]
    clear hW1 hkp
    go_wp2_with fail
    go_loopw [5] (fun v5 wr => ∃ n : Nat, v5 = .int .i64 (n : Int) ∧ n ≤ 5 ∧ Hid (LAt wo.heap.size wr kp (five n) (fiveZ n)) ∧ Hid (Below wo.heap.size wo wr)) (fun v5 _ => 5 - (intOf v5).toNat)
    case atStart => exact ⟨0, rfl, by omega, HLA.out, HBW.out⟩
    case round =>
     obtain ⟨n, rfl, hn, HLN, HBN⟩ := hrel
     clear HLA HBW
     obtain ⟨wn, hwn⟩ : ∃ z : World, z = wr := ⟨_, rfl⟩
     subst hwn
     by_cases hn5 : n < 5
     · have hd2 : decide ((n : Int) < 5) = true := decide_eq_true (by omega)
       have hd2n : decide (n < 5) = true := decide_eq_true hn5
       obtain ⟨b3, hb3⟩ : ∃ q : Nat, q = n * 3 := ⟨_, rfl⟩
       obtain ⟨b5, hb5⟩ : ∃ q : Nat, q = n * 3 + 5 := ⟨_, rfl⟩
       have y1 : wrap64 ((n : Int) * 3) = (b3 : Int) := by unfold wrap64; omega
       have y2 : (n : Int) * 3 = (b3 : Int) := by omega
       have y3 : wrap64 ((b3 : Int) + 5) = (b5 : Int) := by unfold wrap64; omega
       have y4 : (b3 : Int) + 5 = (b5 : Int) := by omega
       have HOKD : Hid (okD (fiveZ n) ⟨(n : Int), (b3 : Int), (b5 : Int)⟩) := by
        show okD _ _
        unfold okD DrOk fiveZ
        simp only
        refine ⟨⟨by omega, by omega, by omega, by omega⟩, ?_⟩
        split <;> omega
       have HF1 : Hid (five n ++ [⟨(n : Int), (b3 : Int), (b5 : Int)⟩] = five (n + 1)) := by
        show _ = _
        unfold five
        rw [List.range_succ, List.map_append]
        simp only [List.map_cons, List.map_nil]
        congr 3
        · omega
        · omega
       have HF2 : Hid ((b5 : Int) = fiveZ (n + 1)) := by show _ = _; unfold fiveZ; rw [if_neg (by omega)]; omega
       have HFL : Hid ((five n).length ≤ 1000000) := by show _ ≤ _; unfold five; rw [List.length_map, List.length_range]; omega
       clear hb3 hb5
       go_wp2_with fail
       refine (lAdd_any wo.heap.size wn kp (five n) (fiveZ n) ⟨(n : Int), (b3 : Int), (b5 : Int)⟩ HLN.out HFL.out HBN.out.size).mono ?_
       rintro e w5 ⟨rfl, hla, hg⟩
       rw [if_pos HOKD.out, if_pos HOKD.out, HF1.out, show (⟨(n : Int), (b3 : Int), (b5 : Int)⟩ : Dr).last = fiveZ (n + 1) from HF2.out] at hla
       have HLN5 := Lib.hid hla
       have HBN5 := Lib.hid (HBN.out.trans (below_grown hg HKP.out HBN.out.size))
       clear hla hg HLN HBN HOKD HF1 HF2 HFL y1 y2 y3 y4
       go_wp2_with fail
       go_roundw
       case rel => exact ⟨n + 1, by go_num, by omega, HLN5.out, HBN5.out⟩
       case measure => simp [intOf]; omega
     · have hd2 : decide ((n : Int) < 5) = false := decide_eq_false (by omega)
       have hd2n : decide (n < 5) = false := decide_eq_false hn5
       have hn55 : n = 5 := by omega
       have HLN5 : Hid (LAt wo.heap.size wn kp (five 5) (fiveZ 5)) := by have h1 := HLN.out; rw [hn55] at h1; exact h1
       clear HLN hn55 hn5 hn
       go_wp2_with fail
       refine (lBytes_any wo.heap.size wn kp (five 5) (fiveZ 5) HLN5.out five_in (by decide)).mono ?_
       rintro e w6 ⟨v, rfl, g, cg, rfl, hcg, hg, hpre, hb⟩
       have hallB : CrcMath.AllB (bodyA (five 5)) := bodyA_all five_in (by decide)
       have hall : CrcMath.AllB (bytesA (five 5)) := CrcMath.sealB_all hallB
       have hbd : (bytesA (five 5)).drop 4 = bodyA (five 5) := CrcMath.drop_sealB _
       have hfl := five_len
       obtain ⟨bs, hbs⟩ : ∃ bs, bs = bytesA (five 5) := ⟨_, rfl⟩
       rw [← hbs] at hpre hcg hall hfl hbd ⊢
       obtain ⟨B, hBB⟩ : ∃ B, B = bodyA (five 5) := ⟨_, rfl⟩
       rw [← hBB] at hallB hbd
       obtain ⟨L, hL⟩ : ∃ L, bs.length = L := ⟨_, rfl⟩
       have hBL : B.length = L - 4 := by rw [← hbd, List.length_drop, hL]
       rw [hL] at hcg hfl ⊢
       have hy : Byt w6 (some ⟨g, 0, none⟩) L cg bs := by
        have h1 := hpre.byt hall cg (by rw [hL]; exact hcg)
        rw [hL] at h1
        exact h1
       have HY := Lib.hid hy
       have HALL : Hid (CrcMath.AllB bs) := hall
       have HALB : Hid (CrcMath.AllB B) := hallB
       have HBL := Lib.hid hBL
       have HBD := Lib.hid hbd
       have HLL := Lib.hid hL
       have HCG : Hid (L ≤ cg) := hcg
       have HB6 := Lib.hid (HB.out.trans ((HBN.out.trans (hb.mono HBN.out.size)).mono HB.out.size))
       obtain ⟨hsz, h8⟩ := hfl
       clear hpre hcg hg hbs hall hallB hbd hL hBL hy hBB hb HLN5 HBN HB
       go_wp2_with fail
       go_loopw [7] (fun v7 wr => ∃ i : Nat, v7 = .int .i64 (i : Int) ∧ i ≤ L ∧ Hid (Below w6.heap.size w6 wr)) (fun v7 _ => L - (intOf v7).toNat)
       case atStart => exact ⟨0, rfl, Nat.zero_le _, Below.refl _ _⟩
       case round =>
        obtain ⟨i, rfl, hi, HBI⟩ := hrel
        obtain ⟨wi, hwi⟩ : ∃ wi : World, wi = wr := ⟨_, rfl⟩
        subst hwi
        by_cases hiL : i < L
        · have hd3 : decide (i < L) = true := decide_eq_true hiL
          have hd3i : decide ((i : Int) < (L : Int)) = true := decide_eq_true (by omega)
          have HYI := Lib.hid (HY.out.keep HBI.out (Nat.le_refl _))
          obtain ⟨fa, fc, hsf, hfr⟩ := row_tail HYI.out (fun e => by cases e) (by omega)
          rw [HBD.out] at hfr
          have HFR := Lib.hid hfr
          have hsl := run_upto (some ⟨g, 0, none⟩) L cg i (Nat.le_trans hi HCG.out)
          have HU1 : Hid (Byt wi (some ⟨g, 0, none⟩) i cg (bs.take i)) := byt_upto HYI.out i hi
          have HU1L : Hid ((bs.take i).length ≤ 1048600) := by show _ ≤ _; rw [List.length_take]; omega
          obtain ⟨W4, hW4⟩ : ∃ z, z = wi.alloc (.cells #[] 5) := ⟨_, rfl⟩
          have hb4 : Below wi.heap.size wi W4 := by rw [hW4]; exact (Below.refl _ _).alloc (Nat.le_refl _) _
          have HLIT : Hid (OwnRow byteK W4 wi.heap.size (.slice (some ⟨wi.heap.size, 0, none⟩) 0 0) []) := by
           show OwnRow _ _ _ _ _
           rw [hW4]
           exact ownRow_lit byteK_ok wi _ [] (Nat.le_refl _) (by decide) _ rfl 0 rfl
          have HFR4 := Lib.hid (HFR.out.keep hb4)
          have HBS4 : Hid (wi.heap.size ≤ W4.heap.size) := hb4.size
          have HW4 := Lib.hid hW4
          have HBW4 := Lib.hid hb4
          have HL4 : Hid (([] : List Nat).length + (L - 4) ≤ 100000000000) := by show _ ≤ _; simp only [List.length_nil]; omega
          clear hb4 hW4 hfr
          go_wp2_with (at_builtin; rw [← HW4.out]; refine list_row (by rfl) byteK_ok (.tmp 70) (.tmp 72) rfl wi.heap.size [] B _ rfl HLIT.out HBS4.out fa (L - 4) fc rfl HFR4.out HL4.out ?_)
          intro v5 w7 hap
          (try rw [List.nil_append] at hap)
          obtain ⟨N, hN⟩ : ∃ N, N = L - 4 := ⟨_, rfl⟩
          have hNs : N ≤ 1048596 := by omega
          have HBN : Hid (B.length = N) := by show _ = _; rw [hN]; exact HBL.out
          obtain ⟨gx, cx, cur, rfl, _, hgx, _⟩ := OwnRow.block hap.1 HBN.out (by omega)
          have HO5 : Hid (w7.ownsRow wi.heap.size 5 1 (.slice (some ⟨gx, 0, none⟩) N cx) N (vals B)) := by
           have h1 := own_bytes.1 hap.1
           rw [HBN.out] at h1
           exact h1
          have HB7 : Hid (Below wi.heap.size wi w7) := appended_below hap HLIT.out HBW4.out (Nat.le_refl _) HBS4.out
          have HGX : Hid (wi.heap.size ≤ gx) := hgx
          clear hap hgx HLIT HFR HFR4 HBS4 HW4 HBW4 hN hsf
          by_cases hin : i < N
          · have hd5 : decide (i < N) = true := decide_eq_true hin
            have hd5i : decide ((i : Int) < (N : Int)) = true := decide_eq_true (by omega)
            have hi0 : (0 : Int) ≤ (i : Int) := by omega
            have hi1 : (i : Int) < (N : Int) := by omega
            have c0 := (pre_owns HO5.out).1.cell i (by rw [HBN.out]; exact hin)
            have f0 := (pre_owns HO5.out).1.free i
            obtain ⟨b8, hb8⟩ : ∃ b8 : Nat, B.getD i 0 = b8 := ⟨_, rfl⟩
            rw [hb8] at c0
            obtain ⟨z, hz8, hz⟩ := xor_some (b8 : Int) 2
            clear hb8
            go_upto_region 25 with fail
            clear c0 f0 hi0 hi1
            obtain ⟨B', hB'⟩ : ∃ B', B' = B.set i z := ⟨_, rfl⟩
            have HAB' : Hid (CrcMath.AllB B') := by show CrcMath.AllB _; rw [hB']; exact all_set HALB.out i z hz8
            have hBl' : B'.length = N := by rw [hB', List.length_set]; exact HBN.out
            obtain ⟨wq, hwq⟩ : ∃ w3, w3 = w7.setCell ⟨gx, i, none⟩ (.int .u8 (z : Int)) := ⟨_, rfl⟩
            have HO6 : Hid (wq.ownsRow wi.heap.size 5 1 (.slice (some ⟨gx, 0, none⟩) N cx) N (vals B')) := by show World.ownsRow _ _ _ _ _ _ _; rw [hwq, hB']; exact own_turned HO5.out rfl
            have HBq : Hid (Below wi.heap.size wi wq) := by show Below _ _ _; rw [hwq]; exact HB7.out.setCell HGX.out _
            rw [← hwq]
            clear hwq hB' hz8 hz
            have HBl' := Lib.hid hBl'
            have HXR : Hid (Byt wq (some ⟨gx, 0, none⟩) N cx B') := by
             have h1 := own_bytes.2 (show wq.ownsRow wi.heap.size 5 1 (.slice (some ⟨gx, 0, none⟩) N cx) B'.length (vals B') by rw [hBl']; exact HO6.out)
             obtain ⟨a9, c9, e9, hr9⟩ := own_byt h1 HAB'.out hBl'
             cases e9
             exact hr9.1
            have HU1q : Hid (Byt wq (some ⟨g, 0, none⟩) i cg (bs.take i)) := HU1.out.keep HBq.out (Nat.le_refl _)
            have HBIq := Lib.hid (HBI.out.trans (HBq.out.mono HBI.out.size))
            clear hBl' HO5 HO6 HB7 HGX HBN HBq HBI HU1 HYI
            go_wp2_with fail
            refine (HC.out.reads wq _ i cg _ HU1q.out HU1L.out).mono ?_
            rintro e wa ⟨rfl, hb⟩
            have HXRa := Lib.hid (HXR.out.keep hb (Nat.le_refl _))
            have HBIa := Lib.hid (HBIq.out.trans (hb.mono HBIq.out.size))
            clear hb HXR HU1q HU1L HBIq hsl
            go_wp2_with fail
            refine (sealed_any wa _ N cx B' HXRa.out (fun e => by cases e) (by omega)).mono ?_
            rintro e wb ⟨v, rfl, g1, c1, rfl, hc1, hg1, hpre, hb⟩
            have HYb : Hid (Byt wb (some ⟨g1, 0, none⟩) (CrcMath.sealB B').length c1 (CrcMath.sealB B')) := hpre.byt (CrcMath.sealB_all HAB'.out) c1 hc1
            have HLE : Hid ((CrcMath.sealB B').length ≤ 1048600) := by show _ ≤ _; rw [CrcMath.length_sealB, HBl'.out]; omega
            have HBIb := Lib.hid (HBIa.out.trans (hb.mono HBIa.out.size))
            obtain ⟨Q, hQ⟩ : ∃ Q, Q = CrcMath.sealB B' := ⟨_, rfl⟩
            rw [← hQ] at HYb HLE ⊢
            obtain ⟨q, hq⟩ : ∃ q, q = Q.length := ⟨_, rfl⟩
            rw [← hq] at HYb ⊢
            clear hpre hc1 hg1 hb HXRa HBIa hQ hq
            go_wp2_with fail
            refine (HC.out.reads wb _ q c1 Q HYb.out HLE.out).mono ?_
            rintro e wc ⟨rfl, hb⟩
            have HBIc := Lib.hid (HBIb.out.trans (hb.mono HBIb.out.size))
            clear hb HYb HLE HBIb
            go_wp2_with fail
            go_roundw
            case rel => exact ⟨i + 1, by go_num, by omega, HBIc.out⟩
            case measure => simp [intOf]; omega
          · have hd5 : decide (i < N) = false := decide_eq_false hin
            have hd5i : decide ((i : Int) < (N : Int)) = false := decide_eq_false (by omega)
            obtain ⟨B', hB'⟩ : ∃ B', B' = B := ⟨_, rfl⟩
            have HAB' : Hid (CrcMath.AllB B') := by show CrcMath.AllB _; rw [hB']; exact HALB.out
            have hBl' : B'.length = N := by rw [hB']; exact HBN.out
            obtain ⟨wq, hwq⟩ : ∃ w3, w3 = w7 := ⟨_, rfl⟩
            have HO6 : Hid (wq.ownsRow wi.heap.size 5 1 (.slice (some ⟨gx, 0, none⟩) N cx) N (vals B')) := by show World.ownsRow _ _ _ _ _ _ _; rw [hwq, hB']; exact HO5.out
            have HBq : Hid (Below wi.heap.size wi wq) := by show Below _ _ _; rw [hwq]; exact HB7.out
            rw [← hwq]
            clear hwq hB'
            have HBl' := Lib.hid hBl'
            have HXR : Hid (Byt wq (some ⟨gx, 0, none⟩) N cx B') := by
             have h1 := own_bytes.2 (show wq.ownsRow wi.heap.size 5 1 (.slice (some ⟨gx, 0, none⟩) N cx) B'.length (vals B') by rw [hBl']; exact HO6.out)
             obtain ⟨a9, c9, e9, hr9⟩ := own_byt h1 HAB'.out hBl'
             cases e9
             exact hr9.1
            have HU1q : Hid (Byt wq (some ⟨g, 0, none⟩) i cg (bs.take i)) := HU1.out.keep HBq.out (Nat.le_refl _)
            have HBIq := Lib.hid (HBI.out.trans (HBq.out.mono HBI.out.size))
            clear hBl' HO5 HO6 HB7 HGX HBN HBq HBI HU1 HYI
            go_wp2_with fail
            refine (HC.out.reads wq _ i cg _ HU1q.out HU1L.out).mono ?_
            rintro e wa ⟨rfl, hb⟩
            have HXRa := Lib.hid (HXR.out.keep hb (Nat.le_refl _))
            have HBIa := Lib.hid (HBIq.out.trans (hb.mono HBIq.out.size))
            clear hb HXR HU1q HU1L HBIq hsl
            go_wp2_with fail
            refine (sealed_any wa _ N cx B' HXRa.out (fun e => by cases e) (by omega)).mono ?_
            rintro e wb ⟨v, rfl, g1, c1, rfl, hc1, hg1, hpre, hb⟩
            have HYb : Hid (Byt wb (some ⟨g1, 0, none⟩) (CrcMath.sealB B').length c1 (CrcMath.sealB B')) := hpre.byt (CrcMath.sealB_all HAB'.out) c1 hc1
            have HLE : Hid ((CrcMath.sealB B').length ≤ 1048600) := by show _ ≤ _; rw [CrcMath.length_sealB, HBl'.out]; omega
            have HBIb := Lib.hid (HBIa.out.trans (hb.mono HBIa.out.size))
            obtain ⟨Q, hQ⟩ : ∃ Q, Q = CrcMath.sealB B' := ⟨_, rfl⟩
            rw [← hQ] at HYb HLE ⊢
            obtain ⟨q, hq⟩ : ∃ q, q = Q.length := ⟨_, rfl⟩
            rw [← hq] at HYb ⊢
            clear hpre hc1 hg1 hb HXRa HBIa hQ hq
            go_wp2_with fail
            refine (HC.out.reads wb _ q c1 Q HYb.out HLE.out).mono ?_
            rintro e wc ⟨rfl, hb⟩
            have HBIc := Lib.hid (HBIb.out.trans (hb.mono HBIb.out.size))
            clear hb HYb HLE HBIb
            go_wp2_with fail
            go_roundw
            case rel => exact ⟨i + 1, by go_num, by omega, HBIc.out⟩
            case measure => simp [intOf]; omega
        · have hd3 : decide (i < L) = false := decide_eq_false hiL
          have hd3i : decide ((i : Int) < (L : Int)) = false := decide_eq_false (by omega)
          have HBE := Lib.hid (HB6.out.trans (HBI.out.mono HB6.out.size))
          clear hiL HBI HY HB6
          go_wp2_with fail
          refine (abRows_any HC.out wi none 0 0 [] ⟨rowAt_nil _, fun m hm => by cases hm⟩ (by decide) (fun b hb => by cases hb) RowD.nil).mono ?_
          rintro e wa ⟨rfl, hb⟩
          have HBa := Lib.hid (HBE.out.trans (hb.mono HBE.out.size))
          clear hb HBE
          go_wp2_with fail
          refine (HK.out wa).mono ?_
          rintro e wb ⟨rfl, hb⟩
          have HBb := Lib.hid (HBa.out.trans (hb.mono HBa.out.size))
          clear hb HBa
          go_wp2_with fail
          go_ret
          exact ⟨rfl, HBb.out⟩
end Go.Proofs.Ytbejincejbnbaaa
