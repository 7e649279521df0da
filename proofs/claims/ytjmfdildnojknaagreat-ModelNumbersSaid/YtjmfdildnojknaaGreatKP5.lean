/- Parts of a proof. -/
import Derived.Test.YtjmfdildnojknaaGreatKP4
set_option maxRecDepth 100000
set_option maxHeartbeats 16000000
set_option linter.unusedVariables false
namespace Go.Proofs.YtjmfdildnojknaaGreat
open Go.RowKit
open Go.SeqMath
open Go.BatMath
theorem batOffset_any (n : Int) (w : World) (r : Bool) (hr : (decide (0 ≤ n) && decide (n ≤ 1099511627776)) = r) :
 Calls Tryz.prog 75 #[.int .i64 n] w fun e w' => e = .returned (.bool r) ∧ w = w' := by
 by_cases h0 : 0 ≤ n
 rotate_left
 · obtain rfl : r = false := by rw [← hr]; simp [h0]
   have h0' : n < 0 := by omega
   clear hr
   go_enter Tryz.func75, Tryz.ntmps75
   go_wp2
   go_ret
   exact ⟨rfl, rfl⟩
 by_cases h1 : n ≤ 1099511627776
 · obtain rfl : r = true := by rw [← hr]; simp [h0, h1]
   clear hr
   go_enter Tryz.func75, Tryz.ntmps75
   go_wp2
   go_ret
   exact ⟨rfl, rfl⟩
 obtain rfl : r = false := by rw [← hr]; simp [h1]
 have h1' : 1099511627776 < n := by omega
 clear hr
 go_enter Tryz.func75, Tryz.ntmps75
 go_wp2
 go_ret
 exact ⟨rfl, rfl⟩
theorem batOwned_any (w : World) (b0 b1 b2 b3 : Int) (b4 : Bool) (b5 : Int) (v : Value) (r : Bool) (hr : (decide (0 ≤ b1) && (decide (0 ≤ b2) && decide (b2 ≤ 32767))) = r) :
 Calls Tryz.prog 108 #[.agg #[.int .i64 b0, .int .i64 b1, .int .i64 b2, .int .i64 b3, .bool b4, .int .i64 b5, v]] w fun e w' => e = .returned (.bool r) ∧ Below w.heap.size w w' := by
 by_cases h0 : 0 ≤ b1
 rotate_left
 · obtain rfl : r = false := by rw [← hr]; simp [h0]
   have h0' : b1 < 0 := by omega
   clear hr
   go_enter Tryz.func108, Tryz.ntmps108
   go_wp2
   go_ret
   exact ⟨rfl, (bal _ _)⟩
 by_cases h1 : 0 ≤ b2
 · by_cases h2 : b2 ≤ 32767
   · obtain rfl : r = true := by rw [← hr]; simp [h0, h1, h2]
     clear hr
     go_enter Tryz.func108, Tryz.ntmps108
     go_wp2
     go_ret
     exact ⟨rfl, (bal _ _)⟩
   obtain rfl : r = false := by rw [← hr]; simp [h2]
   have h2' : 32767 < b2 := by omega
   clear hr
   go_enter Tryz.func108, Tryz.ntmps108
   go_wp2
   go_ret
   exact ⟨rfl, (bal _ _)⟩
 obtain rfl : r = false := by rw [← hr]; simp [h1]
 have h1' : b2 < 0 := by omega
 clear hr
 go_enter Tryz.func108, Tryz.ntmps108
 go_wp2
 go_ret
 exact ⟨rfl, (bal _ _)⟩
theorem batUnowned_any (w : World) (b0 b1 b2 b3 : Int) (b4 : Bool) (b5 : Int) (v : Value) (r : Bool) (hr : (decide (b1 = -1) && (decide (b2 = -1) && (decide (b3 = -1) && !b4))) = r) :
 Calls Tryz.prog 107 #[.agg #[.int .i64 b0, .int .i64 b1, .int .i64 b2, .int .i64 b3, .bool b4, .int .i64 b5, v]] w fun e w' => e = .returned (.bool r) ∧ Below w.heap.size w w' := by
 cases h1 : (b1 == -1)
 · obtain rfl : r = false := by rw [← hr]; have : ¬ b1 = -1 := by simpa using h1
                                simp [this]
   clear hr
   go_enter Tryz.func107, Tryz.ntmps107
   go_wp2
   go_ret
   exact ⟨rfl, (bal _ _)⟩
 cases h2 : (b2 == -1)
 · obtain rfl : r = false := by rw [← hr]; have : ¬ b2 = -1 := by simpa using h2
                                simp [this]
   clear hr
   go_enter Tryz.func107, Tryz.ntmps107
   go_wp2
   go_ret
   exact ⟨rfl, (bal _ _)⟩
 cases h3 : (b3 == -1)
 · obtain rfl : r = false := by rw [← hr]; have : ¬ b3 = -1 := by simpa using h3
                                simp [this]
   clear hr
   go_enter Tryz.func107, Tryz.ntmps107
   go_wp2
   go_ret
   exact ⟨rfl, (bal _ _)⟩
 have q1 : b1 = -1 := by simpa using h1
 have q2 : b2 = -1 := by simpa using h2
 have q3 : b3 = -1 := by simpa using h3
 cases b4
 · obtain rfl : r = true := by rw [← hr]; simp [q1, q2, q3]
   clear hr q1 q2 q3
   go_enter Tryz.func107, Tryz.ntmps107
   go_wp2
   go_ret
   exact ⟨rfl, (bal _ _)⟩
 obtain rfl : r = false := by rw [← hr]; simp
 clear hr q1 q2 q3
 go_enter Tryz.func107, Tryz.ntmps107
 go_wp2
 go_ret
 exact ⟨rfl, (bal _ _)⟩
def rmE (b : Bat) : Int := if (b.marker = 1 ∨ b.marker = 2) ∧ headB b = true ∧ b.seq = -1 ∧ b.txn = true ∧ b.recs = [] then 0 else 12
theorem rm_no {b : Bat} (h : ¬ ((b.marker = 1 ∨ b.marker = 2) ∧ headB b = true ∧ b.seq = -1 ∧ b.txn = true ∧ b.recs = [])) : rmE b = 12 := by unfold rmE; rw [if_neg h]
theorem rm_yes {b : Bat} (h : (b.marker = 1 ∨ b.marker = 2) ∧ headB b = true ∧ b.seq = -1 ∧ b.txn = true ∧ b.recs = []) : rmE b = 0 := by unfold rmE; rw [if_pos h]
theorem rightMarker_any (w : World) (b : Bat) (ad : Option Addr) (len cap : Nat) (hl : b.recs.length = len) :
 Calls Tryz.prog 77 #[.agg #[.int .i64 b.base, .int .i64 b.prod, .int .i64 b.epoch, .int .i64 b.seq, .bool b.txn, .int .i64 b.marker, .slice ad len cap]] w (Says (rmE b) w) := by
 have hne : (b.recs = []) = (len = 0) := by rw [← hl]; exact propext List.length_eq_zero_iff.symm
 have e12 := @rm_no b
 have e0 := @rm_yes b
 rw [hne] at e12 e0
 have hh : (decide (0 ≤ b.prod) && (decide (0 ≤ b.epoch) && decide (b.epoch ≤ 32767))) = headB b := rfl
 obtain ⟨hd, hdd⟩ := exq (headB b)
 obtain ⟨ev, hev⟩ := exq (rmE b)
 rw [← hev] at e12 e0 ⊢
 rw [← hdd] at e12 e0 hh
 clear hev hdd hne hl
 obtain ⟨base, prod, epoch, seq, txn, marker, recs⟩ := b
 simp only at e12 e0 hh ⊢
 have HH := qh hh
 have E12 := qh e12
 have E0 := qh e0
 clear hh e12 e0
 by_cases hm : marker = 1 ∨ marker = 2
 rotate_left
 · have hm1 : (marker != 1) = true := by simp; omega
   have hm2 : (marker != 2) = true := by simp; omega
   have HM := qh hm
   clear hm
   go_enter Tryz.func77, Tryz.ntmps77
   go_wp2
   go_ret
   exact says_mk (E12.out (by rintro ⟨h, _⟩; exact HM.out h)).symm (bal _ _)
 cases hd
 · rcases hm with rfl | rfl
   all_goals
    go_enter Tryz.func77, Tryz.ntmps77
    go_wp2_with (go_at_call 108; refine (batOwned_any _ _ _ _ _ _ _ _ false HH.out).mono ?_; rintro e w1 ⟨rfl, hb⟩; obtain ⟨hc, hf⟩ := bcell hb; have HB := qh hb; clear hb)
    go_ret
    exact says_mk (E12.out (by rintro ⟨_, h, _⟩; cases h)).symm ((bal _ _).trans (HB.out.mono (by simp)))
 cases h3 : (seq == -1)
 · have h3' : ¬ seq = -1 := by simpa using h3
   have h3n : (seq != -1) = true := by simpa using h3
   have H3 := qh h3'
   clear h3'
   rcases hm with rfl | rfl
   all_goals
    go_enter Tryz.func77, Tryz.ntmps77
    go_wp2_with (go_at_call 108; refine (batOwned_any _ _ _ _ _ _ _ _ true HH.out).mono ?_; rintro e w1 ⟨rfl, hb⟩; obtain ⟨hc, hf⟩ := bcell hb; have HB := qh hb; clear hb)
    go_ret
    exact says_mk (E12.out (by rintro ⟨_, _, h, _⟩; exact H3.out h)).symm ((bal _ _).trans (HB.out.mono (by simp)))
 have h3' : seq = -1 := by simpa using h3
 have h3n : (seq != -1) = false := by simpa using h3
 have H3 := qh h3'
 clear h3'
 cases txn
 · rcases hm with rfl | rfl
   all_goals
    go_enter Tryz.func77, Tryz.ntmps77
    go_wp2_with (go_at_call 108; refine (batOwned_any _ _ _ _ _ _ _ _ true HH.out).mono ?_; rintro e w1 ⟨rfl, hb⟩; obtain ⟨hc, hf⟩ := bcell hb; have HB := qh hb; clear hb)
    go_ret
    exact says_mk (E12.out (by rintro ⟨_, _, _, h, _⟩; cases h)).symm ((bal _ _).trans (HB.out.mono (by simp)))
 by_cases hl : 0 < len
 · rcases hm with rfl | rfl
   all_goals
    go_enter Tryz.func77, Tryz.ntmps77
    go_wp2_with (go_at_call 108; refine (batOwned_any _ _ _ _ _ _ _ _ true HH.out).mono ?_; rintro e w1 ⟨rfl, hb⟩; obtain ⟨hc, hf⟩ := bcell hb; have HB := qh hb; clear hb)
    go_ret
    exact says_mk (E12.out (by rintro ⟨_, _, _, _, h⟩; omega)).symm ((bal _ _).trans (HB.out.mono (by simp)))
 obtain rfl : len = 0 := by omega
 clear hl
 rcases hm with rfl | rfl
 all_goals
  go_enter Tryz.func77, Tryz.ntmps77
  go_wp2_with (go_at_call 108; refine (batOwned_any _ _ _ _ _ _ _ _ true HH.out).mono ?_; rintro e w1 ⟨rfl, hb⟩; obtain ⟨hc, hf⟩ := bcell hb; have HB := qh hb; clear hb)
  go_ret
  exact says_mk (E0.out ⟨by decide, trivial, H3.out, trivial, trivial⟩).symm ((bal _ _).trans (HB.out.mono (by simp)))
noncomputable def rdE (b : Bat) : Int :=
 if (noneB b = true ∨ headB b = true ∧ rightB b.seq = true) ∧ b.recs ≠ [] then
  open Classical in if 16 < b.recs.length ∨ ∃ r ∈ b.recs, longRec r then 13 else 0
 else 12
theorem rd_none {b : Bat} (h : ¬ ((noneB b = true ∨ headB b = true ∧ rightB b.seq = true) ∧ b.recs ≠ [])) : rdE b = 12 := by unfold rdE; rw [if_neg h]
theorem rd_long {b : Bat} (h : (noneB b = true ∨ headB b = true ∧ rightB b.seq = true) ∧ b.recs ≠ []) (hl : 16 < b.recs.length ∨ ∃ r ∈ b.recs, longRec r) : rdE b = 13 := by unfold rdE; rw [if_pos h, if_pos hl]
theorem rd_fine {b : Bat} (h : (noneB b = true ∨ headB b = true ∧ rightB b.seq = true) ∧ b.recs ≠ []) (hl : ¬ (16 < b.recs.length ∨ ∃ r ∈ b.recs, longRec r)) : rdE b = 0 := by unfold rdE; rw [if_pos h, if_neg hl]
theorem rightData_any (w : World) (b : Bat) (ad : Option Addr) (len cap : Nat) (hr : RecsAt w ad len cap b.recs) (ht : TextsOk b.recs) (hL : len ≤ 140737488355328) :
 Calls Tryz.prog 76 #[.agg #[.int .i64 b.base, .int .i64 b.prod, .int .i64 b.epoch, .int .i64 b.seq, .bool b.txn, .int .i64 b.marker, .slice ad len cap]] w (Says (rdE b) w) := by
 have hne : (b.recs ≠ []) = (0 < b.recs.length) := propext List.length_pos_iff.symm
 have e12 := @rd_none b
 have e13 := @rd_long b
 have e0 := @rd_fine b
 rw [hne] at e12 e13 e0
 obtain ⟨ev, hev⟩ := exq (rdE b)
 rw [← hev] at e12 e13 e0 ⊢
 have hh : (decide (0 ≤ b.prod) && (decide (0 ≤ b.epoch) && decide (b.epoch ≤ 32767))) = headB b := rfl
 have hnn : (decide (b.prod = -1) && (decide (b.epoch = -1) && (decide (b.seq = -1) && !b.txn))) = noneB b := rfl
 obtain ⟨hd, hdd⟩ := exq (headB b)
 obtain ⟨nn, hnd⟩ := exq (noneB b)
 rw [← hdd] at e12 e13 e0 hh
 rw [← hnd] at e12 e13 e0 hnn
 clear hev hdd hnd hne
 obtain ⟨base, prod, epoch, seq, txn, marker, recs⟩ := b
 simp only at e12 e13 e0 hh hr ht hnn ⊢
 obtain ⟨rt, hrt⟩ : ∃ rt, rightB seq = rt := ⟨_, rfl⟩
 rw [hrt] at e12 e13 e0
 have hlen := hr.length
 rw [hlen] at e12 e13 e0
 have HH := qh hh
 have HRT := qh hrt
 have HN := qh hnn
 have E12 := qh e12
 have E13 := qh e13
 have E0 := qh e0
 have HR := qh hr
 have HT := qh ht
 have HLEN := qh hlen
 clear hh hrt hnn e12 e13 e0 hr ht hlen
 go_enter Tryz.func76, Tryz.ntmps76
 go_upto_region 1 with fail
 go_cut [17] from 5 (fun s17 wx => s17 = .bool (!(nn || (hd && rt))) ∧ Hid (BoxAt wx w.heap.size base prod epoch seq txn marker (.slice ad len cap)) ∧ Hid (Below w.heap.size w wx))
 case first =>
  have HB0 : Hid (Below w.heap.size w (w.alloc (.cells #[.int .i64 base, .int .i64 prod, .int .i64 epoch, .int .i64 seq, .bool txn, .int .i64 marker, .slice ad len cap] 29))) := (bal _ _)
  have HX0 := qh (boxAt_new w base prod epoch seq txn marker (.slice ad len cap))
  cases nn
  rotate_left
  · go_wp2_with (first | (go_at_call 107; refine (batUnowned_any _ _ _ _ _ _ _ _ true HN.out).mono ?_; rintro e w1 ⟨rfl, hb⟩; have HB1 := qh (HB0.out.trans (hb.mono HB0.out.size)); have HX1 := qh (HX0.out.on hb); clear hb))
    go_meet
    case rel => exact ⟨by simp, HX1, HB1⟩
  cases hd
  · go_wp2_with (first | (go_at_call 107; refine (batUnowned_any _ _ _ _ _ _ _ _ false HN.out).mono ?_; rintro e w1 ⟨rfl, hb⟩; have HB1 := qh (HB0.out.trans (hb.mono HB0.out.size)); have HX1 := qh (HX0.out.on hb); clear hb; have hc0 := HX1.out.c0; have hc1 := HX1.out.c1; have hc2 := HX1.out.c2; have hc3 := HX1.out.c3; have hc4 := HX1.out.c4; have hc5 := HX1.out.c5; have hc6 := HX1.out.c6) | (go_at_call 108; refine (batOwned_any _ _ _ _ _ _ _ _ false HH.out).mono ?_; rintro e w2 ⟨rfl, hb⟩; have HB2 := qh (HB1.out.trans (hb.mono HB1.out.size)); have HX2 := qh (HX1.out.on hb); clear hb))
    go_meet
    case rel => exact ⟨by simp, HX2, HB2⟩
  cases rt
  all_goals
   go_wp2_with (first | (go_at_call 107; refine (batUnowned_any _ _ _ _ _ _ _ _ false HN.out).mono ?_; rintro e w1 ⟨rfl, hb⟩; have HB1 := qh (HB0.out.trans (hb.mono HB0.out.size)); have HX1 := qh (HX0.out.on hb); clear hb; have hc0 := HX1.out.c0; have hc1 := HX1.out.c1; have hc2 := HX1.out.c2; have hc3 := HX1.out.c3; have hc4 := HX1.out.c4; have hc5 := HX1.out.c5; have hc6 := HX1.out.c6) | (go_at_call 108; refine (batOwned_any _ _ _ _ _ _ _ _ true HH.out).mono ?_; rintro e w2 ⟨rfl, hb⟩; have HB2 := qh (HB1.out.trans (hb.mono HB1.out.size)); have HX2 := qh (HX1.out.on hb); clear hb hc0 hc1 hc2 hc3 hc4 hc5 hc6; have hc3 := HX2.out.c3) | (go_at_call 109; refine (seq_right _ _ _ HRT.out).mono ?_; rintro e w' ⟨rfl, rfl⟩))
   go_meet
   case rel => exact ⟨by simp, HX2, HB2⟩
 case rest =>
  obtain ⟨rfl, HBX, HBW⟩ := hcut
  obtain ⟨cnd, hcn⟩ : ∃ cnd, cnd = (nn || (hd && rt)) := ⟨_, rfl⟩
  rw [← hcn]
  cases cnd
  · have HC := qh hcn.symm
    clear hcn
    go_wp2
    go_ret
    refine says_mk (E12.out ?_).symm HBW.out
    rintro ⟨q1, q2⟩
    have hx := HC.out
    rcases q1 with q1 | ⟨q1, q3⟩
    · rw [q1] at hx; simp at hx
    rw [q1, q3] at hx; simp at hx
  have hcn2 : nn = true ∨ hd = true ∧ rt = true := by simpa using hcn.symm
  have HC0 := qh hcn2
  clear hcn hcn2
  have hc6 := HBX.out.c6
  by_cases hlen : len = 0
  · subst hlen
    go_wp2
    go_ret
    exact says_mk (E12.out (by rintro ⟨_, h⟩; omega)).symm HBW.out
  have hl0 : ((len : Int) == 0) = false := by simp; omega
  have HC : Hid ((nn = true ∨ hd = true ∧ rt = true) ∧ 0 < len) := ⟨HC0.out, by omega⟩
  by_cases h16 : 16 < len
  · go_wp2
    go_ret
    exact says_mk (E13.out HC.out (.inl h16)).symm HBW.out
  have h16' : len ≤ 16 := by omega
  go_wp2_with fail
  go_loopw [29] (fun v29 wr => PlainAt w recs v29 wr) (fun v29 _ => len - (intOf v29).toNat)
  case atStart => exact plainAt_start w _ recs HBW.out
  obtain ⟨j, hj, rfl, hno, hbel⟩ := hrel
  have HNO := qh hno
  have HBEL := qh hbel
  rw [HLEN.out] at hj
  clear hno hbel
  by_cases hlt : j < len
  rotate_left
  · obtain rfl : j = len := by omega
    go_wp2
    go_ret
    refine says_mk (E0.out HC.out ?_).symm HBEL.out
    rintro (h | h)
    · omega
    exact not_long (by rw [HLEN.out]; exact HNO.out) h
  obtain ⟨r, hrj⟩ : ∃ r, recs[j]? = some r := by
   have hjl : j < recs.length := by rw [HLEN.out]; exact hlt
   exact ⟨_, List.getElem?_eq_getElem hjl⟩
  obtain ⟨bk, off, rfl, hbk, hcell⟩ : ∃ bk off, ad = some ⟨bk, off, none⟩ ∧ bk < w.heap.size ∧ ∀ i r, recs[i]? = some r → wr.cell? ⟨bk, off + i * 2, none⟩ = some (.string r.key) ∧ wr.cell? ⟨bk, off + i * 2 + 1, none⟩ = some (.string r.val) := by
   rcases HR.out.cells with h | ⟨bk, off, e, hlt, hc⟩
   · omega
   exact ⟨bk, off, e, hlt, fun i r hi => ⟨(HBEL.out.cell (p := ⟨bk, _, none⟩) hlt).trans (hc i r hi).1, (HBEL.out.cell (p := ⟨bk, _, none⟩) hlt).trans (hc i r hi).2⟩⟩
  obtain ⟨hk, hv⟩ := hcell j r hrj
  obtain ⟨hs1, hs2⟩ := HT.out r (List.mem_of_getElem? hrj)
  obtain ⟨ks, vs⟩ := r
  simp only at hk hv hs1 hs2
  have HRJ := qh hrj
  have HMEM : Hid ((⟨ks, vs⟩ : Rc) ∈ recs) := List.mem_of_getElem? hrj
  clear hcell hrj
  by_cases hk64 : 64 < ks.size
  · go_wp2
    go_ret
    exact says_mk (E13.out HC.out (.inr ⟨⟨ks, vs⟩, HMEM.out, .inl hk64⟩)).symm (HBEL.out.alloc HBEL.out.size _)
  have hk64' : ks.size ≤ 64 := by omega
  by_cases hv64 : 64 < vs.size
  · go_wp2
    go_ret
    exact says_mk (E13.out HC.out (.inr ⟨⟨ks, vs⟩, HMEM.out, .inr hv64⟩)).symm (HBEL.out.alloc HBEL.out.size _)
  have hv64' : vs.size ≤ 64 := by omega
  have HNO2 : Hid (∀ i r, i < j + 1 → recs[i]? = some r → ¬ longRec r) := by
   intro i r hi hir
   by_cases e : i = j
   · subst e
     rw [HRJ.out] at hir
     cases hir
     rintro (h | h)
     · exact hk64 h
     exact hv64 h
   exact HNO.out i r (by omega) hir
  have HLE : Hid (j + 1 ≤ recs.length) := by show _ ≤ _; rw [HLEN.out]; exact hlt
  go_wp2
  go_roundw
  case rel => (repeat apply Exists.intro); exact ⟨⟨j + 1, HLE.out, by go_num, HNO2.out, HBEL.out.alloc HBEL.out.size _⟩, rfl⟩
  simp [intOf]; omega
end Go.Proofs.YtjmfdildnojknaaGreat
namespace Go.Proofs.YtjmfdildnojknaaGreat
open Go.RowKit
open Go.SeqMath
open Go.BatMath hiding AllB getD_lt take_all
open Go.VarMath (longB length_longB textB beB length_beB beB_take)
theorem record_any (w : World) (ks vs : ByteArray) (h1 : ks.size ≤ 4096) (h2 : vs.size ≤ 4096) :
 Calls Tryz.prog 110 #[.agg #[.string ks, .string vs]] w (GivesRow w (recB ⟨ks, vs⟩)) := by
 have l1 := BatMath.text_len (s := bl ks) (by rw [bl_len]; omega)
 have l2 := BatMath.text_len (s := bl vs) (by rw [bl_len]; omega)
 rw [bl_len] at l1 l2
 obtain ⟨n1, hn1⟩ : ∃ n1, n1 = (textB (bl ks)).length := ⟨_, rfl⟩
 obtain ⟨n2, hn2⟩ : ∃ n2, n2 = (textB (bl vs)).length := ⟨_, rfl⟩
 rw [← hn1] at l1
 rw [← hn2] at l2
 have HN1 : Hid (([] ++ textB (bl ks)).length = n1) := by show _ = _; rw [List.nil_append, hn1]
 have HN2 : Hid ((([] ++ textB (bl ks)) ++ textB (bl vs)).length = n1 + n2) := by show _ = _; rw [List.length_append, HN1.out, hn2]
 have HA1 : Hid (AllB ([] ++ textB (bl ks))) := by rw [List.nil_append]; exact text_all (bl_all _) (by rw [bl_len]; omega)
 clear hn1 hn2
 obtain ⟨wx, hwx⟩ := exq (w.alloc (.cells #[.string ks, .string vs] 84))
 have hd0 : wx.cell? ⟨w.heap.size, 0, none⟩ = some (.string ks) := by rw [hwx, World.cell?, heap_alloc_new]; rfl
 have hd1 : wx.cell? ⟨w.heap.size, 1, none⟩ = some (.string vs) := by rw [hwx, World.cell?, heap_alloc_new]; rfl
 have HWX := qh hwx
 have HBX := hwq hwx
 have CT : Hid (∀ W, Below wx.heap.size wx W → Calls Tryz.prog 138 #[.slice none 0 0, .string ks] W (GivesRow W ([] ++ textB (bl ks)))) := by
  intro W hW
  exact text_any W none 0 0 [] ks ⟨Byt.nil W, fun _ => rfl⟩ (by omega)
 clear hwx
 go_enter Tryz.func110, Tryz.ntmps110
 go_upto_region 1 with fail
 rw [← HWX.out]
 go_region_held3 (fun W => Below wx.heap.size wx W ∧ W.cell? ⟨w.heap.size, 0, none⟩ = some (.string ks) ∧ W.cell? ⟨w.heap.size, 1, none⟩ = some (.string vs)) (first | exact keep_two hb6.out hd0 hd1 | exact keep_two hb5.out hd0 hd1 | exact keep_two ((Below.refl _ wx).drew) hd0 hd1) (first | (go_at_call 138; refine (text_any _ _ _ _ _ vs (owns_row ho5.out HA1.out) (by omega)).mono ?_; rintro e w6 hg; obtain ⟨g6, k6, rfl, ho6, hb6, hbb6⟩ := gives_on (w := wx) (n := n1 + n2) hg hb5.out HN2.out) | (go_at_call 138; refine (CT.out _ ?_).mono ?_; exact (And.left ‹Below wx.heap.size wx _ ∧ _›); rintro e w5 hg; obtain ⟨g5, k5, rfl, ho5, hb5, hbb5⟩ := gives_on (w := wx) (n := n1) hg (And.left ‹Below wx.heap.size wx _ ∧ _›) HN1.out))
 go_wp2
 go_ret
 exact gives_row (by rw [recB, ← HN2.out]; rfl) (by rw [recB]; exact owns_low ho6.out HBX.out.size) (HBX.out.trans (hb6.out.mono HBX.out.size))
def LenAt (w : World) (l : List Rc) (v3 v9 : Value) (wr : World) : Prop := ∃ j : Nat, j ≤ l.length ∧ v9 = .int .i64 j ∧ v3 = .int .i64 ((36 + (recsB (l.take j)).length : Nat) : Int) ∧ Below w.heap.size w wr
theorem lenAt_start {w W : World} {l : List Rc} (h : Below w.heap.size w W) : LenAt w l (.int .i64 36) (.int .i64 0) W := ⟨0, Nat.zero_le _, rfl, by simp [recsB], h⟩
theorem length_any (w : World) (b : Bat) (ad : Option Addr) (len cap : Nat) (hr : RecsAt w ad len cap b.recs) (ht : ∀ r ∈ b.recs, r.key.size ≤ 64 ∧ r.val.size ≤ 64) (hL : len ≤ 255) :
 Calls Tryz.prog 78 #[.agg #[.int .i64 b.base, .int .i64 b.prod, .int .i64 b.epoch, .int .i64 b.seq, .bool b.txn, .int .i64 b.marker, .slice ad len cap]] w (Says ((bytesB b).length : Int) w) := by
 have hbl := bytes_len b
 have hlr := hr.length
 have HR := qh hr
 have HT := qh ht
 have HLR := qh hlr
 have HBL := qh hbl
 clear hr ht hlr hbl
 obtain ⟨N, hN⟩ : ∃ N, N = (bytesB b).length := ⟨_, rfl⟩
 rw [← hN] at HBL ⊢
 clear hN
 obtain ⟨base, prod, epoch, seq, txn, marker, recs⟩ := b
 simp only at HR HT HLR HBL ⊢
 have HX := qh (boxAt_new w base prod epoch seq txn marker (.slice ad len cap))
 have HB : Hid (Below w.heap.size w (w.alloc (.cells #[.int .i64 base, .int .i64 prod, .int .i64 epoch, .int .i64 seq, .bool txn, .int .i64 marker, .slice ad len cap] 29))) := (bal _ _)
 go_enter Tryz.func78, Tryz.ntmps78
 go_wp2_with fail
 go_loopw [3, 9] (fun v3 v9 wr => LenAt w recs v3 v9 wr) (fun _ v9 _ => len - (intOf v9).toNat)
 case atStart => exact lenAt_start HB.out
 obtain ⟨j, hj, rfl, rfl, hbel⟩ := hrel
 have HBEL := qh hbel
 clear hbel
 rw [HLR.out] at hj
 have hsm : (recsB (recs.take j)).length ≤ 37740 := by
  have h1 := (recs_len (take_texts HT.out j)).2
  have h2 : (recs.take j).length ≤ 255 := by rw [List.length_take]; have := HLR.out; omega
  omega
 obtain ⟨m, hm⟩ : ∃ m, m = 36 + (recsB (recs.take j)).length := ⟨_, rfl⟩
 rw [← hm]
 have hm1 : m ≤ 40000 := by omega
 clear hsm
 by_cases hlt : j < len
 rotate_left
 · obtain rfl : j = len := by omega
   have hrl : recs.take j = recs := by rw [List.take_of_length_le (by rw [HLR.out]; exact Nat.le_refl _)]
   have HMN : Hid (m = N) := by show _ = _; rw [hm, HBL.out, hrl]
   clear hrl hm
   go_wp2
   go_ret
   exact says_mk (by rw [HMN.out]) HBEL.out
 obtain ⟨r, hrj⟩ : ∃ r, recs[j]? = some r := by
  have hjl : j < recs.length := by rw [HLR.out]; exact hlt
  exact ⟨_, List.getElem?_eq_getElem hjl⟩
 obtain ⟨bk, off, rfl, hbk, hcell⟩ : ∃ bk off, ad = some ⟨bk, off, none⟩ ∧ bk < w.heap.size ∧ ∀ i r, recs[i]? = some r → wr.cell? ⟨bk, off + i * 2, none⟩ = some (.string r.key) ∧ wr.cell? ⟨bk, off + i * 2 + 1, none⟩ = some (.string r.val) := by
  rcases HR.out.cells with h | ⟨bk, off, e, hlt, hc⟩
  · omega
  exact ⟨bk, off, e, hlt, fun i r hi => ⟨(HBEL.out.cell (p := ⟨bk, _, none⟩) hlt).trans (hc i r hi).1, (HBEL.out.cell (p := ⟨bk, _, none⟩) hlt).trans (hc i r hi).2⟩⟩
 obtain ⟨hk, hv⟩ := hcell j r hrj
 obtain ⟨hs1, hs2⟩ := HT.out r (List.mem_of_getElem? hrj)
 have hsn := take_recs hrj
 have hrl := rec_len ⟨hs1, hs2⟩
 obtain ⟨q, hq⟩ : ∃ q, q = (recB r).length := ⟨_, rfl⟩
 have HM2 : Hid (36 + (recsB (recs.take (j + 1))).length = m + q) := by show _ = _; rw [hsn, List.length_append, hq, hm]; omega
 rw [← hq] at hrl
 have HQ := qh hq
 obtain ⟨ks, vs⟩ := r
 simp only at hk hv hs1 hs2
 have HLE : Hid (j + 1 ≤ recs.length) := by show _ ≤ _; rw [HLR.out]; exact hlt
 have HBA : Hid (Below w.heap.size w (wr.alloc (.cells #[.string ks, .string vs] 84))) := HBEL.out.alloc HBEL.out.size _
 clear hcell hrj hsn hq hm
 go_wp2_with fail
 refine (record_any _ ks vs (by omega) (by omega)).mono ?_
 rintro e w2 hg
 obtain ⟨g2, c2, rfl, _, hb2, _⟩ := gives_on hg HBA.out HQ.out.symm
 clear hg
 go_wp2
 go_roundw
 case rel => exact ⟨j + 1, HLE.out, by go_num, by rw [HM2.out]; go_num, hb2.out⟩
 simp [intOf]; omega
theorem batCount_any (w : World) (b0 b1 b2 b3 : Int) (b4 : Bool) (b5 : Int) (ad : Option Addr) (len cap : Nat) (n : Int) (hn : (if b5 ≠ 0 then 1 else (len : Int)) = n) :
 Calls Tryz.prog 70 #[.agg #[.int .i64 b0, .int .i64 b1, .int .i64 b2, .int .i64 b3, .bool b4, .int .i64 b5, .slice ad len cap]] w (Says n w) := by
 by_cases h : b5 = 0
 · subst h
   obtain rfl : (len : Int) = n := by rw [← hn, if_neg (by decide)]
   clear hn
   go_enter Tryz.func70, Tryz.ntmps70
   go_wp2
   go_ret
   exact says_mk rfl (bal _ _)
 have h1 : (b5 != 0) = true := by simpa using h
 obtain rfl : 1 = n := by rw [← hn, if_pos h]
 clear hn
 go_enter Tryz.func70, Tryz.ntmps70
 go_wp2
 go_ret
 exact says_mk rfl (bal _ _)
theorem right_low {b : Bat} (h : ¬ (0 ≤ b.base ∧ b.base ≤ 1099511627776)) : rightE b = 18 := by
 unfold rightE; rw [if_pos (by omega)]
theorem right_rd {b : Bat} (h : 0 ≤ b.base ∧ b.base ≤ 1099511627776) (hm : b.marker = 0) : rightE b = rdE b := by
 unfold rightE rdE; rw [if_neg (by omega), if_neg (by simpa using hm)]
theorem right_rm {b : Bat} (h : 0 ≤ b.base ∧ b.base ≤ 1099511627776) (hm : b.marker ≠ 0) : rightE b = rmE b := by
 unfold rightE rmE; rw [if_neg (by omega), if_pos hm]
theorem batRight_any (w : World) (b : Bat) (ad : Option Addr) (len cap : Nat) (hr : RecsAt w ad len cap b.recs) (ht : TextsOk b.recs) (hL : len ≤ 140737488355328) :
 Calls Tryz.prog 45 #[.agg #[.int .i64 b.base, .int .i64 b.prod, .int .i64 b.epoch, .int .i64 b.seq, .bool b.txn, .int .i64 b.marker, .slice ad len cap]] w (Says (rightE b) w) := by
 have e18 := @right_low b
 have eD := @right_rd b
 have eM := @right_rm b
 have hlr := hr.length
 have CD : Hid (∀ W, Below w.heap.size w W → Calls Tryz.prog 76 #[.agg #[.int .i64 b.base, .int .i64 b.prod, .int .i64 b.epoch, .int .i64 b.seq, .bool b.txn, .int .i64 b.marker, .slice ad len cap]] W (Says (rdE b) W)) := fun W hW => rightData_any W b ad len cap (hr.keep hW) ht hL
 have CM : Hid (∀ W, Below w.heap.size w W → Calls Tryz.prog 77 #[.agg #[.int .i64 b.base, .int .i64 b.prod, .int .i64 b.epoch, .int .i64 b.seq, .bool b.txn, .int .i64 b.marker, .slice ad len cap]] W (Says (rmE b) W)) := fun W hW => rightMarker_any W b ad len cap hlr
 have CL : Hid (rightE b = 0 → ∀ W, Below w.heap.size w W → Calls Tryz.prog 78 #[.agg #[.int .i64 b.base, .int .i64 b.prod, .int .i64 b.epoch, .int .i64 b.seq, .bool b.txn, .int .i64 b.marker, .slice ad len cap]] W (Says ((bytesB b).length : Int) W)) := by
  intro h W hW
  have ho := ok_of h
  exact length_any W b ad len cap (hr.keep hW) ho.texts (by have := ho.recs; omega)
 have HLE : Hid (rightE b = 0 → (bytesB b).length ≤ 4096) := by
  intro h
  have := (ok_len (ok_of h)).1
  omega
 obtain ⟨N, hN⟩ : ∃ N, N = (bytesB b).length := ⟨_, rfl⟩
 rw [← hN] at CL HLE
 obtain ⟨ev, hev⟩ := exq (rightE b)
 rw [← hev] at e18 eD eM CL HLE ⊢
 obtain ⟨dv, hdv⟩ := exq (rdE b)
 rw [← hdv] at eD CD
 obtain ⟨mv, hmv⟩ := exq (rmE b)
 rw [← hmv] at eM CM
 clear hev hdv hmv hN hr ht hL hlr
 obtain ⟨base, prod, epoch, seq, txn, marker, recs⟩ := b
 simp only at CD CM CL e18 eD eM ⊢
 obtain ⟨W0, hW0⟩ : ∃ W0, W0 = (w.alloc (.cells #[.int .i64 base, .int .i64 prod, .int .i64 epoch, .int .i64 seq, .bool txn, .int .i64 marker, .slice ad len cap] 29)) := ⟨_, rfl⟩
 have HX := qh (show BoxAt W0 w.heap.size base prod epoch seq txn marker (.slice ad len cap) by rw [hW0]; exact boxAt_new w _ _ _ _ _ _ _)
 have HB := qh (show Below w.heap.size w W0 by rw [hW0]; exact (bal _ _))
 have HW0 := qh hW0
 clear hW0
 have E18 := qh e18
 have ED := qh eD
 have EM := qh eM
 clear e18 eD eM
 go_enter Tryz.func45, Tryz.ntmps45
 go_wp2_with fail
 rw [← HW0.out]
 by_cases hb0 : 0 ≤ base ∧ base ≤ 1099511627776
 rotate_left
 · refine (batOffset_any base _ false (by
    rcases Classical.em (0 ≤ base) with h | h
    · have : ¬ base ≤ 1099511627776 := fun h2 => hb0 ⟨h, h2⟩
      simp [this]
    simp [h])).mono ?_
   rintro e w' ⟨rfl, rfl⟩
   have H18 := qh (E18.out hb0)
   clear hb0
   go_wp2
   go_ret
   exact says_mk H18.out.symm HB.out
 refine (batOffset_any base _ true (by simp [hb0])).mono ?_
 rintro e w' ⟨rfl, rfl⟩
 have hc0 := HX.out.c0
 have hc1 := HX.out.c1
 have hc2 := HX.out.c2
 have hc3 := HX.out.c3
 have hc4 := HX.out.c4
 have hc5 := HX.out.c5
 have hc6 := HX.out.c6
 go_wp2_with fail
 refine (CD.out W0 HB.out).mono ?_
 rintro e w1 ⟨rfl, hb⟩
 have HX1 := qh (HX.out.on hb)
 have HB1 := qh (HB.out.trans (hb.mono HB.out.size))
 clear hb hc0 hc1 hc2 hc3 hc4 hc5 hc6
 have hc0 := HX1.out.c0
 have hc1 := HX1.out.c1
 have hc2 := HX1.out.c2
 have hc3 := HX1.out.c3
 have hc4 := HX1.out.c4
 have hc5 := HX1.out.c5
 have hc6 := HX1.out.c6
 have hlt1 := HX1.out.lt
 have hfz : ∀ j, w1.frozen? ⟨w.heap.size, j, none⟩ = false := HX1.out.free
 by_cases hm : marker = 0
 · have hm1 : (marker != 0) = false := by simpa using hm
   obtain rfl : ev = dv := ED.out hb0 hm
   have HM := qh hm
   clear hm
   by_cases h0 : ev = 0
   rotate_left
   · have h1 : (ev != 0) = true := by simpa using h0
     go_wp2
     go_ret
     exact says_mk rfl HB1.out
   have h1 : (ev != 0) = false := by simpa using h0
   have H0 := qh h0
   have hN4 := HLE.out h0
   clear h0
   go_wp2_with fail
   refine (CL.out H0.out w1 HB1.out).mono ?_
   rintro e w2 ⟨rfl, hb⟩
   have HB2 := qh (HB1.out.trans (hb.mono HB1.out.size))
   clear hb hc0 hc1 hc2 hc3 hc4 hc5 hc6
   go_wp2
   go_ret
   exact says_mk H0.out.symm HB2.out
 have hm1 : (marker != 0) = true := by simpa using hm
 obtain rfl : ev = mv := EM.out hb0 hm
 have HM := qh hm
 clear hm
 go_wp2_with fail
 refine (CM.out w1 HB1.out).mono ?_
 rintro e w2 ⟨rfl, hb⟩
 have HX2 := qh (HX1.out.on hb)
 have HB2 := qh (HB1.out.trans (hb.mono HB1.out.size))
 clear hb hc0 hc1 hc2 hc3 hc4 hc5 hc6
 have hc0 := HX2.out.c0
 have hc1 := HX2.out.c1
 have hc2 := HX2.out.c2
 have hc3 := HX2.out.c3
 have hc4 := HX2.out.c4
 have hc5 := HX2.out.c5
 have hc6 := HX2.out.c6
 by_cases h0 : ev = 0
 rotate_left
 · have h1 : (ev != 0) = true := by simpa using h0
   go_wp2
   go_ret
   exact says_mk rfl HB2.out
 have h1 : (ev != 0) = false := by simpa using h0
 have H0 := qh h0
 have hN4 := HLE.out h0
 clear h0
 go_wp2_with fail
 refine (CL.out H0.out w2 HB2.out).mono ?_
 rintro e w3 ⟨rfl, hb⟩
 have HB3 := qh (HB2.out.trans (hb.mono HB2.out.size))
 clear hb hc0 hc1 hc2 hc3 hc4 hc5 hc6
 go_wp2
 go_ret
 exact says_mk H0.out.symm HB3.out
theorem batSize_any (w : World) (b : Bat) (ad : Option Addr) (len cap : Nat) (hr : RecsAt w ad len cap b.recs) (ht : TextsOk b.recs) (hL : len ≤ 140737488355328) :
 Calls Tryz.prog 69 #[.agg #[.int .i64 b.base, .int .i64 b.prod, .int .i64 b.epoch, .int .i64 b.seq, .bool b.txn, .int .i64 b.marker, .slice ad len cap]] w (Says (sizeB b) w) := by
 have CP : Hid (∀ W, Below w.heap.size w W → Calls Tryz.prog 45 #[.agg #[.int .i64 b.base, .int .i64 b.prod, .int .i64 b.epoch, .int .i64 b.seq, .bool b.txn, .int .i64 b.marker, .slice ad len cap]] W (Says (rightE b) W)) := fun W hW => batRight_any W b ad len cap (hr.keep hW) ht hL
 have CL : Hid (rightE b = 0 → ∀ W, Below w.heap.size w W → Calls Tryz.prog 78 #[.agg #[.int .i64 b.base, .int .i64 b.prod, .int .i64 b.epoch, .int .i64 b.seq, .bool b.txn, .int .i64 b.marker, .slice ad len cap]] W (Says ((bytesB b).length : Int) W)) := by
  intro h W hW
  have ho := ok_of h
  have hlr := hr.length
  exact length_any W b ad len cap (hr.keep hW) ho.texts (by have := ho.recs; omega)
 have HY : Hid (rightE b = 0 → ((bytesB b).length : Int) = sizeB b) := fun h => by unfold sizeB; rw [if_pos h]
 have HN : Hid (rightE b ≠ 0 → 0 = sizeB b) := fun h => by unfold sizeB; rw [if_neg h]
 obtain ⟨P, hP⟩ := exq (sizeB b)
 rw [← hP] at HY HN ⊢
 obtain ⟨ev, hev⟩ := exq (rightE b)
 rw [← hev] at HY HN CP CL
 obtain ⟨N, hN⟩ : ∃ N, N = (bytesB b).length := ⟨_, rfl⟩
 rw [← hN] at HY CL
 clear hev hP hr ht hN hL
 obtain ⟨base, prod, epoch, seq, txn, marker, recs⟩ := b
 simp only at CP CL ⊢
 obtain ⟨W0, hW0⟩ : ∃ W0, W0 = (w.alloc (.cells #[.int .i64 base, .int .i64 prod, .int .i64 epoch, .int .i64 seq, .bool txn, .int .i64 marker, .slice ad len cap] 29)) := ⟨_, rfl⟩
 have HX := qh (show BoxAt W0 w.heap.size base prod epoch seq txn marker (.slice ad len cap) by rw [hW0]; exact boxAt_new w _ _ _ _ _ _ _)
 have HB := qh (show Below w.heap.size w W0 by rw [hW0]; exact (bal _ _))
 have HW0 := qh hW0
 clear hW0
 go_enter Tryz.func69, Tryz.ntmps69
 go_wp2_with fail
 rw [← HW0.out]
 refine (CP.out W0 HB.out).mono ?_
 rintro e w1 ⟨rfl, hb⟩
 have HX1 := qh (HX.out.on hb)
 have HB1 := qh (HB.out.trans (hb.mono HB.out.size))
 clear hb
 by_cases h0 : ev = 0
 rotate_left
 · have h1 : (ev != 0) = true := by simpa using h0
   have H0 := qh h0
   clear h0
   go_wp2
   go_ret
   exact says_mk (HN.out H0.out) HB1.out
 have h1 : (ev != 0) = false := by simpa using h0
 have H0 := qh h0
 clear h0
 have hc0 := HX1.out.c0
 have hc1 := HX1.out.c1
 have hc2 := HX1.out.c2
 have hc3 := HX1.out.c3
 have hc4 := HX1.out.c4
 have hc5 := HX1.out.c5
 have hc6 := HX1.out.c6
 go_wp2_with fail
 refine (CL.out H0.out w1 HB1.out).mono ?_
 rintro e w2 ⟨rfl, hb⟩
 have HB2 := qh (HB1.out.trans (hb.mono HB1.out.size))
 clear hb hc0 hc1 hc2 hc3 hc4 hc5 hc6
 go_wp2
 go_ret
 exact says_mk (HY.out H0.out) HB2.out
end Go.Proofs.YtjmfdildnojknaaGreat
namespace Go.Proofs.YtjmfdildnojknaaGreat
open Go.RowKit
open Go.SeqMath
open Go.BatMath hiding AllB getD_lt take_all
open Go.VarMath (longB length_longB textB beB length_beB)
end Go.Proofs.YtjmfdildnojknaaGreat
namespace Go.Proofs.YtjmfdildnojknaaGreat
open Go.RowKit
open Go.SeqMath
open Go.BatMath hiding AllB getD_lt take_all
open Go.VarMath (longB length_longB textB beB length_beB)
open Go.CrcMath (sealB)
end Go.Proofs.YtjmfdildnojknaaGreat
namespace Go.Proofs.YtjmfdildnojknaaGreat
open Go.RowKit
open Go.SeqMath
open Go.BatMath
end Go.Proofs.YtjmfdildnojknaaGreat
namespace Go.Proofs.YtjmfdildnojknaaGreat
open Go.RowKit Go.CrcMath
theorem unseal_short (w : World) (ad : Option Addr) (len cap : Nat) (bs : List Nat) (h : Byt w ad len cap bs) (h4 : len < 4) :
 Calls Tryz.prog 125 #[.slice ad len cap] w fun e w' => e = .returned (.tuple #[.slice none 0 0, .bool false]) ∧ ∃ n, w' = w.drewN n := by
 have hd : decide ((len : Int) < 4) = true := by simp; omega
 go_enter Tryz.func125, Tryz.ntmps125
 go_wp2
 go_quiet (fail)
 go_wp2
 go_ret2
 exact ⟨rfl, _, rfl⟩
theorem unseal_long (w : World) (ad : Option Addr) (len cap : Nat) (bs : List Nat) (h : Byt w ad len cap bs) (h4 : 4 ≤ len) (hL : len ≤ 140737488355300) :
 Calls Tryz.prog 125 #[.slice ad len cap] w fun e w' => (okB bs = false → e = .returned (.tuple #[.slice none 0 0, .bool false]) ∧ Below w.heap.size w w') ∧
  (okB bs = true → ∃ v, e = .returned (.tuple #[v, .bool true]) ∧ Made w (bs.drop 4) v w') := by
 obtain ⟨i0, hi, hz0, hz1, hz2⟩ := info_parts info5
 have hBs := h
 obtain ⟨b, off, x0, x1, x2, x3, r, rfl, hbs, l0, l1, l2, l3, hr, c0, c1, c2, c3, hB⟩ := h.four h4
 have hd : decide ((len : Int) < 4) = false := by simp; omega
 obtain ⟨o4, ho4⟩ : ∃ o4, o4 = if cap = 4 then off else off + 4 := ⟨_, rfl⟩
 rw [← ho4] at hB
 have hsl := run_from4 b off len cap o4 h4 ho4
 obtain ⟨s1, hs1⟩ := exq (str (sealB r))
 obtain ⟨s2, hs2⟩ := exq (str bs)
 have K7 : ∀ W, Below w.heap.size w W → Calls Tryz.prog 115 #[.slice (some ⟨b, o4, none⟩) (len - 4) (cap - 4)] W fun e w' => ∃ g cp, e = .returned (.slice (some ⟨g, 0, none⟩) len cp) ∧ Hid (Below w.heap.size w w') ∧
  (convert 30 9 (.slice (some ⟨g, 0, none⟩) len cp)).run Tryz.prog w' = .ok (.string s1) w' ∧ (convert 30 9 (.slice (some ⟨b, off, none⟩) len cap)).run Tryz.prog w' = .ok (.string s2) w' := by
  intro W hW
  refine (sealed_some W ⟨b, o4, none⟩ (len - 4) (cap - 4) r (hB.keep hW (Nat.le_refl _)) (by omega)).mono ?_
  rintro e w' ⟨v, rfl, g, cp, rfl, hcp, hg, hp, hb⟩
  have hl : (sealB r).length = len := by rw [length_sealB]; omega
  have hb2 : Below w.heap.size w w' := hW.trans (hb.mono hW.size)
  rw [hl] at hcp ⊢
  refine ⟨g, cp, rfl, hb2, run_str_at ?_ hs1, run_str_at (hBs.keep hb2 (Nat.le_refl _)) hs2⟩
  have := hp.byt (sealB_all hB.all) cp (by omega)
  rw [hl] at this
  exact this
 have HK := qh K7
 have hcv0 : (convert 30 9 (.slice (some ⟨b, off, none⟩) len cap)).run Tryz.prog w = .ok (.string s2) w := run_str_at hBs hs2
 have hcv1 : (convert 30 9 (.slice (some ⟨b, off, none⟩) len cap)).run Tryz.prog w.drew = .ok (.string s2) w.drew := run_str_at (hBs.keep ((Below.refl _ _).drew) (Nat.le_refl _)) hs2
 have HB := qh hB
 have HR := qh hr
 have HBs := qh hBs
 have H1 := qh hs1
 have H2 := qh hs2
 clear hB hBs ho4 h hs1 hs2 K7 c0 c1 c2 c3 hr
 cases hok : okB bs
 · have hne : (s1.toList == s2.toList) = false := by
    have h1 : sealB r ≠ bs := fun e => by
     have h3 := (sealB_drop (bs := bs) (by rw [HBs.out.length]; exact h4) HBs.out.all).1 (by rw [hbs]; rw [hbs] at e; exact e)
     rw [hok] at h3; cases h3
    have := str_differ (sealB_all HB.out.all) HBs.out.all h1
    rw [← H1.out, ← H2.out] at this
    exact this
   clear hok hbs
   go_enter Tryz.func125, Tryz.ntmps125
   go_wp2
   go_region_with (go_at_call 115; refine (HK.out _ ?_).mono ?_; exact (Below.refl _ _).drew; rintro e w1 ⟨g, cp, rfl, hb1, hca, hcb⟩)
   all_goals
    go_wp2
    go_ret2
    exact ⟨fun _ => ⟨rfl, hb1.out⟩, fun h => by cases h⟩
 have heq : (s1.toList == s2.toList) = true := by
  have h1 : sealB r = bs := by
   have h3 := (sealB_drop (bs := bs) (by rw [HBs.out.length]; exact h4) HBs.out.all).2 hok
   rw [hbs] at h3 ⊢; exact h3
  rw [H1.out, H2.out, h1, str_same]
 have hdr : Hid (bs.drop 4 = r) := by show _ = _; rw [hbs]; rfl
 clear hok hbs
 go_enter Tryz.func125, Tryz.ntmps125
 go_wp2
 go_region_with (go_at_call 115; refine (HK.out _ ?_).mono ?_; exact (Below.refl _ _).drew; rintro e w1 ⟨g, cp, rfl, hb1, hca, hcb⟩)
 all_goals
  have hb2 : Below w.heap.size w (w1.alloc (.cells #[] 5)) := hb1.out.alloc hb1.out.size _
  have HB2 := qh hb2
  have HO : Hid ((w1.alloc (.cells #[] 5)).ownsRow w.heap.size 5 1 (.slice (some ⟨w1.heap.size, 0, none⟩) 0 0) 0 []) := World.ownsRow_lit (e := 5) (size := 1) w1 #[] 0 hb1.out.size (by decide) rfl
  clear hb2
  go_wp2_with (at_builtin; refine wpList_append_own _ rfl (.tmp 16) (.tmp 18) 30 rfl w.heap.size 5 i0 (.int .u8 0) 1 1 Tryz.underlying30 hi hz0 hz1 hz2 rfl (by decide) _ 0 [] rfl HO.out ⟨b, o4, none⟩ (len - 4) (cap - 4) (vals r) rfl (by rw [length_vals, HR.out]; simp) (news_of (HB.out.keep HB2.out (Nat.le_refl _))) (vals_one r) (by unfold maxLen; omega) (by omega) HB2.out.size ?_)
  intro v' w2 hown' hgrow hnn
  have R : Hid (Made w (bs.drop 4) v' w2) := by
   show Made _ _ _ _
   rw [hdr.out]
   refine made_some (by simpa [HR.out] using hown') hnn (HB2.out.grown hgrow HB2.out.size (by intro k hk; simp [Value.ownBlock] at hk; have := hb1.out.size; omega))
  clear hown' hgrow hnn
  go_wp2
  go_ret2
  exact ⟨(fun h => by cases h), fun _ => ⟨v', rfl, R.out⟩⟩
end Go.Proofs.YtjmfdildnojknaaGreat
namespace Go.Proofs.YtjmfdildnojknaaGreat
open Go.RowKit
open Go.SeqMath
open Go.BatMath hiding AllB getD_lt take_all
open Go.VarMath (longB length_longB backB unbe)
open Go.CrcMath (okB sealB)
def GivesOpen (w : World) (bs : List Nat) (e : Ending) (w' : World) : Prop :=
 (okB bs = false ∧ e = .returned (.tuple #[.slice none 0 0, .bool false]) ∧ Below w.heap.size w w') ∨
 (okB bs = true ∧ ∃ g cap, e = .returned (.tuple #[.slice (some ⟨g, 0, none⟩) (bs.length - 4) cap, .bool true]) ∧ Byt w' (some ⟨g, 0, none⟩) (bs.length - 4) cap (bs.drop 4) ∧ Below w.heap.size w w')
theorem refUnseal_any (w : World) (ad : Option Addr) (len cap : Nat) (bs : List Nat) (h : Byt w ad len cap bs) (hL : len ≤ 140737488355300) :
 Calls Tryz.prog 125 #[.slice ad len cap] w (GivesOpen w bs) := by
 have hl := h.length
 by_cases h4 : len < 4
 · refine (unseal_short w ad len cap bs h h4).mono ?_
   rintro e w' ⟨he, n, rfl⟩
   exact .inl ⟨CrcMath.okB_short (by omega), he, bel_drewN (Below.refl _ _) n⟩
 refine (unseal_long w ad len cap bs h (by omega) hL).mono ?_
 rintro e w' ⟨h1, h2⟩
 cases hok : okB bs
 · exact .inl ⟨hok, h1 hok⟩
 obtain ⟨v, he, g, c, rfl, hc, hg, hp, hb⟩ := h2 hok
 rw [List.length_drop] at he hc
 refine .inr ⟨hok, g, c, he, ?_, hb⟩
 have := hp.byt (BatMath.drop_all h.all 4) c (by rw [List.length_drop]; exact hc)
 rw [List.length_drop] at this
 exact this
theorem results_cell_tmp2 {fn : Func} {p u v : Tmp} {ty : TypeId} (h : fn.results = #[.cell p ty, .tmp u, .tmp v]) (tmps : Array Value) (P : Program) (w : World) :
 (results fn tmps).run P w =
  ((asAddr (tmps.getD p undef)).run P w).andThen fun a w₁ => ((loadVar ty a).run P w₁).andThen fun x w₂ => .ok (.tuple #[x, tmps.getD u undef, tmps.getD v undef]) w₂ := by
 simp only [results, h]
 simp [Sem.run_bind, Result.andThen]
theorem resultsRead {tmps : Array Value} {B : Nat} {W : World} {b0 b1 b2 b3 : Int} {b4 : Bool} {b5 : Int} {v : Value} (h : BoxAt W B b0 b1 b2 b3 b4 b5 v) (ht : tmps.getD 2 undef = .pointer (some ⟨B, 0, none⟩)) :
 (results Tryz.f99 tmps).run Tryz.prog W = .ok (.tuple #[.agg #[.int .i64 b0, .int .i64 b1, .int .i64 b2, .int .i64 b3, .bool b4, .int .i64 b5, v], tmps.getD 3 undef, tmps.getD 4 undef]) W := by
 rw [results_cell_tmp2 (p := 2) (u := 3) (v := 4) (ty := 29) Tryz.results99, ht]
 have hl := run_loadVar_row (P := Tryz.prog) W B 29 29 _ (0, 0) _ h Tryz.underlying29 rfl (by kernel_rfl)
 simp only [asAddr, Sem.run_pure, Result.andThen, hl]
def GivesRead (w : World) (o : Out) (e : Ending) (w' : World) : Prop :=
 ∃ (ad : Option Addr) (cap : Nat), e = .returned (.tuple #[.agg #[.int .i64 o.b.base, .int .i64 o.b.prod, .int .i64 o.b.epoch, .int .i64 o.b.seq, .bool o.b.txn, .int .i64 o.b.marker, .slice ad o.b.recs.length cap], .int .i64 (o.n : Nat), .int .i64 o.e]) ∧
   RecsAt w' ad o.b.recs.length cap o.b.recs ∧ (∀ a, ad = some a → w.heap.size ≤ a.block) ∧ Below w.heap.size w w'
theorem gives_read {w w' : World} {o : Out} {b : Bat} {ad : Option Addr} {n cap : Nat} {m : Int} {k : Nat} {ev : Int} (ho : o = ⟨b, k, ev⟩) (hm : m = (k : Int)) (hn : b.recs.length = n) (hr : RecsAt w' ad n cap b.recs) (hk : ∀ a, ad = some a → w.heap.size ≤ a.block) (hb : Below w.heap.size w w') :
 GivesRead w o (.returned (.tuple #[.agg #[.int .i64 b.base, .int .i64 b.prod, .int .i64 b.epoch, .int .i64 b.seq, .bool b.txn, .int .i64 b.marker, .slice ad n cap], .int .i64 m, .int .i64 ev])) w' := by
 subst hn ho hm; exact ⟨ad, cap, rfl, hr, hk, hb⟩
theorem len_four {x : List Nat} (h : 12 ≤ x.length) : lenD x = ((x.getD 8 0 * 256 + x.getD 9 0) * 256 + x.getD 10 0) * 256 + x.getD 11 0 := by
 have e : (x.drop 8).take 4 = [x.getD 8 0, x.getD 9 0, x.getD 10 0, x.getD 11 0] := by
  have h8 : x.drop 8 = x.getD 8 0 :: x.drop 9 := by rw [List.drop_eq_getElem_cons (by omega), List.getD_eq_getElem?_getD, List.getElem?_eq_getElem (by omega)]; rfl
  have h9 : x.drop 9 = x.getD 9 0 :: x.drop 10 := by rw [List.drop_eq_getElem_cons (by omega), List.getD_eq_getElem?_getD, List.getElem?_eq_getElem (by omega)]; rfl
  have h10 : x.drop 10 = x.getD 10 0 :: x.drop 11 := by rw [List.drop_eq_getElem_cons (by omega), List.getD_eq_getElem?_getD, List.getElem?_eq_getElem (by omega)]; rfl
  have h11 : x.drop 11 = x.getD 11 0 :: x.drop 12 := by rw [List.drop_eq_getElem_cons (by omega), List.getD_eq_getElem?_getD, List.getElem?_eq_getElem (by omega)]; rfl
  rw [h8, h9, h10, h11]
  rfl
 unfold lenD
 rw [e]
 simp [unbe]
theorem refRead_any (w : World) (ad : Option Addr) (len cap : Nat) (x : List Nat) (h : Byt w ad len cap x) (hL : len ≤ 140737488355328) :
 Calls Tryz.prog 99 #[.slice ad len cap] w (GivesRead w (readD x)) := by
 have hxl := h.length
 have hro : Hid (readD x = (if x.length < 12 then ⟨Bat.zero, 0, 12⟩
  else if 4096 < lenD x + 12 then ⟨Bat.zero, 0, 13⟩
  else if x.length < lenD x + 12 then ⟨Bat.zero, 0, 12⟩
  else if okB ((x.drop 12).take (lenD x)) = false then ⟨Bat.zero, 0, 12⟩
  else open Classical in
   if (innerD (((x.drop 12).take (lenD x)).drop 4)).2 = true ∧ rightE ((innerD (((x.drop 12).take (lenD x)).drop 4)).1.at (backB x).1) = 0 ∧ bytesB ((innerD (((x.drop 12).take (lenD x)).drop 4)).1.at (backB x).1) = x.take (12 + lenD x)
   then ⟨(innerD (((x.drop 12).take (lenD x)).drop 4)).1.at (backB x).1, lenD x + 12, 0⟩ else ⟨Bat.zero, 0, 12⟩)) := rfl
 obtain ⟨o, ho⟩ := exq (readD x)
 rw [← ho] at hro ⊢
 clear ho
 by_cases h12 : len < 12
 · have HO : Hid (o = ⟨Bat.zero, 0, 12⟩) := by show o = _; rw [hro.out, if_pos (by omega)]
   have hd : decide ((len : Int) < 12) = true := by simp; omega
   clear h hxl
   go_enter Tryz.func99, Tryz.ntmps99
   go_wp2
   exact bodyPost_ret (resultsRead (boxAt_new w 0 0 0 0 false 0 (.slice none 0 0)) rfl) rfl (gives_read HO.out rfl rfl (recsAt_nil _) (fun a h => by cases h) (bal _ _))
 have h12' : 12 ≤ len := by omega
 obtain ⟨bx, ox, rfl, hcell⟩ := h.get (by omega)
 have g8 := getD_all h.all 8
 have g9 := getD_all h.all 9
 have g10 := getD_all h.all 10
 have g11 := getD_all h.all 11
 have hc8 := hcell 8 (by omega)
 have hc9 := hcell 9 (by omega)
 have hc10 := hcell 10 (by omega)
 have hc11 := hcell 11 (by omega)
 have hbx : bx < w.heap.size := World.block_lt_of_cell? _ _ hc8
 have hN := len_four (x := x) (by omega)
 obtain ⟨a, ha⟩ := exq (x.getD 8 0)
 obtain ⟨b, hb⟩ := exq (x.getD 9 0)
 obtain ⟨c, hc⟩ := exq (x.getD 10 0)
 obtain ⟨d, hd⟩ := exq (x.getD 11 0)
 rw [← ha, ← hb, ← hc, ← hd] at hN
 rw [← ha] at hc8 g8
 rw [← hb] at hc9 g9
 rw [← hc] at hc10 g10
 rw [← hd] at hc11 g11
 obtain ⟨N, hNN⟩ := exq (lenD x)
 rw [← hNN] at hN hro
 obtain ⟨n1, hn1⟩ := exq (a * 16777216 + b * 65536)
 obtain ⟨n2, hn2⟩ := exq (n1 + c * 256)
 have hor1 : bits .or .i64 ((a : Int) * 16777216) ((b : Int) * 65536) = (n1 : Int) := by
  have := i64_or 24 (a * 16777216) (b * 65536) (by omega) (by omega) (by omega)
  rw [hn1, ← this]
  rfl
 have hor2 : bits .or .i64 (n1 : Int) ((c : Int) * 256) = (n2 : Int) := by
  have := i64_or 16 n1 (c * 256) (by omega) (by omega) (by omega)
  rw [hn2, ← this]
  rfl
 have hor3 : bits .or .i64 (n2 : Int) (d : Int) = (N : Int) := by
  rw [i64_or 8 n2 d (by omega) (by omega) (by omega), hN, hn2, hn1]
  congr 1
  omega
 have hN32 : N < 4294967296 := by omega
 have hdl : decide ((len : Int) < 12) = false := by simp; omega
 have HX := qh h
 have HXL := qh hxl
 clear h hxl hcell hn1 hn2 hN ha hb hc hd hNN
 have HRS := qh (boxAt_new w 0 0 0 0 false 0 (.slice none 0 0))
 go_enter Tryz.func99, Tryz.ntmps99
 go_upto_region 3 with fail
 go_cut [5] from 13 (fun s5 wx => s5 = .int .i64 (N : Int) ∧ Hid (BoxAt wx w.heap.size 0 0 0 0 false 0 (.slice none 0 0)) ∧ Hid (Below w.heap.size w wx))
 case first =>
  go_quiet (fail)
  go_wp2
  go_meet
  case rel => exact ⟨rfl, HRS, bel_drewN (bal _ _) _⟩
 case rest =>
  obtain ⟨rfl, HBX, HBW⟩ := hcut
  clear hc8 hc9 hc10 hc11 hor1 hor2 hor3
  have hn12 : ¬ x.length < 12 := by rw [HXL.out]; exact h12
  by_cases h2 : 4096 < N + 12
  · have HO : Hid (o = ⟨Bat.zero, 0, 13⟩) := by show o = _; rw [hro.out, if_neg hn12, if_pos h2]
    have r0 := HBX.out.c0
    have q0 := HBX.out.free 0
    have r1 := HBX.out.c1
    have q1 := HBX.out.free 1
    have r2 := HBX.out.c2
    have q2 := HBX.out.free 2
    have r3 := HBX.out.c3
    have q3 := HBX.out.free 3
    have r4 := HBX.out.c4
    have q4 := HBX.out.free 4
    have r5 := HBX.out.c5
    have q5 := HBX.out.free 5
    have r6 := HBX.out.c6
    have q6 := HBX.out.free 6
    go_wp2
    exact bodyPost_ret (resultsRead (((((((HBX.out.s0 0).s1 0).s2 0).s3 0).s4 false).s5 0).s6 (.slice none 0 0)) rfl) rfl (gives_read HO.out rfl rfl (recsAt_nil _) (fun a h => by cases h) (((((((HBW.out.setCell (Nat.le_refl _) _).setCell (Nat.le_refl _) _).setCell (Nat.le_refl _) _).setCell (Nat.le_refl _) _).setCell (Nat.le_refl _) _).setCell (Nat.le_refl _) _).setCell (Nat.le_refl _) _))
  have h2' : N + 12 ≤ 4096 := by omega
  by_cases h3 : len < N + 12
  · have HO : Hid (o = ⟨Bat.zero, 0, 12⟩) := by show o = _; rw [hro.out, if_neg hn12, if_neg h2, if_pos (by rw [HXL.out]; exact h3)]
    have r0 := HBX.out.c0
    have q0 := HBX.out.free 0
    have r1 := HBX.out.c1
    have q1 := HBX.out.free 1
    have r2 := HBX.out.c2
    have q2 := HBX.out.free 2
    have r3 := HBX.out.c3
    have q3 := HBX.out.free 3
    have r4 := HBX.out.c4
    have q4 := HBX.out.free 4
    have r5 := HBX.out.c5
    have q5 := HBX.out.free 5
    have r6 := HBX.out.c6
    have q6 := HBX.out.free 6
    go_wp2
    exact bodyPost_ret (resultsRead (((((((HBX.out.s0 0).s1 0).s2 0).s3 0).s4 false).s5 0).s6 (.slice none 0 0)) rfl) rfl (gives_read HO.out rfl rfl (recsAt_nil _) (fun a h => by cases h) (((((((HBW.out.setCell (Nat.le_refl _) _).setCell (Nat.le_refl _) _).setCell (Nat.le_refl _) _).setCell (Nat.le_refl _) _).setCell (Nat.le_refl _) _).setCell (Nat.le_refl _) _).setCell (Nat.le_refl _) _))
  have h3' : N + 12 ≤ len := by omega
  have hro2 : Hid (o = (if okB ((x.drop 12).take N) = false then ⟨Bat.zero, 0, 12⟩
   else open Classical in
    if (innerD (((x.drop 12).take N).drop 4)).2 = true ∧ rightE ((innerD (((x.drop 12).take N).drop 4)).1.at (backB x).1) = 0 ∧ bytesB ((innerD (((x.drop 12).take N).drop 4)).1.at (backB x).1) = x.take (12 + N)
    then ⟨(innerD (((x.drop 12).take N).drop 4)).1.at (backB x).1, N + 12, 0⟩ else ⟨Bat.zero, 0, 12⟩)) := by
   show o = _
   rw [hro.out, if_neg hn12, if_neg h2, if_neg (by rw [HXL.out]; exact h3)]
  obtain ⟨o12, c12, hsl, hB12⟩ := part_lit HX.out 12 N 12 (12 + (N : Int)) rfl (by omega) (by omega)
  obtain ⟨y, hy⟩ : ∃ y, y = (x.drop 12).take N := ⟨_, rfl⟩
  rw [← hy] at hro2 hB12
  have hyl := hB12.length
  have HB12 := qh hB12
  have HYL := qh hyl
  clear hro hn12 h2 h3 hy hB12 hyl
  go_wp2_with fail
  refine (refUnseal_any wc _ _ _ y (HB12.out.keep HBW.out (Nat.le_refl _)) (by omega)).mono ?_
  rintro e w2 hg
  rcases hg with ⟨hok, rfl, hb2⟩ | ⟨hok, g2, c2, rfl, hby2, hb2⟩
  · have HO : Hid (o = ⟨Bat.zero, 0, 12⟩) := by show o = _; rw [hro2.out, if_pos hok]
    have HBX2 := qh (HBX.out.on hb2)
    have HBW2 := qh (HBW.out.trans (hb2.mono HBW.out.size))
    clear hb2 hok hsl
    have r0 := HBX2.out.c0
    have q0 := HBX2.out.free 0
    have r1 := HBX2.out.c1
    have q1 := HBX2.out.free 1
    have r2 := HBX2.out.c2
    have q2 := HBX2.out.free 2
    have r3 := HBX2.out.c3
    have q3 := HBX2.out.free 3
    have r4 := HBX2.out.c4
    have q4 := HBX2.out.free 4
    have r5 := HBX2.out.c5
    have q5 := HBX2.out.free 5
    have r6 := HBX2.out.c6
    have q6 := HBX2.out.free 6
    go_wp2
    exact bodyPost_ret (resultsRead (((((((HBX2.out.s0 0).s1 0).s2 0).s3 0).s4 false).s5 0).s6 (.slice none 0 0)) rfl) rfl (gives_read HO.out rfl rfl (recsAt_nil _) (fun a h => by cases h) (((((((HBW2.out.setCell (Nat.le_refl _) _).setCell (Nat.le_refl _) _).setCell (Nat.le_refl _) _).setCell (Nat.le_refl _) _).setCell (Nat.le_refl _) _).setCell (Nat.le_refl _) _).setCell (Nat.le_refl _) _))
  have HBX2 := qh (HBX.out.on hb2)
  have HBW2 := qh (HBW.out.trans (hb2.mono HBW.out.size))
  rw [HYL.out] at hby2 ⊢
  have hro3 : Hid (o = (open Classical in
   if (innerD (y.drop 4)).2 = true ∧ rightE ((innerD (y.drop 4)).1.at (backB x).1) = 0 ∧ bytesB ((innerD (y.drop 4)).1.at (backB x).1) = x.take (12 + N)
   then ⟨(innerD (y.drop 4)).1.at (backB x).1, N + 12, 0⟩ else ⟨Bat.zero, 0, 12⟩)) := by
   show o = _
   rw [hro2.out, if_neg (by rw [hok]; decide)]
  have HBY2 := qh hby2
  clear hro2 hb2 hby2 hok hsl
  go_wp2_with fail
  refine (inner_any w2 _ _ _ _ HBY2.out (by omega)).mono ?_
  rintro e w3 ⟨b1, ok, ad1, cap1, hin, rfl, hrec, hblk, hb3⟩
  have HBLK : Hid (∀ a, ad1 = some a → w.heap.size < a.block) := fun a h => by have h1 := hblk a h; have h2 := HBX2.out.lt; omega
  have HBX3 := qh (HBX2.out.on hb3)
  have HBW3 := qh (HBW2.out.trans (hb3.mono HBW2.out.size))
  rw [hin] at hro3
  have hwf : b1.wf := by
   have := inner_wf (BatMath.drop_all (p := y) HB12.out.all 4)
   rw [hin] at this
   exact this
  have HREC := qh hrec
  obtain ⟨bs, hbs⟩ : ∃ p, p = (backB x).1 := ⟨_, rfl⟩
  obtain ⟨bo, hbo⟩ : ∃ p, p = (backB x).2 := ⟨_, rfl⟩
  rw [← hbs] at hro3
  have CB : Hid (∀ W, Below w.heap.size w W → Calls Tryz.prog 127 #[.slice (some ⟨bx, ox, none⟩) len cap] W fun e w' => e = .returned (.tuple #[.int .i64 bs, .bool bo]) ∧ W = w') := by
   intro W hW
   have := refBack_any W _ _ _ _ (HX.out.keep hW (Nat.le_refl _)) hL
   unfold GivesBack at this
   rw [← hbs, ← hbo] at this
   exact this
  have hsh := inner_short (BatMath.drop_all (p := y) HB12.out.all 4) hin
  rw [List.length_drop, HYL.out] at hsh
  clear hin hrec hblk hb3 hbs hbo
  go_wp2_with fail
  refine (CB.out _ (HBW3.out.alloc HBW3.out.size _)).mono ?_
  rintro e w' ⟨rfl, rfl⟩
  go_upto_region 13 with fail
  obtain ⟨W4, hW4⟩ := exq (w3.alloc (.cells #[.int .i64 bs, .int .i64 b1.prod, .int .i64 b1.epoch, .int .i64 b1.seq, .bool b1.txn, .int .i64 b1.marker, .slice ad1 b1.recs.length cap1] 29))
  have HBV := qh (show BoxAt W4 w3.heap.size bs b1.prod b1.epoch b1.seq b1.txn b1.marker (.slice ad1 b1.recs.length cap1) by rw [hW4]; exact boxAt_new w3 _ _ _ _ _ _ _)
  have hb34 := wbq hW4
  have HBX4 := qh (HBX3.out.on hb34)
  have HBW4 := qh (HBW3.out.trans (hb34.mono HBW3.out.size))
  have HREC4 := qh (HREC.out.keep hb34)
  rw [← hW4]
  obtain ⟨k4, hk4⟩ := exq w3.heap.size
  rw [← hk4] at HBV ⊢
  clear hb34 hW4 hk4
  have htx : TextsOk b1.recs := fun r hr => by have := hsh.2 r hr; omega
  have hln : b1.recs.length ≤ 140737488355328 := by have := hsh.1; omega
  have hp1 : b1.prod ≤ 9223372036854775807 := hwf.prod.2
  obtain ⟨sp, hsp⟩ := exq (str (x.take (12 + N)))
  have hpb := byt_upto HX.out (12 + N) (by omega)
  have hfit := HX.out.fits
  have hw12 : IntKind.i64.wrap (12 + (N : Int)) = 12 + (N : Int) := IntWalk.i64_in _ (by omega)
  have ht12 : (12 + (N : Int)).toNat = 12 + N := by omega
  have hc12 : 12 + (N : Int) ≤ (cap : Int) := by omega
  have hc0 : 0 ≤ 12 + (N : Int) := by omega
  obtain ⟨ev, hev⟩ := exq (rightE (b1.at bs))
  obtain ⟨L, hLL⟩ := exq (bytesB (b1.at bs))
  obtain ⟨sw, hsw⟩ := exq (str L)
  obtain ⟨q3, hq3⟩ : ∃ q3 : Bool, q3 = true ↔ L = x.take (12 + N) := by
   rcases Classical.em (L = x.take (12 + N)) with h | h
   · exact ⟨true, fun _ => h, fun _ => rfl⟩
   exact ⟨false, fun h' => (by cases h'), fun h' => absurd h' h⟩
  have hevs : ev = 0 ∨ ev = 12 ∨ ev = 13 ∨ ev = 18 := by rw [hev]; exact right_few _
  have HBAD : Hid ((ok && (decide (ev = 0) && q3)) = false → o = ⟨Bat.zero, 0, 12⟩) := by
   intro h
   rw [hro3.out, if_neg]
   rintro ⟨h1, h2, h3⟩
   rw [← hev] at h2
   rw [← hLL] at h3
   rw [show ok = true from h1, h2, hq3.2 h3] at h
   cases h
  have HGOOD : Hid ((ok && (decide (ev = 0) && q3)) = true → o = ⟨b1.at bs, N + 12, 0⟩) := by
   intro h
   have h1 : ok = true ∧ ev = 0 ∧ q3 = true := by simpa using h
   rw [hro3.out, if_pos ⟨h1.1, by rw [← hev]; exact h1.2.1, by rw [← hLL]; exact hq3.1 h1.2.2⟩]
  have CR : Hid (∀ W, Below W4.heap.size W4 W → Calls Tryz.prog 46 #[.agg #[.int .i64 bs, .int .i64 b1.prod, .int .i64 b1.epoch, .int .i64 b1.seq, .bool b1.txn, .int .i64 b1.marker, .slice ad1 b1.recs.length cap1]] W fun e w' => e = .returned (.int .i64 ev) ∧ Hid (Below W4.heap.size W4 w')) := by
   intro W hW
   refine (refRight_any W (b1.at bs) ad1 _ cap1 (HREC4.out.keep hW) htx hln hp1).mono ?_
   rintro e w' ⟨he, hb⟩
   exact ⟨by rw [he, hev], hW.trans (hb.mono hW.size)⟩
  have CW : Hid (ev = 0 → ∀ W, Below W4.heap.size W4 W → Calls Tryz.prog 80 #[.agg #[.int .i64 bs, .int .i64 b1.prod, .int .i64 b1.epoch, .int .i64 b1.seq, .bool b1.txn, .int .i64 b1.marker, .slice ad1 b1.recs.length cap1]] W fun e w' => ∃ g c, e = .returned (.slice (some ⟨g, 0, none⟩) L.length c) ∧ Hid (Below W4.heap.size W4 w') ∧
   (convert 30 9 (.slice (some ⟨g, 0, none⟩) L.length c)).run Tryz.prog w' = .ok (.string sw) w') := by
   intro h0 W hW
   have hok2 : Ok (b1.at bs) := ok_of (by rw [← hev]; exact h0)
   refine (write_any W (b1.at bs) ad1 _ cap1 (HREC4.out.keep hW) hok2 hp1).mono ?_
   rintro e w' ⟨g, c, he, ho, hb⟩
   rw [← hLL] at he ho
   exact ⟨g, c, he, hW.trans (hb.mono hW.size), run_str_at (owns_row ho (by rw [hLL]; exact bytes_all hok2)).1 hsw⟩
  have HS7 : Hid (∀ W, Below W4.heap.size W4 W → Below W4.heap.size W4 W ∧ W.cell? ⟨k4, 0, none⟩ = some (.int .i64 bs) ∧ W.cell? ⟨k4, 1, none⟩ = some (.int .i64 b1.prod) ∧ W.cell? ⟨k4, 2, none⟩ = some (.int .i64 b1.epoch) ∧ W.cell? ⟨k4, 3, none⟩ = some (.int .i64 b1.seq) ∧ W.cell? ⟨k4, 4, none⟩ = some (.bool b1.txn) ∧ W.cell? ⟨k4, 5, none⟩ = some (.int .i64 b1.marker) ∧ W.cell? ⟨k4, 6, none⟩ = some (.slice ad1 b1.recs.length cap1)) := fun W hW => have hx := HBV.out.on hW; ⟨hW, hx.c0, hx.c1, hx.c2, hx.c3, hx.c4, hx.c5, hx.c6⟩
  have HS8 : Hid (∀ W, Below W4.heap.size W4 W → Below W4.heap.size W4 W ∧ (convert 30 9 (.slice (some ⟨bx, ox, none⟩) (12 + N) cap)).run Tryz.prog W = .ok (.string sp) W ∧ W.cell? ⟨k4, 0, none⟩ = some (.int .i64 bs) ∧ W.cell? ⟨k4, 1, none⟩ = some (.int .i64 b1.prod) ∧ W.cell? ⟨k4, 2, none⟩ = some (.int .i64 b1.epoch) ∧ W.cell? ⟨k4, 3, none⟩ = some (.int .i64 b1.seq) ∧ W.cell? ⟨k4, 4, none⟩ = some (.bool b1.txn) ∧ W.cell? ⟨k4, 5, none⟩ = some (.int .i64 b1.marker) ∧ W.cell? ⟨k4, 6, none⟩ = some (.slice ad1 b1.recs.length cap1)) := fun W hW => have hx := HBV.out.on hW; ⟨hW, run_str_at (hpb.keep (HBW4.out.trans (hW.mono HBW4.out.size)) (Nat.le_refl _)) hsp, hx.c0, hx.c1, hx.c2, hx.c3, hx.c4, hx.c5, hx.c6⟩
  have HEQ : Hid (q3 = true → (sw.toList == sp.toList) = true) := by
   intro h
   rw [hsw, hsp, hq3.1 h]
   exact str_same _
  have HNE : Hid (ev = 0 → q3 = false → (sw.toList == sp.toList) = false) := by
   intro h0 h
   have hok2 : Ok (b1.at bs) := ok_of (by rw [← hev]; exact h0)
   rw [hsw, hsp]
   refine str_differ (by rw [hLL]; exact bytes_all hok2) (BatMath.take_all HX.out.all _) fun e => ?_
   rw [hq3.2 e] at h
   cases h
  clear hro3 hev hLL hsw hsp hpb hq3 htx hln hp1 hwf hsh
  go_cut [84] from 67 (fun s84 wx => s84 = .bool (!(ok && (decide (ev = 0) && q3))) ∧ Hid (Below W4.heap.size W4 wx))
  case first =>
   cases ok
   · go_quiet (fail)
     go_wp2
     go_meet
     case rel => exact ⟨rfl, bel_drewN (Below.refl _ _) _⟩
   rcases hevs with rfl | rfl | rfl | rfl
   · have CW2 := qh (CW.out rfl)
     cases q3
     · have hne := HNE.out rfl rfl
       refine wp_region_noPanic ?_
       refine wp_region_held_drew (S := (fun W => Below W4.heap.size W4 W ∧ (convert 30 9 (.slice (some ⟨bx, ox, none⟩) (12 + N) cap)).run Tryz.prog W = .ok (.string sp) W ∧ W.cell? ⟨k4, 0, none⟩ = some (.int .i64 bs) ∧ W.cell? ⟨k4, 1, none⟩ = some (.int .i64 b1.prod) ∧ W.cell? ⟨k4, 2, none⟩ = some (.int .i64 b1.epoch) ∧ W.cell? ⟨k4, 3, none⟩ = some (.int .i64 b1.seq) ∧ W.cell? ⟨k4, 4, none⟩ = some (.bool b1.txn) ∧ W.cell? ⟨k4, 5, none⟩ = some (.int .i64 b1.marker) ∧ W.cell? ⟨k4, 6, none⟩ = some (.slice ad1 b1.recs.length cap1))) (by kernel_rfl) (HS8.out _ (Below.refl _ _).drew) (fun hHeld => ?_)
       refine ht 0 ?_
       refine ht 1 ?_
       refine ht 2 ?_
       refine ht 3 ?_
       refine wpAnyH_ready (rs := [4]) (by kernel_rfl) (by simp) ?_
       refine AllReadyH.cons (o := ⟨_, _, _, _, _, _⟩) rfl (fun K hK => ?_) AllReadyH.nil
       go_simp
       refine (CR.out _ (And.left hHeld)).mono ?_
       rintro e w5 ⟨rfl, hb5⟩
       go_wp2_with fail
       refine hK.out _ _ ?_ (fun hHeld => ?_)
       · exact HS8.out _ hb5.out
       clear hK K
       (try simp only [Act.put, List.setIfInBounds_toArray, List.set_cons_zero, List.set_cons_succ])
       refine ht 5 ?_
       refine ht 6 ?_
       refine ht 7 ?_
       refine ht 8 ?_
       refine ht 11 ?_
       refine ht 12 ?_
       refine ht 13 ?_
       refine ht 14 ?_
       refine ht 15 ?_
       refine wpAnyH_ready (rs := [9]) (by kernel_rfl) (by simp) ?_
       refine AllReadyH.cons (o := ⟨_, _, _, _, _, _⟩) rfl (fun K hK => ?_) AllReadyH.nil
       go_simp
       refine (CW2.out _ (And.left hHeld)).mono ?_
       rintro e w6 ⟨g6, k6, rfl, hb6, hcv⟩
       go_wp2_with fail
       refine hK.out _ _ ?_ (fun hHeld => ?_)
       · exact HS8.out _ hb6.out
       clear hK K
       (try simp only [Act.put, List.setIfInBounds_toArray, List.set_cons_zero, List.set_cons_succ])
       refine wpAnyH_strengthen (S' := (fun W => (Below W4.heap.size W4 W ∧ (convert 30 9 (.slice (some ⟨bx, ox, none⟩) (12 + N) cap)).run Tryz.prog W = .ok (.string sp) W ∧ W.cell? ⟨k4, 0, none⟩ = some (.int .i64 bs) ∧ W.cell? ⟨k4, 1, none⟩ = some (.int .i64 b1.prod) ∧ W.cell? ⟨k4, 2, none⟩ = some (.int .i64 b1.epoch) ∧ W.cell? ⟨k4, 3, none⟩ = some (.int .i64 b1.seq) ∧ W.cell? ⟨k4, 4, none⟩ = some (.bool b1.txn) ∧ W.cell? ⟨k4, 5, none⟩ = some (.int .i64 b1.marker) ∧ W.cell? ⟨k4, 6, none⟩ = some (.slice ad1 b1.recs.length cap1)) ∧ (convert 30 9 (.slice (some ⟨g6, 0, none⟩) L.length k6)).run Tryz.prog W = .ok (.string sw) W)) (fun W h => h.1) _ _ _ _ ?_
       clear hHeld
       have hHeld : (fun W => (Below W4.heap.size W4 W ∧ (convert 30 9 (.slice (some ⟨bx, ox, none⟩) (12 + N) cap)).run Tryz.prog W = .ok (.string sp) W ∧ W.cell? ⟨k4, 0, none⟩ = some (.int .i64 bs) ∧ W.cell? ⟨k4, 1, none⟩ = some (.int .i64 b1.prod) ∧ W.cell? ⟨k4, 2, none⟩ = some (.int .i64 b1.epoch) ∧ W.cell? ⟨k4, 3, none⟩ = some (.int .i64 b1.seq) ∧ W.cell? ⟨k4, 4, none⟩ = some (.bool b1.txn) ∧ W.cell? ⟨k4, 5, none⟩ = some (.int .i64 b1.marker) ∧ W.cell? ⟨k4, 6, none⟩ = some (.slice ad1 b1.recs.length cap1)) ∧ (convert 30 9 (.slice (some ⟨g6, 0, none⟩) L.length k6)).run Tryz.prog W = .ok (.string sw) W) w6 := ⟨HS8.out _ hb6.out, hcv⟩
       refine ht 10 ?_
       refine ht 16 ?_
       refine ht 17 ?_
       refine wpAnyH_done (by kernel_rfl) ?_ _
       refine NoPanic.normal ?_
       go_wp2
       go_meet
       case rel => exact ⟨by simp, hb6⟩
     have heq := HEQ.out rfl
     refine wp_region_noPanic ?_
     refine wp_region_held_drew (S := (fun W => Below W4.heap.size W4 W ∧ (convert 30 9 (.slice (some ⟨bx, ox, none⟩) (12 + N) cap)).run Tryz.prog W = .ok (.string sp) W ∧ W.cell? ⟨k4, 0, none⟩ = some (.int .i64 bs) ∧ W.cell? ⟨k4, 1, none⟩ = some (.int .i64 b1.prod) ∧ W.cell? ⟨k4, 2, none⟩ = some (.int .i64 b1.epoch) ∧ W.cell? ⟨k4, 3, none⟩ = some (.int .i64 b1.seq) ∧ W.cell? ⟨k4, 4, none⟩ = some (.bool b1.txn) ∧ W.cell? ⟨k4, 5, none⟩ = some (.int .i64 b1.marker) ∧ W.cell? ⟨k4, 6, none⟩ = some (.slice ad1 b1.recs.length cap1))) (by kernel_rfl) (HS8.out _ (Below.refl _ _).drew) (fun hHeld => ?_)
     refine ht 0 ?_
     refine ht 1 ?_
     refine ht 2 ?_
     refine ht 3 ?_
     refine wpAnyH_ready (rs := [4]) (by kernel_rfl) (by simp) ?_
     refine AllReadyH.cons (o := ⟨_, _, _, _, _, _⟩) rfl (fun K hK => ?_) AllReadyH.nil
     go_simp
     refine (CR.out _ (And.left hHeld)).mono ?_
     rintro e w5 ⟨rfl, hb5⟩
     go_wp2_with fail
     refine hK.out _ _ ?_ (fun hHeld => ?_)
     · exact HS8.out _ hb5.out
     clear hK K
     (try simp only [Act.put, List.setIfInBounds_toArray, List.set_cons_zero, List.set_cons_succ])
     refine ht 5 ?_
     refine ht 6 ?_
     refine ht 7 ?_
     refine ht 8 ?_
     refine ht 11 ?_
     refine ht 12 ?_
     refine ht 13 ?_
     refine ht 14 ?_
     refine ht 15 ?_
     refine wpAnyH_ready (rs := [9]) (by kernel_rfl) (by simp) ?_
     refine AllReadyH.cons (o := ⟨_, _, _, _, _, _⟩) rfl (fun K hK => ?_) AllReadyH.nil
     go_simp
     refine (CW2.out _ (And.left hHeld)).mono ?_
     rintro e w6 ⟨g6, k6, rfl, hb6, hcv⟩
     go_wp2_with fail
     refine hK.out _ _ ?_ (fun hHeld => ?_)
     · exact HS8.out _ hb6.out
     clear hK K
     (try simp only [Act.put, List.setIfInBounds_toArray, List.set_cons_zero, List.set_cons_succ])
     refine wpAnyH_strengthen (S' := (fun W => (Below W4.heap.size W4 W ∧ (convert 30 9 (.slice (some ⟨bx, ox, none⟩) (12 + N) cap)).run Tryz.prog W = .ok (.string sp) W ∧ W.cell? ⟨k4, 0, none⟩ = some (.int .i64 bs) ∧ W.cell? ⟨k4, 1, none⟩ = some (.int .i64 b1.prod) ∧ W.cell? ⟨k4, 2, none⟩ = some (.int .i64 b1.epoch) ∧ W.cell? ⟨k4, 3, none⟩ = some (.int .i64 b1.seq) ∧ W.cell? ⟨k4, 4, none⟩ = some (.bool b1.txn) ∧ W.cell? ⟨k4, 5, none⟩ = some (.int .i64 b1.marker) ∧ W.cell? ⟨k4, 6, none⟩ = some (.slice ad1 b1.recs.length cap1)) ∧ (convert 30 9 (.slice (some ⟨g6, 0, none⟩) L.length k6)).run Tryz.prog W = .ok (.string sw) W)) (fun W h => h.1) _ _ _ _ ?_
     clear hHeld
     have hHeld : (fun W => (Below W4.heap.size W4 W ∧ (convert 30 9 (.slice (some ⟨bx, ox, none⟩) (12 + N) cap)).run Tryz.prog W = .ok (.string sp) W ∧ W.cell? ⟨k4, 0, none⟩ = some (.int .i64 bs) ∧ W.cell? ⟨k4, 1, none⟩ = some (.int .i64 b1.prod) ∧ W.cell? ⟨k4, 2, none⟩ = some (.int .i64 b1.epoch) ∧ W.cell? ⟨k4, 3, none⟩ = some (.int .i64 b1.seq) ∧ W.cell? ⟨k4, 4, none⟩ = some (.bool b1.txn) ∧ W.cell? ⟨k4, 5, none⟩ = some (.int .i64 b1.marker) ∧ W.cell? ⟨k4, 6, none⟩ = some (.slice ad1 b1.recs.length cap1)) ∧ (convert 30 9 (.slice (some ⟨g6, 0, none⟩) L.length k6)).run Tryz.prog W = .ok (.string sw) W) w6 := ⟨HS8.out _ hb6.out, hcv⟩
     refine ht 10 ?_
     refine ht 16 ?_
     refine ht 17 ?_
     refine wpAnyH_done (by kernel_rfl) ?_ _
     refine NoPanic.normal ?_
     go_wp2
     go_meet
     case rel => exact ⟨by simp, hb6⟩
   · have hbe : ((12 : Int) != 0) = true := by decide
     refine wp_region_noPanic ?_
     refine wp_region_held_drew (S := (fun W => Below W4.heap.size W4 W ∧ W.cell? ⟨k4, 0, none⟩ = some (.int .i64 bs) ∧ W.cell? ⟨k4, 1, none⟩ = some (.int .i64 b1.prod) ∧ W.cell? ⟨k4, 2, none⟩ = some (.int .i64 b1.epoch) ∧ W.cell? ⟨k4, 3, none⟩ = some (.int .i64 b1.seq) ∧ W.cell? ⟨k4, 4, none⟩ = some (.bool b1.txn) ∧ W.cell? ⟨k4, 5, none⟩ = some (.int .i64 b1.marker) ∧ W.cell? ⟨k4, 6, none⟩ = some (.slice ad1 b1.recs.length cap1))) (by kernel_rfl) (HS7.out _ (Below.refl _ _).drew) (fun hHeld => ?_)
     refine ht 0 ?_
     refine ht 1 ?_
     refine ht 2 ?_
     refine ht 3 ?_
     refine wpAnyH_ready (rs := [4]) (by kernel_rfl) (by simp) ?_
     refine AllReadyH.cons (o := ⟨_, _, _, _, _, _⟩) rfl (fun K hK => ?_) AllReadyH.nil
     go_simp
     refine (CR.out _ (And.left hHeld)).mono ?_
     rintro e w5 ⟨rfl, hb5⟩
     go_wp2_with fail
     refine hK.out _ _ ?_ (fun hHeld => ?_)
     · exact HS7.out _ hb5.out
     clear hK K
     (try simp only [Act.put, List.setIfInBounds_toArray, List.set_cons_zero, List.set_cons_succ])
     refine ht 5 ?_
     refine ht 6 ?_
     refine ht 7 ?_
     refine ht 8 ?_
     refine ht 9 ?_
     refine ht 10 ?_
     refine ht 11 ?_
     refine ht 12 ?_
     refine ht 13 ?_
     refine ht 14 ?_
     refine ht 15 ?_
     refine ht 16 ?_
     refine ht 17 ?_
     refine wpAnyH_done (by kernel_rfl) ?_ _
     refine NoPanic.normal ?_
     go_wp2
     go_meet
     case rel => exact ⟨by simp, hb5⟩
   · have hbe : ((13 : Int) != 0) = true := by decide
     refine wp_region_noPanic ?_
     refine wp_region_held_drew (S := (fun W => Below W4.heap.size W4 W ∧ W.cell? ⟨k4, 0, none⟩ = some (.int .i64 bs) ∧ W.cell? ⟨k4, 1, none⟩ = some (.int .i64 b1.prod) ∧ W.cell? ⟨k4, 2, none⟩ = some (.int .i64 b1.epoch) ∧ W.cell? ⟨k4, 3, none⟩ = some (.int .i64 b1.seq) ∧ W.cell? ⟨k4, 4, none⟩ = some (.bool b1.txn) ∧ W.cell? ⟨k4, 5, none⟩ = some (.int .i64 b1.marker) ∧ W.cell? ⟨k4, 6, none⟩ = some (.slice ad1 b1.recs.length cap1))) (by kernel_rfl) (HS7.out _ (Below.refl _ _).drew) (fun hHeld => ?_)
     refine ht 0 ?_
     refine ht 1 ?_
     refine ht 2 ?_
     refine ht 3 ?_
     refine wpAnyH_ready (rs := [4]) (by kernel_rfl) (by simp) ?_
     refine AllReadyH.cons (o := ⟨_, _, _, _, _, _⟩) rfl (fun K hK => ?_) AllReadyH.nil
     go_simp
     refine (CR.out _ (And.left hHeld)).mono ?_
     rintro e w5 ⟨rfl, hb5⟩
     go_wp2_with fail
     refine hK.out _ _ ?_ (fun hHeld => ?_)
     · exact HS7.out _ hb5.out
     clear hK K
     (try simp only [Act.put, List.setIfInBounds_toArray, List.set_cons_zero, List.set_cons_succ])
     refine ht 5 ?_
     refine ht 6 ?_
     refine ht 7 ?_
     refine ht 8 ?_
     refine ht 9 ?_
     refine ht 10 ?_
     refine ht 11 ?_
     refine ht 12 ?_
     refine ht 13 ?_
     refine ht 14 ?_
     refine ht 15 ?_
     refine ht 16 ?_
     refine ht 17 ?_
     refine wpAnyH_done (by kernel_rfl) ?_ _
     refine NoPanic.normal ?_
     go_wp2
     go_meet
     case rel => exact ⟨by simp, hb5⟩
   have hbe : ((18 : Int) != 0) = true := by decide
   refine wp_region_noPanic ?_
   refine wp_region_held_drew (S := (fun W => Below W4.heap.size W4 W ∧ W.cell? ⟨k4, 0, none⟩ = some (.int .i64 bs) ∧ W.cell? ⟨k4, 1, none⟩ = some (.int .i64 b1.prod) ∧ W.cell? ⟨k4, 2, none⟩ = some (.int .i64 b1.epoch) ∧ W.cell? ⟨k4, 3, none⟩ = some (.int .i64 b1.seq) ∧ W.cell? ⟨k4, 4, none⟩ = some (.bool b1.txn) ∧ W.cell? ⟨k4, 5, none⟩ = some (.int .i64 b1.marker) ∧ W.cell? ⟨k4, 6, none⟩ = some (.slice ad1 b1.recs.length cap1))) (by kernel_rfl) (HS7.out _ (Below.refl _ _).drew) (fun hHeld => ?_)
   refine ht 0 ?_
   refine ht 1 ?_
   refine ht 2 ?_
   refine ht 3 ?_
   refine wpAnyH_ready (rs := [4]) (by kernel_rfl) (by simp) ?_
   refine AllReadyH.cons (o := ⟨_, _, _, _, _, _⟩) rfl (fun K hK => ?_) AllReadyH.nil
   go_simp
   refine (CR.out _ (And.left hHeld)).mono ?_
   rintro e w5 ⟨rfl, hb5⟩
   go_wp2_with fail
   refine hK.out _ _ ?_ (fun hHeld => ?_)
   · exact HS7.out _ hb5.out
   clear hK K
   (try simp only [Act.put, List.setIfInBounds_toArray, List.set_cons_zero, List.set_cons_succ])
   refine ht 5 ?_
   refine ht 6 ?_
   refine ht 7 ?_
   refine ht 8 ?_
   refine ht 9 ?_
   refine ht 10 ?_
   refine ht 11 ?_
   refine ht 12 ?_
   refine ht 13 ?_
   refine ht 14 ?_
   refine ht 15 ?_
   refine ht 16 ?_
   refine ht 17 ?_
   refine wpAnyH_done (by kernel_rfl) ?_ _
   refine NoPanic.normal ?_
   go_wp2
   go_meet
   case rel => exact ⟨by simp, hb5⟩
  case rest =>
   obtain ⟨rfl, HB9⟩ := hcut
   have HBX9 := qh (HBX4.out.on HB9.out)
   have HBV9 := qh (HBV.out.on HB9.out)
   have HBW9 := qh (HBW4.out.trans (HB9.out.mono HBW4.out.size))
   have HREC9 := qh (HREC4.out.keep HB9.out)
   obtain ⟨cnd, hcn⟩ : ∃ cnd, cnd = (ok && (decide (ev = 0) && q3)) := ⟨_, rfl⟩
   rw [← hcn] at HBAD HGOOD ⊢
   clear hcn
   cases cnd
   · have HO := qh (HBAD.out rfl)
     have r0 := HBX9.out.c0
     have q0 := HBX9.out.free 0
     have r1 := HBX9.out.c1
     have q1 := HBX9.out.free 1
     have r2 := HBX9.out.c2
     have q2 := HBX9.out.free 2
     have r3 := HBX9.out.c3
     have q3 := HBX9.out.free 3
     have r4 := HBX9.out.c4
     have q4 := HBX9.out.free 4
     have r5 := HBX9.out.c5
     have q5 := HBX9.out.free 5
     have r6 := HBX9.out.c6
     have q6 := HBX9.out.free 6
     go_wp2
     exact bodyPost_ret (resultsRead (((((((HBX9.out.s0 0).s1 0).s2 0).s3 0).s4 false).s5 0).s6 (.slice none 0 0)) rfl) rfl (gives_read HO.out rfl rfl (recsAt_nil _) (fun a h => by cases h) (((((((HBW9.out.setCell (Nat.le_refl _) _).setCell (Nat.le_refl _) _).setCell (Nat.le_refl _) _).setCell (Nat.le_refl _) _).setCell (Nat.le_refl _) _).setCell (Nat.le_refl _) _).setCell (Nat.le_refl _) _))
   have HO := qh (HGOOD.out rfl)
   have r0 := HBX9.out.c0
   have q0 := HBX9.out.free 0
   have r1 := HBX9.out.c1
   have q1 := HBX9.out.free 1
   have r2 := HBX9.out.c2
   have q2 := HBX9.out.free 2
   have r3 := HBX9.out.c3
   have q3 := HBX9.out.free 3
   have r4 := HBX9.out.c4
   have q4 := HBX9.out.free 4
   have r5 := HBX9.out.c5
   have q5 := HBX9.out.free 5
   have r6 := HBX9.out.c6
   have q6 := HBX9.out.free 6
   obtain ⟨p0, p1, p2, p3, p4, p5, p6⟩ := HBV9.out.cs
   go_wp2
   exact bodyPost_ret (resultsRead (((((((HBX9.out.s0 bs).s1 b1.prod).s2 b1.epoch).s3 b1.seq).s4 b1.txn).s5 b1.marker).s6 (.slice ad1 b1.recs.length cap1)) rfl) rfl (gives_read HO.out (by omega) rfl (((((((HREC9.out.put HBLK.out).put HBLK.out).put HBLK.out).put HBLK.out).put HBLK.out).put HBLK.out).put HBLK.out) (fun a h => by have := HBLK.out a h; omega) (((((((HBW9.out.setCell (Nat.le_refl _) _).setCell (Nat.le_refl _) _).setCell (Nat.le_refl _) _).setCell (Nat.le_refl _) _).setCell (Nat.le_refl _) _).setCell (Nat.le_refl _) _).setCell (Nat.le_refl _) _))
end Go.Proofs.YtjmfdildnojknaaGreat
