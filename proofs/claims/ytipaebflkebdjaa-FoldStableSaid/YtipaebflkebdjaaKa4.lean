/- Parts of a proof, merged: BatCodeA, CrcUnseal, BatRead, BatCodeB, Within, Tape, TapeBatch, BatLaw1. -/
import Derived.Deep.RegionHeld3
import Derived.Deep.RegionWith
import Derived.BigQuiet
import Derived.Deep.CutRange
import Derived.Test.YtipaebflkebdjaaKa2
import Derived.Test.YtipaebflkebdjaaKa3
import Derived.Test.YtipaebflkebdjaaKa1
/-! The code's own batch, chapter 6: offset, unowned, owned, rightMarker, rightData: which errors a batch has. -/
namespace Go.Proofs.Ytipaebflkebdjaa
open Go.RowKit
open Go.SeqMath
open Go.BatMath
set_option linter.unusedVariables false

theorem batOffset_any (n : Int) (w : World) (r : Bool) (hr : (decide (0 ≤ n) && decide (n ≤ 1099511627776)) = r) :
 Calls Try.prog 80 #[.int .i64 n] w fun e w' => e = .returned (.bool r) ∧ w = w' := by
 by_cases h0 : 0 ≤ n
 · by_cases h1 : n ≤ 1099511627776
   · obtain rfl : r = true := by rw [← hr]; simp [h0, h1]
     clear hr
     go_enter Try.func80, Try.ntmps80
     go_wp2
     go_ret
     exact ⟨rfl, rfl⟩
   · obtain rfl : r = false := by rw [← hr]; simp [h1]
     have h1' : 1099511627776 < n := by omega
     clear hr
     go_enter Try.func80, Try.ntmps80
     go_wp2
     go_ret
     exact ⟨rfl, rfl⟩
 · obtain rfl : r = false := by rw [← hr]; simp [h0]
   have h0' : n < 0 := by omega
   clear hr
   go_enter Try.func80, Try.ntmps80
   go_wp2
   go_ret
   exact ⟨rfl, rfl⟩
theorem batOwned_any (w : World) (b0 b1 b2 b3 : Int) (b4 : Bool) (b5 : Int) (v : Value) (r : Bool) (hr : (decide (0 ≤ b1) && (decide (0 ≤ b2) && decide (b2 ≤ 32767))) = r) :
 Calls Try.prog 91 #[.agg #[.int .i64 b0, .int .i64 b1, .int .i64 b2, .int .i64 b3, .bool b4, .int .i64 b5, v]] w fun e w' => e = .returned (.bool r) ∧ Below w.heap.size w w' := by
 by_cases h0 : 0 ≤ b1
 · by_cases h1 : 0 ≤ b2
   · by_cases h2 : b2 ≤ 32767
     · obtain rfl : r = true := by rw [← hr]; simp [h0, h1, h2]
       clear hr
       go_enter Try.func91, Try.ntmps91
       go_wp2
       go_ret
       exact ⟨rfl, (Below.refl _ _).alloc (Nat.le_refl _) _⟩
     · obtain rfl : r = false := by rw [← hr]; simp [h2]
       have h2' : 32767 < b2 := by omega
       clear hr
       go_enter Try.func91, Try.ntmps91
       go_wp2
       go_ret
       exact ⟨rfl, (Below.refl _ _).alloc (Nat.le_refl _) _⟩
   · obtain rfl : r = false := by rw [← hr]; simp [h1]
     have h1' : b2 < 0 := by omega
     clear hr
     go_enter Try.func91, Try.ntmps91
     go_wp2
     go_ret
     exact ⟨rfl, (Below.refl _ _).alloc (Nat.le_refl _) _⟩
 · obtain rfl : r = false := by rw [← hr]; simp [h0]
   have h0' : b1 < 0 := by omega
   clear hr
   go_enter Try.func91, Try.ntmps91
   go_wp2
   go_ret
   exact ⟨rfl, (Below.refl _ _).alloc (Nat.le_refl _) _⟩
theorem batUnowned_any (w : World) (b0 b1 b2 b3 : Int) (b4 : Bool) (b5 : Int) (v : Value) (r : Bool) (hr : (decide (b1 = -1) && (decide (b2 = -1) && (decide (b3 = -1) && !b4))) = r) :
 Calls Try.prog 90 #[.agg #[.int .i64 b0, .int .i64 b1, .int .i64 b2, .int .i64 b3, .bool b4, .int .i64 b5, v]] w fun e w' => e = .returned (.bool r) ∧ Below w.heap.size w w' := by
 cases h1 : (b1 == -1)
 · obtain rfl : r = false := by rw [← hr]; have : ¬ b1 = -1 := by simpa using h1
                                simp [this]
   clear hr
   go_enter Try.func90, Try.ntmps90
   go_wp2
   go_ret
   exact ⟨rfl, (Below.refl _ _).alloc (Nat.le_refl _) _⟩
 · cases h2 : (b2 == -1)
   · obtain rfl : r = false := by rw [← hr]; have : ¬ b2 = -1 := by simpa using h2
                                  simp [this]
     clear hr
     go_enter Try.func90, Try.ntmps90
     go_wp2
     go_ret
     exact ⟨rfl, (Below.refl _ _).alloc (Nat.le_refl _) _⟩
   · cases h3 : (b3 == -1)
     · obtain rfl : r = false := by rw [← hr]; have : ¬ b3 = -1 := by simpa using h3
                                    simp [this]
       clear hr
       go_enter Try.func90, Try.ntmps90
       go_wp2
       go_ret
       exact ⟨rfl, (Below.refl _ _).alloc (Nat.le_refl _) _⟩
     · have q1 : b1 = -1 := by simpa using h1
       have q2 : b2 = -1 := by simpa using h2
       have q3 : b3 = -1 := by simpa using h3
       cases b4
       · obtain rfl : r = true := by rw [← hr]; simp [q1, q2, q3]
         clear hr q1 q2 q3
         go_enter Try.func90, Try.ntmps90
         go_wp2
         go_ret
         exact ⟨rfl, (Below.refl _ _).alloc (Nat.le_refl _) _⟩
       · obtain rfl : r = false := by rw [← hr]; simp
         clear hr q1 q2 q3
         go_enter Try.func90, Try.ntmps90
         go_wp2
         go_ret
         exact ⟨rfl, (Below.refl _ _).alloc (Nat.le_refl _) _⟩
def rmE (b : Bat) : Int := if (b.marker = 1 ∨ b.marker = 2) ∧ headB b = true ∧ b.seq = -1 ∧ b.txn = true ∧ b.recs = [] then 0 else 12
theorem rm_no {b : Bat} (h : ¬ ((b.marker = 1 ∨ b.marker = 2) ∧ headB b = true ∧ b.seq = -1 ∧ b.txn = true ∧ b.recs = [])) : rmE b = 12 := by unfold rmE; rw [if_neg h]
theorem rm_yes {b : Bat} (h : (b.marker = 1 ∨ b.marker = 2) ∧ headB b = true ∧ b.seq = -1 ∧ b.txn = true ∧ b.recs = []) : rmE b = 0 := by unfold rmE; rw [if_pos h]
set_option maxRecDepth 100000 in
theorem rightMarker_any (w : World) (b : Bat) (ad : Option Addr) (len cap : Nat) (hl : b.recs.length = len) :
 Calls Try.prog 82 #[.agg #[.int .i64 b.base, .int .i64 b.prod, .int .i64 b.epoch, .int .i64 b.seq, .bool b.txn, .int .i64 b.marker, .slice ad len cap]] w (Says (rmE b) w) := by
 have hne : (b.recs = []) = (len = 0) := by rw [← hl]; exact propext List.length_eq_zero_iff.symm
 have e12 := @rm_no b
 have e0 := @rm_yes b
 rw [hne] at e12 e0
 have hh : (decide (0 ≤ b.prod) && (decide (0 ≤ b.epoch) && decide (b.epoch ≤ 32767))) = headB b := rfl
 obtain ⟨hd, hdd⟩ : ∃ hd, hd = headB b := ⟨_, rfl⟩
 obtain ⟨ev, hev⟩ : ∃ ev, ev = rmE b := ⟨_, rfl⟩
 rw [← hev] at e12 e0 ⊢
 rw [← hdd] at e12 e0 hh
 clear hev hdd hne hl
 obtain ⟨base, prod, epoch, seq, txn, marker, recs⟩ := b
 simp only at e12 e0 hh ⊢
 have HH := Lib.hid hh
 have E12 := Lib.hid e12
 have E0 := Lib.hid e0
 clear hh e12 e0
 by_cases hm : marker = 1 ∨ marker = 2
 · cases hd
   · rcases hm with rfl | rfl
     all_goals
      go_enter Try.func82, Try.ntmps82
      go_wp2_with (go_at_call 91; refine (batOwned_any _ _ _ _ _ _ _ _ false HH.out).mono ?_; rintro e w1 ⟨rfl, hb⟩; obtain ⟨hc, hf⟩ := bcell hb; have HB := Lib.hid hb; clear hb)
      go_ret
      exact says_mk (E12.out (by rintro ⟨_, h, _⟩; cases h)).symm (((Below.refl _ _).alloc (Nat.le_refl _) _).trans (HB.out.mono (by simp)))
   · cases h3 : (seq == -1)
     · have h3' : ¬ seq = -1 := by simpa using h3
       have h3n : (seq != -1) = true := by simpa using h3
       have H3 := Lib.hid h3'
       clear h3'
       rcases hm with rfl | rfl
       all_goals
        go_enter Try.func82, Try.ntmps82
        go_wp2_with (go_at_call 91; refine (batOwned_any _ _ _ _ _ _ _ _ true HH.out).mono ?_; rintro e w1 ⟨rfl, hb⟩; obtain ⟨hc, hf⟩ := bcell hb; have HB := Lib.hid hb; clear hb)
        go_ret
        exact says_mk (E12.out (by rintro ⟨_, _, h, _⟩; exact H3.out h)).symm (((Below.refl _ _).alloc (Nat.le_refl _) _).trans (HB.out.mono (by simp)))
     · have h3' : seq = -1 := by simpa using h3
       have h3n : (seq != -1) = false := by simpa using h3
       have H3 := Lib.hid h3'
       clear h3'
       cases txn
       · rcases hm with rfl | rfl
         all_goals
          go_enter Try.func82, Try.ntmps82
          go_wp2_with (go_at_call 91; refine (batOwned_any _ _ _ _ _ _ _ _ true HH.out).mono ?_; rintro e w1 ⟨rfl, hb⟩; obtain ⟨hc, hf⟩ := bcell hb; have HB := Lib.hid hb; clear hb)
          go_ret
          exact says_mk (E12.out (by rintro ⟨_, _, _, h, _⟩; cases h)).symm (((Below.refl _ _).alloc (Nat.le_refl _) _).trans (HB.out.mono (by simp)))
       · by_cases hl : 0 < len
         · rcases hm with rfl | rfl
           all_goals
            go_enter Try.func82, Try.ntmps82
            go_wp2_with (go_at_call 91; refine (batOwned_any _ _ _ _ _ _ _ _ true HH.out).mono ?_; rintro e w1 ⟨rfl, hb⟩; obtain ⟨hc, hf⟩ := bcell hb; have HB := Lib.hid hb; clear hb)
            go_ret
            exact says_mk (E12.out (by rintro ⟨_, _, _, _, h⟩; omega)).symm (((Below.refl _ _).alloc (Nat.le_refl _) _).trans (HB.out.mono (by simp)))
         · obtain rfl : len = 0 := by omega
           clear hl
           rcases hm with rfl | rfl
           all_goals
            go_enter Try.func82, Try.ntmps82
            go_wp2_with (go_at_call 91; refine (batOwned_any _ _ _ _ _ _ _ _ true HH.out).mono ?_; rintro e w1 ⟨rfl, hb⟩; obtain ⟨hc, hf⟩ := bcell hb; have HB := Lib.hid hb; clear hb)
            go_ret
            exact says_mk (E0.out ⟨by decide, trivial, H3.out, trivial, trivial⟩).symm (((Below.refl _ _).alloc (Nat.le_refl _) _).trans (HB.out.mono (by simp)))
 · have hm1 : (marker != 1) = true := by simp; omega
   have hm2 : (marker != 2) = true := by simp; omega
   have HM := Lib.hid hm
   clear hm
   go_enter Try.func82, Try.ntmps82
   go_wp2
   go_ret
   exact says_mk (E12.out (by rintro ⟨h, _⟩; exact HM.out h)).symm ((Below.refl _ _).alloc (Nat.le_refl _) _)
end Go.Proofs.Ytipaebflkebdjaa

/-! The code's own batch, chapter 6: rightData: which errors data have. -/
namespace Go.Proofs.Ytipaebflkebdjaa
open Go.RowKit
open Go.SeqMath
open Go.BatMath
set_option linter.unusedVariables false

noncomputable def rdE (b : Bat) : Int :=
 if (noneB b = true ∨ headB b = true ∧ rightB b.seq = true) ∧ b.recs ≠ [] then
  open Classical in if 16 < b.recs.length ∨ ∃ r ∈ b.recs, longRec r then 13 else 0
 else 12
theorem rd_none {b : Bat} (h : ¬ ((noneB b = true ∨ headB b = true ∧ rightB b.seq = true) ∧ b.recs ≠ [])) : rdE b = 12 := by unfold rdE; rw [if_neg h]
theorem rd_long {b : Bat} (h : (noneB b = true ∨ headB b = true ∧ rightB b.seq = true) ∧ b.recs ≠ []) (hl : 16 < b.recs.length ∨ ∃ r ∈ b.recs, longRec r) : rdE b = 13 := by unfold rdE; rw [if_pos h, if_pos hl]
theorem rd_fine {b : Bat} (h : (noneB b = true ∨ headB b = true ∧ rightB b.seq = true) ∧ b.recs ≠ []) (hl : ¬ (16 < b.recs.length ∨ ∃ r ∈ b.recs, longRec r)) : rdE b = 0 := by unfold rdE; rw [if_pos h, if_neg hl]
set_option maxRecDepth 100000 in
set_option maxHeartbeats 2000000 in
theorem rightData_any (w : World) (b : Bat) (ad : Option Addr) (len cap : Nat) (hr : RecsAt w ad len cap b.recs) (ht : TextsOk b.recs) (hL : len ≤ 140737488355328) :
 Calls Try.prog 81 #[.agg #[.int .i64 b.base, .int .i64 b.prod, .int .i64 b.epoch, .int .i64 b.seq, .bool b.txn, .int .i64 b.marker, .slice ad len cap]] w (Says (rdE b) w) := by
 have hne : (b.recs ≠ []) = (0 < b.recs.length) := propext List.length_pos_iff.symm
 have e12 := @rd_none b
 have e13 := @rd_long b
 have e0 := @rd_fine b
 rw [hne] at e12 e13 e0
 obtain ⟨ev, hev⟩ : ∃ ev, ev = rdE b := ⟨_, rfl⟩
 rw [← hev] at e12 e13 e0 ⊢
 have hh : (decide (0 ≤ b.prod) && (decide (0 ≤ b.epoch) && decide (b.epoch ≤ 32767))) = headB b := rfl
 have hnn : (decide (b.prod = -1) && (decide (b.epoch = -1) && (decide (b.seq = -1) && !b.txn))) = noneB b := rfl
 obtain ⟨hd, hdd⟩ : ∃ hd, hd = headB b := ⟨_, rfl⟩
 obtain ⟨nn, hnd⟩ : ∃ nn, nn = noneB b := ⟨_, rfl⟩
 rw [← hdd] at e12 e13 e0 hh
 rw [← hnd] at e12 e13 e0 hnn
 clear hev hdd hnd hne
 obtain ⟨base, prod, epoch, seq, txn, marker, recs⟩ := b
 simp only at e12 e13 e0 hh hr ht hnn ⊢
 obtain ⟨rt, hrt⟩ : ∃ rt, rightB seq = rt := ⟨_, rfl⟩
 rw [hrt] at e12 e13 e0
 have hlen := hr.length
 rw [hlen] at e12 e13 e0
 have HH := Lib.hid hh
 have HRT := Lib.hid hrt
 have HN := Lib.hid hnn
 have E12 := Lib.hid e12
 have E13 := Lib.hid e13
 have E0 := Lib.hid e0
 have HR := Lib.hid hr
 have HT := Lib.hid ht
 have HLEN := Lib.hid hlen
 clear hh hrt hnn e12 e13 e0 hr ht hlen
 go_enter Try.func81, Try.ntmps81
 go_upto_region 1 with fail
 go_cut [17] from 5 (fun s17 wx => s17 = .bool (!(nn || (hd && rt))) ∧ Hid (BoxAt wx w.heap.size base prod epoch seq txn marker (.slice ad len cap)) ∧ Hid (Below w.heap.size w wx))
 case first =>
  have HB0 : Hid (Below w.heap.size w (w.alloc (.cells #[.int .i64 base, .int .i64 prod, .int .i64 epoch, .int .i64 seq, .bool txn, .int .i64 marker, .slice ad len cap] 52))) := (Below.refl _ _).alloc (Nat.le_refl _) _
  have HX0 := Lib.hid (boxAt_new w base prod epoch seq txn marker (.slice ad len cap))
  cases nn
  · cases hd
    · go_wp2_with (first | (go_at_call 90; refine (batUnowned_any _ _ _ _ _ _ _ _ false HN.out).mono ?_; rintro e w1 ⟨rfl, hb⟩; have HB1 := Lib.hid (HB0.out.trans (hb.mono HB0.out.size)); have HX1 := Lib.hid (HX0.out.on hb); clear hb; have hc0 := HX1.out.c0; have hc1 := HX1.out.c1; have hc2 := HX1.out.c2; have hc3 := HX1.out.c3; have hc4 := HX1.out.c4; have hc5 := HX1.out.c5; have hc6 := HX1.out.c6) | (go_at_call 91; refine (batOwned_any _ _ _ _ _ _ _ _ false HH.out).mono ?_; rintro e w2 ⟨rfl, hb⟩; have HB2 := Lib.hid (HB1.out.trans (hb.mono HB1.out.size)); have HX2 := Lib.hid (HX1.out.on hb); clear hb))
      go_meet
      case rel => exact ⟨by simp, HX2, HB2⟩
    · cases rt
      all_goals
       go_wp2_with (first | (go_at_call 90; refine (batUnowned_any _ _ _ _ _ _ _ _ false HN.out).mono ?_; rintro e w1 ⟨rfl, hb⟩; have HB1 := Lib.hid (HB0.out.trans (hb.mono HB0.out.size)); have HX1 := Lib.hid (HX0.out.on hb); clear hb; have hc0 := HX1.out.c0; have hc1 := HX1.out.c1; have hc2 := HX1.out.c2; have hc3 := HX1.out.c3; have hc4 := HX1.out.c4; have hc5 := HX1.out.c5; have hc6 := HX1.out.c6) | (go_at_call 91; refine (batOwned_any _ _ _ _ _ _ _ _ true HH.out).mono ?_; rintro e w2 ⟨rfl, hb⟩; have HB2 := Lib.hid (HB1.out.trans (hb.mono HB1.out.size)); have HX2 := Lib.hid (HX1.out.on hb); clear hb hc0 hc1 hc2 hc3 hc4 hc5 hc6; have hc3 := HX2.out.c3) | (go_at_call 92; refine (seq_right _ _ _ HRT.out).mono ?_; rintro e w' ⟨rfl, rfl⟩))
       go_meet
       case rel => exact ⟨by simp, HX2, HB2⟩
  · go_wp2_with (first | (go_at_call 90; refine (batUnowned_any _ _ _ _ _ _ _ _ true HN.out).mono ?_; rintro e w1 ⟨rfl, hb⟩; have HB1 := Lib.hid (HB0.out.trans (hb.mono HB0.out.size)); have HX1 := Lib.hid (HX0.out.on hb); clear hb))
    go_meet
    case rel => exact ⟨by simp, HX1, HB1⟩
 case rest =>
  obtain ⟨rfl, HBX, HBW⟩ := hcut
  obtain ⟨cnd, hcn⟩ : ∃ cnd, cnd = (nn || (hd && rt)) := ⟨_, rfl⟩
  rw [← hcn]
  cases cnd
  · have HC := Lib.hid hcn.symm
    clear hcn
    go_wp2
    go_ret
    refine says_mk (E12.out ?_).symm HBW.out
    rintro ⟨q1, q2⟩
    have hx := HC.out
    rcases q1 with q1 | ⟨q1, q3⟩
    · rw [q1] at hx; simp at hx
    · rw [q1, q3] at hx; simp at hx
  · have hcn2 : nn = true ∨ hd = true ∧ rt = true := by simpa using hcn.symm
    have HC0 := Lib.hid hcn2
    clear hcn hcn2
    have hc6 := HBX.out.c6
    by_cases hlen : len = 0
    · subst hlen
      go_wp2
      go_ret
      exact says_mk (E12.out (by rintro ⟨_, h⟩; omega)).symm HBW.out
    have hl0 : ((len : Int) == 0) = false := by simp; omega
    have HC : Hid ((nn = true ∨ hd = true ∧ rt = true) ∧ 0 < len) := ⟨HC0.out, by omega⟩
    by_cases h16 : 16 < len
    · go_wp2
      go_ret
      exact says_mk (E13.out HC.out (.inl h16)).symm HBW.out
    · have h16' : len ≤ 16 := by omega
      go_wp2_with fail
      go_loopw [29] (fun v29 wr => PlainAt w recs v29 wr) (fun v29 _ => len - (intOf v29).toNat)
      case atStart => exact plainAt_start w _ recs HBW.out
      case round =>
       obtain ⟨j, hj, rfl, hno, hbel⟩ := hrel
       have HNO := Lib.hid hno
       have HBEL := Lib.hid hbel
       rw [HLEN.out] at hj
       clear hno hbel
       by_cases hlt : j < len
       · obtain ⟨r, hrj⟩ : ∃ r, recs[j]? = some r := by
          have hjl : j < recs.length := by rw [HLEN.out]; exact hlt
          exact ⟨_, List.getElem?_eq_getElem hjl⟩
         obtain ⟨bk, off, rfl, hbk, hcell⟩ : ∃ bk off, ad = some ⟨bk, off, none⟩ ∧ bk < w.heap.size ∧ ∀ i r, recs[i]? = some r → wr.cell? ⟨bk, off + i * 2, none⟩ = some (.string r.key) ∧ wr.cell? ⟨bk, off + i * 2 + 1, none⟩ = some (.string r.val) := by
          rcases HR.out.cells with h | ⟨bk, off, e, hlt, hc⟩
          · omega
          · exact ⟨bk, off, e, hlt, fun i r hi => ⟨(HBEL.out.cell (p := ⟨bk, _, none⟩) hlt).trans (hc i r hi).1, (HBEL.out.cell (p := ⟨bk, _, none⟩) hlt).trans (hc i r hi).2⟩⟩
         obtain ⟨hk, hv⟩ := hcell j r hrj
         obtain ⟨hs1, hs2⟩ := HT.out r (List.mem_of_getElem? hrj)
         obtain ⟨ks, vs⟩ := r
         simp only at hk hv hs1 hs2
         have HRJ := Lib.hid hrj
         have HMEM : Hid ((⟨ks, vs⟩ : Rc) ∈ recs) := List.mem_of_getElem? hrj
         clear hcell hrj
         by_cases hk64 : 64 < ks.size
         · go_wp2
           go_ret
           exact says_mk (E13.out HC.out (.inr ⟨⟨ks, vs⟩, HMEM.out, .inl hk64⟩)).symm (HBEL.out.alloc HBEL.out.size _)
         · have hk64' : ks.size ≤ 64 := by omega
           by_cases hv64 : 64 < vs.size
           · go_wp2
             go_ret
             exact says_mk (E13.out HC.out (.inr ⟨⟨ks, vs⟩, HMEM.out, .inr hv64⟩)).symm (HBEL.out.alloc HBEL.out.size _)
           · have hv64' : vs.size ≤ 64 := by omega
             have HNO2 : Hid (∀ i r, i < j + 1 → recs[i]? = some r → ¬ longRec r) := by
              intro i r hi hir
              by_cases e : i = j
              · subst e
                rw [HRJ.out] at hir
                cases hir
                rintro (h | h)
                · exact hk64 h
                · exact hv64 h
              · exact HNO.out i r (by omega) hir
             have HLE : Hid (j + 1 ≤ recs.length) := by show _ ≤ _; rw [HLEN.out]; exact hlt
             go_wp2
             go_roundw
             case rel => (repeat apply Exists.intro); exact ⟨⟨j + 1, HLE.out, by go_num, HNO2.out, HBEL.out.alloc HBEL.out.size _⟩, rfl⟩
             case measure => simp [intOf]; omega
       · obtain rfl : j = len := by omega
         go_wp2
         go_ret
         refine says_mk (E0.out HC.out ?_).symm HBEL.out
         rintro (h | h)
         · omega
         · exact not_long (by rw [HLEN.out]; exact HNO.out) h
end Go.Proofs.Ytipaebflkebdjaa

/-! The code's own batch, chapter 6: split, record, length, kind, Count. -/
namespace Go.Proofs.Ytipaebflkebdjaa
open Go.RowKit
open Go.SeqMath
open Go.BatMath hiding AllB getD_lt take_all
open Go.VarMath (longB length_longB textB beB length_beB beB_take)
set_option linter.unusedVariables false

/-- What stands before round i of split's loop. -/
def SplitAt (w : World) (K u i : Nat) (wr : World) : Prop := Own wr w.heap.size ((beB K u).take i ++ List.replicate (K - i) 0) ∧ Below w.heap.size w wr
theorem SplitAt.free {w wr : World} {K u i : Nat} (h : SplitAt w K u i wr) (j : Nat) : wr.frozen? ⟨w.heap.size, j, none⟩ = false := h.1.free j
theorem SplitAt.cell {w wr : World} {K u i : Nat} (h : SplitAt w K u i wr) (hi : i < K) : ∃ x, wr.cell? ⟨w.heap.size, i, none⟩ = some x := ⟨_, h.1.cell i (by simp [length_beB]; omega)⟩
theorem SplitAt.next {w wr : World} {K u i z : Nat} (h : SplitAt w K u i wr) (hi : i < K) (hz : z = u / 256 ^ (K - 1 - i) % 256) : SplitAt w K u (i + 1) (wr.setCell ⟨w.heap.size, i, none⟩ (.int .u8 (z : Int))) := by
 refine ⟨?_, h.2.setCell (Nat.le_refl _) _⟩
 have hs := h.1.set i z
 have e : ((beB K u).take i ++ List.replicate (K - i) 0).set i z = (beB K u).take (i + 1) ++ List.replicate (K - (i + 1)) 0 := by
  rw [beB_take i K u hi, ← hz]
  have hl : ((beB K u).take i).length = i := by rw [List.length_take, length_beB]; omega
  obtain ⟨m, hm⟩ : ∃ m, K - i = m + 1 := ⟨K - i - 1, by omega⟩
  rw [hm, show K - (i + 1) = m by omega, List.set_append_right _ _ (by omega), hl, Nat.sub_self, List.replicate_succ, List.set_cons_zero, List.append_assoc]
  rfl
 rw [e] at hs
 exact hs
set_option maxRecDepth 100000 in
theorem record_any (w : World) (ks vs : ByteArray) (h1 : ks.size ≤ 4096) (h2 : vs.size ≤ 4096) :
 Calls Try.prog 93 #[.agg #[.string ks, .string vs]] w (GivesRow w (recB ⟨ks, vs⟩)) := by
 have l1 := BatMath.text_len (s := bl ks) (by rw [bl_len]; omega)
 have l2 := BatMath.text_len (s := bl vs) (by rw [bl_len]; omega)
 rw [bl_len] at l1 l2
 obtain ⟨n1, hn1⟩ : ∃ n1, n1 = (textB (bl ks)).length := ⟨_, rfl⟩
 obtain ⟨n2, hn2⟩ : ∃ n2, n2 = (textB (bl vs)).length := ⟨_, rfl⟩
 rw [← hn1] at l1
 rw [← hn2] at l2
 have HN1 : Hid (([] ++ textB (bl ks)).length = n1) := by show _ = _; rw [List.nil_append, hn1]
 have HN2 : Hid ((([] ++ textB (bl ks)) ++ textB (bl vs)).length = n1 + n2) := by show _ = _; rw [List.length_append, HN1.out, hn2]
 have HA1 : Hid (AllB ([] ++ textB (bl ks))) := by show AllB _; rw [List.nil_append]; exact text_all (bl_all _) (by rw [bl_len]; omega)
 clear hn1 hn2
 obtain ⟨wx, hwx⟩ : ∃ wx, wx = w.alloc (.cells #[.string ks, .string vs] 59) := ⟨_, rfl⟩
 have hd0 : wx.cell? ⟨w.heap.size, 0, none⟩ = some (.string ks) := by rw [hwx, World.cell?, heap_alloc_new]; rfl
 have hd1 : wx.cell? ⟨w.heap.size, 1, none⟩ = some (.string vs) := by rw [hwx, World.cell?, heap_alloc_new]; rfl
 have HWX := Lib.hid hwx
 have HBX : Hid (Below w.heap.size w wx) := by show Below _ _ _; rw [hwx]; exact (Below.refl _ _).alloc (Nat.le_refl _) _
 have CT : Hid (∀ W, Below wx.heap.size wx W → Calls Try.prog 96 #[.slice none 0 0, .string ks] W (GivesRow W ([] ++ textB (bl ks)))) := by
  intro W hW
  exact text_any W none 0 0 [] ks ⟨Byt.nil W, fun _ => rfl⟩ (by omega)
 clear hwx
 go_enter Try.func93, Try.ntmps93
 go_upto_region 1 with fail
 rw [← HWX.out]
 go_region_held3 (fun W => Below wx.heap.size wx W ∧ W.cell? ⟨w.heap.size, 0, none⟩ = some (.string ks) ∧ W.cell? ⟨w.heap.size, 1, none⟩ = some (.string vs)) (first | exact keep_two hb6.out hd0 hd1 | exact keep_two hb5.out hd0 hd1 | exact keep_two ((Below.refl _ wx).drew) hd0 hd1) (first | (go_at_call 96; refine (text_any _ _ _ _ _ vs (owns_row ho5.out HA1.out) (by omega)).mono ?_; rintro e w6 hg; obtain ⟨g6, k6, rfl, ho6, hb6, hbb6⟩ := gives_on (w := wx) (n := n1 + n2) hg hb5.out HN2.out) | (go_at_call 96; refine (CT.out _ ?_).mono ?_; exact (And.left ‹Below wx.heap.size wx _ ∧ _›); rintro e w5 hg; obtain ⟨g5, k5, rfl, ho5, hb5, hbb5⟩ := gives_on (w := wx) (n := n1) hg (And.left ‹Below wx.heap.size wx _ ∧ _›) HN1.out))
 go_wp2
 go_ret
 exact gives_row (by rw [recB, ← HN2.out]; rfl) (by rw [recB]; exact owns_low ho6.out HBX.out.size) (HBX.out.trans (hb6.out.mono HBX.out.size))
/-- What stands before round j of length's loop. -/
def LenAt (w : World) (l : List Rc) (v3 v9 : Value) (wr : World) : Prop := ∃ j : Nat, j ≤ l.length ∧ v9 = .int .i64 j ∧ v3 = .int .i64 ((36 + (recsB (l.take j)).length : Nat) : Int) ∧ Below w.heap.size w wr
theorem lenAt_start {w W : World} {l : List Rc} (h : Below w.heap.size w W) : LenAt w l (.int .i64 36) (.int .i64 0) W := ⟨0, Nat.zero_le _, rfl, by simp [recsB], h⟩
set_option maxRecDepth 100000 in
set_option maxHeartbeats 1000000 in
theorem length_any (w : World) (b : Bat) (ad : Option Addr) (len cap : Nat) (hr : RecsAt w ad len cap b.recs) (ht : ∀ r ∈ b.recs, r.key.size ≤ 64 ∧ r.val.size ≤ 64) (hL : len ≤ 255) :
 Calls Try.prog 83 #[.agg #[.int .i64 b.base, .int .i64 b.prod, .int .i64 b.epoch, .int .i64 b.seq, .bool b.txn, .int .i64 b.marker, .slice ad len cap]] w (Says ((bytesB b).length : Int) w) := by
 have hbl := bytes_len b
 have hlr := hr.length
 have HR := Lib.hid hr
 have HT := Lib.hid ht
 have HLR := Lib.hid hlr
 have HBL := Lib.hid hbl
 clear hr ht hlr hbl
 obtain ⟨N, hN⟩ : ∃ N, N = (bytesB b).length := ⟨_, rfl⟩
 rw [← hN] at HBL ⊢
 clear hN
 obtain ⟨base, prod, epoch, seq, txn, marker, recs⟩ := b
 simp only at HR HT HLR HBL ⊢
 have HX := Lib.hid (boxAt_new w base prod epoch seq txn marker (.slice ad len cap))
 have HB : Hid (Below w.heap.size w (w.alloc (.cells #[.int .i64 base, .int .i64 prod, .int .i64 epoch, .int .i64 seq, .bool txn, .int .i64 marker, .slice ad len cap] 52))) := (Below.refl _ _).alloc (Nat.le_refl _) _
 go_enter Try.func83, Try.ntmps83
 go_wp2_with fail
 go_loopw [3, 9] (fun v3 v9 wr => LenAt w recs v3 v9 wr) (fun _ v9 _ => len - (intOf v9).toNat)
 case atStart => exact lenAt_start HB.out
 case round =>
  obtain ⟨j, hj, rfl, rfl, hbel⟩ := hrel
  have HBEL := Lib.hid hbel
  clear hbel
  rw [HLR.out] at hj
  have hsm : (recsB (recs.take j)).length ≤ 37740 := by
   have h1 := (recs_len (take_texts HT.out j)).2
   have h2 : (recs.take j).length ≤ 255 := by rw [List.length_take]; have := HLR.out; omega
   omega
  obtain ⟨m, hm⟩ : ∃ m, m = 36 + (recsB (recs.take j)).length := ⟨_, rfl⟩
  rw [← hm]
  have hm1 : m ≤ 40000 := by omega
  clear hsm
  by_cases hlt : j < len
  · obtain ⟨r, hrj⟩ : ∃ r, recs[j]? = some r := by
     have hjl : j < recs.length := by rw [HLR.out]; exact hlt
     exact ⟨_, List.getElem?_eq_getElem hjl⟩
    obtain ⟨bk, off, rfl, hbk, hcell⟩ : ∃ bk off, ad = some ⟨bk, off, none⟩ ∧ bk < w.heap.size ∧ ∀ i r, recs[i]? = some r → wr.cell? ⟨bk, off + i * 2, none⟩ = some (.string r.key) ∧ wr.cell? ⟨bk, off + i * 2 + 1, none⟩ = some (.string r.val) := by
     rcases HR.out.cells with h | ⟨bk, off, e, hlt, hc⟩
     · omega
     · exact ⟨bk, off, e, hlt, fun i r hi => ⟨(HBEL.out.cell (p := ⟨bk, _, none⟩) hlt).trans (hc i r hi).1, (HBEL.out.cell (p := ⟨bk, _, none⟩) hlt).trans (hc i r hi).2⟩⟩
    obtain ⟨hk, hv⟩ := hcell j r hrj
    obtain ⟨hs1, hs2⟩ := HT.out r (List.mem_of_getElem? hrj)
    have hsn := take_recs hrj
    have hrl := rec_len ⟨hs1, hs2⟩
    obtain ⟨q, hq⟩ : ∃ q, q = (recB r).length := ⟨_, rfl⟩
    have HM2 : Hid (36 + (recsB (recs.take (j + 1))).length = m + q) := by show _ = _; rw [hsn, List.length_append, hq, hm]; omega
    rw [← hq] at hrl
    have HQ := Lib.hid hq
    obtain ⟨ks, vs⟩ := r
    simp only at hk hv hs1 hs2
    have HLE : Hid (j + 1 ≤ recs.length) := by show _ ≤ _; rw [HLR.out]; exact hlt
    have HBA : Hid (Below w.heap.size w (wr.alloc (.cells #[.string ks, .string vs] 59))) := HBEL.out.alloc HBEL.out.size _
    clear hcell hrj hsn hq hm
    go_wp2_with fail
    refine (record_any _ ks vs (by omega) (by omega)).mono ?_
    rintro e w2 hg
    obtain ⟨g2, c2, rfl, _, hb2, _⟩ := gives_on hg HBA.out HQ.out.symm
    clear hg
    go_wp2
    go_roundw
    case rel => exact ⟨j + 1, HLE.out, by go_num, by rw [HM2.out]; go_num, hb2.out⟩
    case measure => simp [intOf]; omega
  · obtain rfl : j = len := by omega
    have hrl : recs.take j = recs := by rw [List.take_of_length_le (by rw [HLR.out]; exact Nat.le_refl _)]
    have HMN : Hid (m = N) := by show _ = _; rw [hm, HBL.out, hrl]
    clear hrl hm
    go_wp2
    go_ret
    exact says_mk (by rw [HMN.out]) HBEL.out
theorem batCount_any (w : World) (b0 b1 b2 b3 : Int) (b4 : Bool) (b5 : Int) (ad : Option Addr) (len cap : Nat) (n : Int) (hn : (if b5 ≠ 0 then 1 else (len : Int)) = n) :
 Calls Try.prog 70 #[.agg #[.int .i64 b0, .int .i64 b1, .int .i64 b2, .int .i64 b3, .bool b4, .int .i64 b5, .slice ad len cap]] w (Says n w) := by
 by_cases h : b5 = 0
 · subst h
   obtain rfl : (len : Int) = n := by rw [← hn, if_neg (by decide)]
   clear hn
   go_enter Try.func70, Try.ntmps70
   go_wp2
   go_ret
   exact says_mk rfl ((Below.refl _ _).alloc (Nat.le_refl _) _)
 · have h1 : (b5 != 0) = true := by simpa using h
   obtain rfl : 1 = n := by rw [← hn, if_pos h]
   clear hn
   go_enter Try.func70, Try.ntmps70
   go_wp2
   go_ret
   exact says_mk rfl ((Below.refl _ _).alloc (Nat.le_refl _) _)
end Go.Proofs.Ytipaebflkebdjaa

/-! The code's own batch, chapter 6: Right, Size. -/
namespace Go.Proofs.Ytipaebflkebdjaa
open Go.RowKit
open Go.SeqMath
open Go.BatMath hiding AllB getD_lt take_all
set_option linter.unusedVariables false

theorem right_low {b : Bat} (h : ¬ (0 ≤ b.base ∧ b.base ≤ 1099511627776)) : rightE b = 18 := by
 unfold rightE; rw [if_pos (by omega)]
theorem right_rd {b : Bat} (h : 0 ≤ b.base ∧ b.base ≤ 1099511627776) (hm : b.marker = 0) : rightE b = rdE b := by
 unfold rightE rdE; rw [if_neg (by omega), if_neg (by simpa using hm)]
theorem right_rm {b : Bat} (h : 0 ≤ b.base ∧ b.base ≤ 1099511627776) (hm : b.marker ≠ 0) : rightE b = rmE b := by
 unfold rightE rmE; rw [if_neg (by omega), if_pos hm]
set_option maxRecDepth 100000 in
theorem batRight_any (w : World) (b : Bat) (ad : Option Addr) (len cap : Nat) (hr : RecsAt w ad len cap b.recs) (ht : TextsOk b.recs) (hL : len ≤ 140737488355328) :
 Calls Try.prog 68 #[.agg #[.int .i64 b.base, .int .i64 b.prod, .int .i64 b.epoch, .int .i64 b.seq, .bool b.txn, .int .i64 b.marker, .slice ad len cap]] w (Says (rightE b) w) := by
 have e18 := @right_low b
 have eD := @right_rd b
 have eM := @right_rm b
 have hlr := hr.length
 have CD : Hid (∀ W, Below w.heap.size w W → Calls Try.prog 81 #[.agg #[.int .i64 b.base, .int .i64 b.prod, .int .i64 b.epoch, .int .i64 b.seq, .bool b.txn, .int .i64 b.marker, .slice ad len cap]] W (Says (rdE b) W)) := fun W hW => rightData_any W b ad len cap (hr.keep hW) ht hL
 have CM : Hid (∀ W, Below w.heap.size w W → Calls Try.prog 82 #[.agg #[.int .i64 b.base, .int .i64 b.prod, .int .i64 b.epoch, .int .i64 b.seq, .bool b.txn, .int .i64 b.marker, .slice ad len cap]] W (Says (rmE b) W)) := fun W hW => rightMarker_any W b ad len cap hlr
 have CL : Hid (rightE b = 0 → ∀ W, Below w.heap.size w W → Calls Try.prog 83 #[.agg #[.int .i64 b.base, .int .i64 b.prod, .int .i64 b.epoch, .int .i64 b.seq, .bool b.txn, .int .i64 b.marker, .slice ad len cap]] W (Says ((bytesB b).length : Int) W)) := by
  intro h W hW
  have ho := ok_of h
  exact length_any W b ad len cap (hr.keep hW) ho.texts (by have := ho.recs; omega)
 have HLE : Hid (rightE b = 0 → (bytesB b).length ≤ 4096) := by
  intro h
  have := (ok_len (ok_of h)).1
  omega
 obtain ⟨N, hN⟩ : ∃ N, N = (bytesB b).length := ⟨_, rfl⟩
 rw [← hN] at CL HLE
 obtain ⟨ev, hev⟩ : ∃ ev, ev = rightE b := ⟨_, rfl⟩
 rw [← hev] at e18 eD eM CL HLE ⊢
 obtain ⟨dv, hdv⟩ : ∃ dv, dv = rdE b := ⟨_, rfl⟩
 rw [← hdv] at eD CD
 obtain ⟨mv, hmv⟩ : ∃ mv, mv = rmE b := ⟨_, rfl⟩
 rw [← hmv] at eM CM
 clear hev hdv hmv hN hr ht hL hlr
 obtain ⟨base, prod, epoch, seq, txn, marker, recs⟩ := b
 simp only at CD CM CL e18 eD eM ⊢
 obtain ⟨W0, hW0⟩ : ∃ W0, W0 = (w.alloc (.cells #[.int .i64 base, .int .i64 prod, .int .i64 epoch, .int .i64 seq, .bool txn, .int .i64 marker, .slice ad len cap] 52)) := ⟨_, rfl⟩
 have HX := Lib.hid (show BoxAt W0 w.heap.size base prod epoch seq txn marker (.slice ad len cap) by rw [hW0]; exact boxAt_new w _ _ _ _ _ _ _)
 have HB := Lib.hid (show Below w.heap.size w W0 by rw [hW0]; exact (Below.refl _ _).alloc (Nat.le_refl _) _)
 have HW0 := Lib.hid hW0
 clear hW0
 have E18 := Lib.hid e18
 have ED := Lib.hid eD
 have EM := Lib.hid eM
 clear e18 eD eM
 go_enter Try.func68, Try.ntmps68
 go_wp2_with fail
 rw [← HW0.out]
 by_cases hb0 : 0 ≤ base ∧ base ≤ 1099511627776
 · refine (batOffset_any base _ true (by simp [hb0])).mono ?_
   rintro e w' ⟨rfl, rfl⟩
   have hc0 := HX.out.c0
   have hc1 := HX.out.c1
   have hc2 := HX.out.c2
   have hc3 := HX.out.c3
   have hc4 := HX.out.c4
   have hc5 := HX.out.c5
   have hc6 := HX.out.c6
   go_wp2_with fail
   refine (CD.out W0 HB.out).mono ?_
   rintro e w1 ⟨rfl, hb⟩
   have HX1 := Lib.hid (HX.out.on hb)
   have HB1 := Lib.hid (HB.out.trans (hb.mono HB.out.size))
   clear hb hc0 hc1 hc2 hc3 hc4 hc5 hc6
   have hc0 := HX1.out.c0
   have hc1 := HX1.out.c1
   have hc2 := HX1.out.c2
   have hc3 := HX1.out.c3
   have hc4 := HX1.out.c4
   have hc5 := HX1.out.c5
   have hc6 := HX1.out.c6
   have hlt1 := HX1.out.lt
   have hfz : ∀ j, w1.frozen? ⟨w.heap.size, j, none⟩ = false := HX1.out.free
   by_cases hm : marker = 0
   · have hm1 : (marker != 0) = false := by simpa using hm
     obtain rfl : ev = dv := ED.out hb0 hm
     have HM := Lib.hid hm
     clear hm
     by_cases h0 : ev = 0
     · have h1 : (ev != 0) = false := by simpa using h0
       have H0 := Lib.hid h0
       have hN4 := HLE.out h0
       clear h0
       go_wp2_with fail
       refine (CL.out H0.out w1 HB1.out).mono ?_
       rintro e w2 ⟨rfl, hb⟩
       have HB2 := Lib.hid (HB1.out.trans (hb.mono HB1.out.size))
       clear hb hc0 hc1 hc2 hc3 hc4 hc5 hc6
       go_wp2
       go_ret
       exact says_mk H0.out.symm HB2.out
     · have h1 : (ev != 0) = true := by simpa using h0
       go_wp2
       go_ret
       exact says_mk rfl HB1.out
   · have hm1 : (marker != 0) = true := by simpa using hm
     obtain rfl : ev = mv := EM.out hb0 hm
     have HM := Lib.hid hm
     clear hm
     go_wp2_with fail
     refine (CM.out w1 HB1.out).mono ?_
     rintro e w2 ⟨rfl, hb⟩
     have HX2 := Lib.hid (HX1.out.on hb)
     have HB2 := Lib.hid (HB1.out.trans (hb.mono HB1.out.size))
     clear hb hc0 hc1 hc2 hc3 hc4 hc5 hc6
     have hc0 := HX2.out.c0
     have hc1 := HX2.out.c1
     have hc2 := HX2.out.c2
     have hc3 := HX2.out.c3
     have hc4 := HX2.out.c4
     have hc5 := HX2.out.c5
     have hc6 := HX2.out.c6
     by_cases h0 : ev = 0
     · have h1 : (ev != 0) = false := by simpa using h0
       have H0 := Lib.hid h0
       have hN4 := HLE.out h0
       clear h0
       go_wp2_with fail
       refine (CL.out H0.out w2 HB2.out).mono ?_
       rintro e w3 ⟨rfl, hb⟩
       have HB3 := Lib.hid (HB2.out.trans (hb.mono HB2.out.size))
       clear hb hc0 hc1 hc2 hc3 hc4 hc5 hc6
       go_wp2
       go_ret
       exact says_mk H0.out.symm HB3.out
     · have h1 : (ev != 0) = true := by simpa using h0
       go_wp2
       go_ret
       exact says_mk rfl HB2.out
 · refine (batOffset_any base _ false (by
    rcases Classical.em (0 ≤ base) with h | h
    · have : ¬ base ≤ 1099511627776 := fun h2 => hb0 ⟨h, h2⟩
      simp [this]
    · simp [h])).mono ?_
   rintro e w' ⟨rfl, rfl⟩
   have H18 := Lib.hid (E18.out hb0)
   clear hb0
   go_wp2
   go_ret
   exact says_mk H18.out.symm HB.out
end Go.Proofs.Ytipaebflkebdjaa

/-! The code's own batch, chapter 6: body: what stands under the sum of a batch that is right. -/
namespace Go.Proofs.Ytipaebflkebdjaa
open Go.RowKit
open Go.SeqMath
open Go.BatMath hiding AllB getD_lt take_all
open Go.VarMath (longB length_longB textB beB length_beB)
set_option linter.unusedVariables false

end Go.Proofs.Ytipaebflkebdjaa

/-! The code's own batch, chapter 6: Bytes. -/
namespace Go.Proofs.Ytipaebflkebdjaa
open Go.RowKit
open Go.SeqMath
open Go.BatMath hiding AllB getD_lt take_all
open Go.VarMath (longB length_longB textB beB length_beB)
open Go.CrcMath (sealB)
set_option linter.unusedVariables false

end Go.Proofs.Ytipaebflkebdjaa

/-! The code's own batch, chapter 6: Same. -/
namespace Go.Proofs.Ytipaebflkebdjaa
open Go.RowKit
open Go.SeqMath
open Go.BatMath
set_option linter.unusedVariables false

end Go.Proofs.Ytipaebflkebdjaa
namespace Go.Proofs.Ytipaebflkebdjaa
open Go.RowKit
set_option linter.unusedVariables false

/-- 'Within' from 0 on gives a place up to the last one. -/
theorem within_in (n hi : Int) (w : World) (h0 : 0 ≤ n) (h1 : n ≤ hi) : Calls Try.prog 21 #[.int .i64 n, .int .i64 0, .int .i64 hi] w fun e w' => e = .returned (.int .i64 n) ∧ w = w' := by
 go_enter Try.func21, Try.ntmps21
 go_wp2
 go_ret
 exact ⟨rfl, rfl⟩
theorem as_nat {X hi : Int} {w : World} (h0 : 0 ≤ X) (h1 : X ≤ hi) : ∃ k : Nat, Ending.returned (.int .i64 X) = .returned (.int .i64 k) ∧ (k : Int) ≤ hi ∧ w = w :=
 ⟨X.toNat, by rw [Int.toNat_of_nonneg h0], by omega, rfl⟩
theorem within_any (n hi : Int) (w : World) (hn : -9223372036854775808 ≤ n ∧ n ≤ 9223372036854775807) (hh : 0 ≤ hi ∧ hi ≤ 281474976710656) :
 Calls Try.prog 21 #[.int .i64 n, .int .i64 0, .int .i64 hi] w fun e w' => ∃ k : Nat, e = .returned (.int .i64 k) ∧ (k : Int) ≤ hi ∧ w = w' := by
 by_cases h : 0 ≤ n ∧ n ≤ hi
 · refine (within_in n hi w h.1 h.2).mono ?_
   rintro e w' ⟨rfl, rfl⟩
   exact ⟨n.toNat, by rw [Int.toNat_of_nonneg h.1], by omega, rfl⟩
 · have hg : (decide (0 ≤ n) && decide (n ≤ hi)) = false := by
    simp only [Bool.and_eq_false_iff, decide_eq_false_iff_not]; omega
   have m1 : n.tmod (hi + 1) < hi + 1 := Int.tmod_lt_of_pos _ (by omega)
   have m2 : -(hi + 1) < n.tmod (hi + 1) := by
    have := Int.tmod_lt_of_pos (-n) (b := hi + 1) (by omega)
    rw [Int.neg_tmod] at this
    omega
   have m3 : n % (hi + 1) < hi + 1 := Int.emod_lt_of_pos _ (by omega)
   have m4 : 0 ≤ n % (hi + 1) := Int.emod_nonneg _ (by omega)
   go_enter Try.func21, Try.ntmps21
   go_wp2
   all_goals
    go_ret
    exact as_nat (by omega) (by omega)
end Go.Proofs.Ytipaebflkebdjaa
namespace Go.Proofs.Ytipaebflkebdjaa
open Go.RowKit
open Go.BatMath hiding AllB getD_lt take_all
set_option linter.unusedVariables false

/-- Block kt is a tape that stands at its i-th number. -/
structure TapeAt (w : World) (kt : Nat) (ad : Option Addr) (len cap i : Nat) : Prop where
 blk : w.heap[kt]? = some (.cells #[.slice ad len cap, .int .i64 (i : Int)] 65 (0, 0))
 le : i ≤ len
 big : len ≤ 140737488355328
 nums : ∀ j, j < len → ∃ b off n, ad = some ⟨b, off, none⟩ ∧ b < kt ∧ w.cell? ⟨b, off + j, none⟩ = some (.int .i64 n) ∧ In64 n
section
variable {w w' w1 w2 : World} {kt len cap i : Nat} {ad : Option Addr}
theorem TapeAt.c0 (h : TapeAt w kt ad len cap i) : w.cell? ⟨kt, 0, none⟩ = some (.slice ad len cap) := by rw [cell_of_row _ _ 0 _ _ _ h.blk]; rfl
theorem TapeAt.c1 (h : TapeAt w kt ad len cap i) : w.cell? ⟨kt, 1, none⟩ = some (.int .i64 (i : Int)) := by rw [cell_of_row _ _ 1 _ _ _ h.blk]; rfl
theorem TapeAt.free (h : TapeAt w kt ad len cap i) (j : Nat) : w.frozen? ⟨kt, j, none⟩ = false := frozen_of_row w kt j _ _ h.blk
theorem TapeAt.lt (h : TapeAt w kt ad len cap i) : kt < w.heap.size := lt_of_block h.blk
theorem TapeAt.on (h : TapeAt w kt ad len cap i) (hb : Below w.heap.size w w') : TapeAt w' kt ad len cap i := by
 refine ⟨(hb.block kt h.lt).trans h.blk, h.le, h.big, fun j hj => ?_⟩
 obtain ⟨b, off, n, e, hne, hc, hn⟩ := h.nums j hj
 exact ⟨b, off, n, e, hne, (hb.cell (World.block_lt_of_cell? _ _ hc)).trans hc, hn⟩
theorem TapeAt.drewN (h : TapeAt w kt ad len cap i) (n : Nat) : TapeAt (w.drewN n) kt ad len cap i := h.on (bel_drewN (Below.refl _ _) n)
theorem TapeAt.step (h : TapeAt w kt ad len cap i) (hi : i < len) (z : Int) (hz : z = ((i + 1 : Nat) : Int)) : TapeAt (w.setCell ⟨kt, 1, none⟩ (.int .i64 z)) kt ad len cap (i + 1) := by
 subst hz
 refine ⟨box_set h.blk 1 _, hi, h.big, fun j hj => ?_⟩
 obtain ⟨b, off, n, e, hne, hc, hn⟩ := h.nums j hj
 refine ⟨b, off, n, e, hne, ?_, hn⟩
 rw [World.cell?_of_block (a := ⟨b, off + j, none⟩) (w := w)]
 · exact hc
 · show (w.heap.modify kt _)[b]? = _
   rw [Array.getElem?_modify, if_neg (by omega)]
theorem TapeAt.grow {r : Option Nat} (h : TapeAt w kt ad len cap i) (hg : w.grownBy w' r) (hr : ∀ k, r = some k → kt < k) : TapeAt w' kt ad len cap i := by
 refine ⟨(hg.block kt h.lt (fun e => by have := hr kt e.symm; omega)).trans h.blk, h.le, h.big, fun j hj => ?_⟩
 obtain ⟨b, off, n, e, hne, hc, hn⟩ := h.nums j hj
 exact ⟨b, off, n, e, hne, hg.cell hc (fun e => by have := hr b e.symm; omega), hn⟩
theorem OwnRecs.tape {base : Nat} {v : Value} {l : List Rc} (h : OwnRecs w base v l) (hg : w.grownBy w' (some kt)) (hk : kt < base) : OwnRecs w' base v l := by
 refine ⟨h.1, ?_⟩
 rcases h.2 with hn | ⟨g, cap, cur, rfl, hbg, hh, r⟩
 · exact .inl hn
 · exact .inr ⟨g, cap, cur, rfl, hbg, (hg.block g (lt_of_block hh) (fun e => by have := Option.some.inj e; omega)).trans hh, r⟩
theorem RecsAt.tape {cap2 : Nat} {a : Option Addr} {l : List Rc} {n : Nat} (h : RecsAt w a n cap2 l) (hg : w.grownBy w' (some kt)) (hk : ∀ x, a = some x → x.block ≠ kt) : RecsAt w' a n cap2 l := by
 refine ⟨h.length, h.fits, h.room, ?_⟩
 rcases h.cells with h0 | ⟨b, off, e, hlt, hc⟩
 · exact .inl h0
 · refine .inr ⟨b, off, e, Nat.lt_of_lt_of_le hlt hg.size, fun i r hi => ?_⟩
   have hne : b ≠ kt := hk _ e
   obtain ⟨c1, c2⟩ := hc i r hi
   exact ⟨hg.cell c1 (fun e => hne (Option.some.inj e)), hg.cell c2 (fun e => hne (Option.some.inj e))⟩
theorem BoxAt.tape {k : Nat} {b0 b1 b2 b3 : Int} {b4 : Bool} {b5 : Int} {v : Value} (h : BoxAt w k b0 b1 b2 b3 b4 b5 v) (hg : w.grownBy w' (some kt)) (hk : k ≠ kt) : BoxAt w' k b0 b1 b2 b3 b4 b5 v := by
 unfold BoxAt at *
 rw [hg.block k (lt_of_block h) (fun e => hk (Option.some.inj e))]
 exact h
end
/-- A number of 0 to n - 1. -/
def GivesNext (w : World) (kt : Nat) (ad : Option Addr) (len cap : Nat) (n : Int) (e : Ending) (w' : World) : Prop :=
 ∃ (v : Int) (i : Nat), e = .returned (.int .i64 v) ∧ 0 ≤ v ∧ v < n ∧ TapeAt w' kt ad len cap i ∧ w.grownBy w' (some kt)
theorem gives_next {w w' : World} {kt : Nat} {ad : Option Addr} {len cap i : Nat} {n v : Int} (h0 : 0 ≤ v) (h1 : v < n) (ht : TapeAt w' kt ad len cap i) (hg : w.grownBy w' (some kt)) : GivesNext w kt ad len cap n (.returned (.int .i64 v)) w' := ⟨v, i, rfl, h0, h1, ht, hg⟩
set_option maxRecDepth 100000 in
set_option maxHeartbeats 2000000 in
theorem tapeNext_any (w : World) (kt : Nat) (ad : Option Addr) (len cap i : Nat) (n : Int) (h : TapeAt w kt ad len cap i) (n0 : 1 ≤ n) (n1 : n ≤ 1073741824) :
 Calls Try.prog 44 #[.pointer (some ⟨kt, 0, none⟩), .int .i64 n] w (GivesNext w kt ad len cap n) := by
 have H := Lib.hid h
 have hc0 := h.c0
 have hc1 := h.c1
 have hf1 := h.free 1
 have hle := h.le
 have hbig := h.big
 have hn1 : ¬ n < 1 := by omega
 have hnd : decide (n < 1) = false := by simp; omega
 by_cases hi : i < len
 · obtain ⟨b, off, z, rfl, hne, hcell, hz⟩ := h.nums i hi
   have hblt : b < w.heap.size := World.block_lt_of_cell? _ _ hcell
   have hge : decide (len ≤ i) = false := by simp; omega
   have hge2 : decide ((len : Int) ≤ (i : Int)) = false := by simp; omega
   have HC := Lib.hid hcell
   clear h hcell
   go_enter Try.func44, Try.ntmps44
   go_wp2_with fail
   go_quiet (fail)
   go_upto_region 3 with fail
   go_cut [] from 5 (fun wx => Hid (TapeAt wx kt (some ⟨b, off, none⟩) len cap (i + 1)) ∧ Hid (w.grownBy wx (some kt)))
   case first =>
    go_wp2
    go_meet
    case rel => exact ⟨(H.out.drewN _).step hi _ (by omega), grow_set (grow_drewN (grow_refl _ _) _) 1 _⟩
   case rest =>
    obtain ⟨HT, HG⟩ := hcut
    clear hc0 hc1 hf1
    have hc0 := HT.out.c0
    have hc1 : wc.cell? ⟨kt, 1, none⟩ = some (.int .i64 ((i : Int) + 1)) := HT.out.c1
    have hcx : wc.cell? ⟨b, off + i, none⟩ = some (.int .i64 z) := (World.cell?_of_block (a := ⟨b, off + i, none⟩) (HG.out.block b hblt (fun e => by have := Option.some.inj e; omega))).trans HC.out
    have hw1 : IntKind.i64.wrap ((i : Int) + 1 - 1) = (i : Int) := by rw [IntKind.wrap_i64]; omega
    have hw2 : IntKind.i64.wrap (i : Int) = (i : Int) := by rw [IntKind.wrap_i64]; omega
    have hi2 : (i : Int) < (len : Int) := by omega
    have hnz : (n == 0) = false := by simp; omega
    have hnz2 : ¬ n = 0 := by omega
    go_wp2_with fail
    go_region_held3 (fun W => Below wc.heap.size wc W ∧ W.cell? ⟨kt, 0, none⟩ = some (.slice (some ⟨b, off, none⟩) len cap) ∧ W.cell? ⟨kt, 1, none⟩ = some (.int .i64 ((i : Int) + 1)) ∧ W.cell? ⟨b, off + i, none⟩ = some (.int .i64 z)) (first | exact ‹Below _ _ _ ∧ _› | exact ⟨(Below.refl _ _).drew, hc0, hc1, hcx⟩) (first | (go_at_call 21; refine (within_any z 1073741824 _ hz (by omega)).mono ?_; rintro e w' ⟨k, rfl, hk, rfl⟩))
    go_wp2
    go_ret
    have hv1 : (k : Int).tmod n < n := Int.tmod_lt_of_pos _ (by omega)
    have hv0 : 0 ≤ (k : Int).tmod n := Int.tmod_nonneg _ (by omega)
    exact gives_next hv0 hv1 (HT.out.on (Below.refl _ _).drew) (grow_below HG.out (Below.refl _ _).drew)
 · obtain rfl : i = len := by omega
   have hge : decide (i ≤ i) = true := by simp
   have hge2 : decide ((i : Int) ≤ (i : Int)) = true := by simp
   clear h
   go_enter Try.func44, Try.ntmps44
   go_wp2_with fail
   go_quiet (fail)
   go_wp2
   go_ret
   exact gives_next (by omega) (by omega) (H.out.drewN _) (grow_drewN (grow_refl _ _) _)
/-- A short text. -/
def GivesText (w : World) (kt : Nat) (ad : Option Addr) (len cap : Nat) (e : Ending) (w' : World) : Prop :=
 ∃ (s : ByteArray) (i : Nat), e = .returned (.string s) ∧ s.size ≤ 64 ∧ TapeAt w' kt ad len cap i ∧ w.grownBy w' (some kt)
def shorts : List ByteArray := [⟨#[]⟩, ⟨#[97]⟩, ⟨#[107, 101, 121]⟩, ⟨#[228, 184, 150]⟩, ⟨#[116, 119, 111, 32, 119, 111, 114, 100, 115]⟩, ⟨#[98, 255]⟩, ⟨#[107, 50]⟩, ⟨#[61]⟩, ⟨#[97, 10, 98]⟩]
theorem shorts_size : ∀ s ∈ shorts, s.size ≤ 64 := by decide
set_option maxRecDepth 100000 in
set_option maxHeartbeats 2000000 in
theorem tapeText_any (w : World) (kt : Nat) (ad : Option Addr) (len cap i : Nat) (h : TapeAt w kt ad len cap i) :
 Calls Try.prog 71 #[.pointer (some ⟨kt, 0, none⟩)] w (GivesText w kt ad len cap) := by
 have HT := Lib.hid (h.on ((Below.refl w.heap.size w).alloc (Nat.le_refl _) (.cells (shorts.map Value.string).toArray 9)))
 have hrow : (w.alloc (.cells (shorts.map Value.string).toArray 9)).heap[w.heap.size]? = some (.cells (shorts.map Value.string).toArray 9 (0, 0)) := heap_alloc_new w _
 have HR := Lib.hid hrow
 have hne : w.heap.size ≠ kt := by have := h.lt; omega
 clear h hrow
 go_enter Try.func71, Try.ntmps71
 go_wp2_with fail
 refine (tapeNext_any _ kt ad len cap i 9 HT.out (by omega) (by omega)).mono ?_
 rintro e w1 ⟨v, i1, rfl, v0, v1, ht1, hg1⟩
 obtain ⟨k, rfl⟩ : ∃ k : Nat, v = (k : Int) := ⟨v.toNat, by omega⟩
 have hk9 : k < 9 := by omega
 obtain ⟨s, hs⟩ : ∃ s, shorts[k]? = some s := ⟨_, List.getElem?_eq_getElem hk9⟩
 have hcell : w1.cell? ⟨w.heap.size, k, none⟩ = some (.string s) := by
  have hb := (hg1.block w.heap.size (lt_of_block HR.out) (fun e => hne (Option.some.inj e))).trans HR.out
  rw [cell_of_row _ _ _ _ _ _ hb]
  simp [hs]
 have HS : Hid (s.size ≤ 64) := shorts_size s (List.mem_of_getElem? hs)
 have HG : Hid (w.grownBy w1 (some kt)) := grow_trans (grow_alloc (grow_refl _ _) _) hg1
 have HT1 := Lib.hid ht1
 clear hs hg1 ht1
 go_wp2
 go_ret
 exact ⟨s, i1, rfl, HS.out, HT1.out, HG.out⟩
theorem int_eq {a b : Int} (h : a = b) : Value.int .i64 a = .int .i64 b := by rw [h]
/-- One to most records, short ones, in new memory. -/
def GivesRecs (w : World) (kt : Nat) (ad : Option Addr) (len cap : Nat) (most : Nat) (e : Ending) (w' : World) : Prop :=
 ∃ (l : List Rc) (v : Value) (i : Nat), e = .returned v ∧ OwnRecs w' w.heap.size v l ∧ 1 ≤ l.length ∧ l.length ≤ most ∧ (∀ r ∈ l, r.key.size ≤ 64 ∧ r.val.size ≤ 64) ∧ TapeAt w' kt ad len cap i ∧ w.grownBy w' (some kt)
/-- What stands before a round: so many are left. -/
def RecsLoop (w : World) (kt : Nat) (ad : Option Addr) (len cap : Nat) (n : Nat) (v5 v6 : Value) (wr : World) : Prop :=
 ∃ (l : List Rc) (j i : Nat) (u : Value), u = v5 ∧ v6 = .int .i64 j ∧ l.length + j = n ∧ OwnRecs wr w.heap.size u l ∧ (∀ r ∈ l, r.key.size ≤ 64 ∧ r.val.size ≤ 64) ∧ TapeAt wr kt ad len cap i ∧ w.grownBy wr (some kt)
set_option maxRecDepth 100000 in
set_option maxHeartbeats 2000000 in
theorem tapeRecs_any (w : World) (kt : Nat) (ad : Option Addr) (len cap i : Nat) (most : Nat) (h : TapeAt w kt ad len cap i) (m0 : 1 ≤ most) (m1 : most ≤ 1000) :
 Calls Try.prog 61 #[.pointer (some ⟨kt, 0, none⟩), .int .i64 (most : Int)] w (GivesRecs w kt ad len cap most) := by
 have H := Lib.hid h
 have hkt := h.lt
 clear h
 go_enter Try.func61, Try.ntmps61
 go_wp2_with fail
 refine (tapeNext_any w kt ad len cap i (most : Int) H.out (by omega) (by omega)).mono ?_
 rintro e w1 ⟨v, i1, rfl, v0, v1, ht1, hg1⟩
 obtain ⟨k, rfl⟩ : ∃ k : Nat, v = (k : Int) := ⟨v.toNat, by omega⟩
 have hkm : k < most := by omega
 have HT1 := Lib.hid ht1
 have HG1 := Lib.hid hg1
 clear ht1 hg1 v0 v1
 go_wp2_with fail
 go_loopw [5, 6] (fun v5 v6 wr => RecsLoop w kt ad len cap (k + 1) v5 v6 wr) (fun _ v6 _ => (intOf v6).toNat)
 case atStart => exact ⟨[], k + 1, i1, _, rfl, by go_num, by simp, ownRecs_nil _ _, (fun r hr => by cases hr), HT1.out, HG1.out⟩
 case round =>
  obtain ⟨l, j, i2, u, rfl, rfl, hlj, hown, hsz, ht, hg⟩ := hrel
  have HLJ := Lib.hid hlj
  have HO := Lib.hid hown
  have HS := Lib.hid hsz
  have HT := Lib.hid ht
  have HG := Lib.hid hg
  have hjb : j ≤ 1001 := by omega
  clear hlj hown hsz ht hg
  by_cases hj : 0 < j
  · go_wp2_with fail
    refine (tapeText_any wr kt ad len cap i2 HT.out).mono ?_
    rintro e w2 ⟨s1, i3, rfl, hs1, ht2, hg2⟩
    have HT2 := Lib.hid ht2
    have HG2 := Lib.hid (grow_trans HG.out hg2)
    have HO2 := Lib.hid (HO.out.tape hg2 hkt)
    clear ht2 hg2
    go_wp2_with fail
    refine (tapeText_any w2 kt ad len cap i3 HT2.out).mono ?_
    rintro e w3 ⟨s2, i4, rfl, hs2, ht3, hg3⟩
    have HT3 := Lib.hid ht3
    have HG3 := Lib.hid (grow_trans HG2.out hg3)
    have HO3 := Lib.hid (HO2.out.tape hg3 hkt)
    clear ht3 hg3
    have HGA : Hid (w.grownBy (w3.alloc (.cells #[.string s1, .string s2] 59)) (some kt)) := grow_alloc HG3.out _
    go_wp2_with (at_builtin; refine list_recs (by rfl) (.tmp 15) (.tmp 21) rfl w.heap.size l [⟨s1, s2⟩] _ rfl (HO3.out.on ((Below.refl _ _).alloc (Nat.le_refl _) _)) HGA.out.size ⟨w3.heap.size, 0, none⟩ 1 1 rfl rfl (recNews_lit w3 s1 s2 _ rfl) (by have := HLJ.out; omega) ?_)
    intro v' w4 ho4 hg4
    have hrow : ∀ k, u.ownBlock = some k → w.heap.size ≤ k := fun k hk => (HO3.out.lt k hk).1
    have HT4 := Lib.hid ((HT3.out.on ((Below.refl _ _).alloc (Nat.le_refl _) (.cells #[.string s1, .string s2] 59))).grow hg4 (fun k hk => by have := hrow k hk; omega))
    have HG4 := Lib.hid (grow_own HGA.out hg4 hrow)
    have HO4 := Lib.hid ho4
    have HLJ4 : Hid ((l ++ [(⟨s1, s2⟩ : Rc)]).length + (j - 1) = k + 1) := by show _ = _; rw [List.length_append]; have := HLJ.out; simp; omega
    have HS4 : Hid (∀ r ∈ l ++ [(⟨s1, s2⟩ : Rc)], r.key.size ≤ 64 ∧ r.val.size ≤ 64) := by
     intro r hr
     rcases List.mem_append.1 hr with hr | hr
     · exact HS.out r hr
     · rw [List.mem_singleton.1 hr]; exact ⟨hs1, hs2⟩
    clear ho4 hg4 hrow
    go_wp2
    go_roundw
    case rel => exact ⟨_, j - 1, i4, _, rfl, int_eq (by omega), HLJ4.out, HO4.out, HS4.out, HT4.out, HG4.out⟩
    case measure =>
     simp [intOf]; omega
  · obtain rfl : j = 0 := by omega
    go_wp2
    go_ret
    exact ⟨l, u, i2, rfl, HO.out, by have := HLJ.out; omega, by have := HLJ.out; omega, HS.out, HT.out, HG.out⟩
end Go.Proofs.Ytipaebflkebdjaa
namespace Go.Proofs.Ytipaebflkebdjaa
open Go.RowKit
open Go.SeqMath
open Go.BatMath hiding AllB getD_lt take_all
set_option linter.unusedVariables false

theorem TapeAt.other {w : World} {kt len cap i k j : Nat} {ad : Option Addr} (h : TapeAt w kt ad len cap i) (hk : kt < k) (u : Value) : TapeAt (w.setCell ⟨k, j, none⟩ u) kt ad len cap i := by
 have hx : ∀ b, b < k → (w.setCell ⟨k, j, none⟩ u).heap[b]? = w.heap[b]? := fun b hb => by
  show (w.heap.modify k _)[b]? = _
  rw [Array.getElem?_modify, if_neg (by omega)]
 refine ⟨(hx kt hk).trans h.blk, h.le, h.big, fun j' hj => ?_⟩
 obtain ⟨b, off, n, e, hne, hc, hn⟩ := h.nums j' hj
 exact ⟨b, off, n, e, hne, (World.cell?_of_block (a := ⟨b, off + j', none⟩) (hx b (by omega))).trans hc, hn⟩
/-- Block kt is a tape, wherever it stands. -/
def TapeT (w : World) (kt : Nat) (ad : Option Addr) (len cap : Nat) : Prop := ∃ i, TapeAt w kt ad len cap i
theorem TapeT.other {w : World} {kt len cap k j : Nat} {ad : Option Addr} (h : TapeT w kt ad len cap) (hk : kt < k) (u : Value) : TapeT (w.setCell ⟨k, j, none⟩ u) kt ad len cap := by
 obtain ⟨i, h⟩ := h
 exact ⟨i, h.other hk u⟩
/-- The walk's state: the batch that is being made, the result that is none yet, the tape, what has turned since w. -/
structure TB (w : World) (kt : Nat) (ad : Option Addr) (len cap kr kb : Nat) (b0 b1 b2 b3 : Int) (b4 : Bool) (b5 : Int) (v : Value) (W : World) : Prop where
 box : BoxAt W kb b0 b1 b2 b3 b4 b5 v
 res : BoxAt W kr 0 0 0 0 false 0 (.slice none 0 0)
 lo : w.heap.size ≤ kb
 lr : w.heap.size ≤ kr
 ne : kb ≠ kr
 ht : kt < w.heap.size
 tape : TapeT W kt ad len cap
 grow : w.grownBy W (some kt)
section
variable {w W W' : World} {kt len cap kr kb : Nat} {ad : Option Addr} {b0 b1 b2 b3 : Int} {b4 : Bool} {b5 : Int} {v : Value}
theorem TB.s2 (h : TB w kt ad len cap kr kb b0 b1 b2 b3 b4 b5 v W) (n : Int) : TB w kt ad len cap kr kb b0 b1 n b3 b4 b5 v (W.setCell ⟨kb, 2, none⟩ (.int .i64 n)) := ⟨h.box.s2 n, h.res.off h.ne _, h.lo, h.lr, h.ne, h.ht, h.tape.other (by have := h.lo; have := h.ht; omega) _, grow_new h.grow h.lo _⟩
theorem TB.s3 (h : TB w kt ad len cap kr kb b0 b1 b2 b3 b4 b5 v W) (n : Int) : TB w kt ad len cap kr kb b0 b1 b2 n b4 b5 v (W.setCell ⟨kb, 3, none⟩ (.int .i64 n)) := ⟨h.box.s3 n, h.res.off h.ne _, h.lo, h.lr, h.ne, h.ht, h.tape.other (by have := h.lo; have := h.ht; omega) _, grow_new h.grow h.lo _⟩
theorem TB.s4 (h : TB w kt ad len cap kr kb b0 b1 b2 b3 b4 b5 v W) (n : Bool) : TB w kt ad len cap kr kb b0 b1 b2 b3 n b5 v (W.setCell ⟨kb, 4, none⟩ (.bool n)) := ⟨h.box.s4 n, h.res.off h.ne _, h.lo, h.lr, h.ne, h.ht, h.tape.other (by have := h.lo; have := h.ht; omega) _, grow_new h.grow h.lo _⟩
theorem TB.s5 (h : TB w kt ad len cap kr kb b0 b1 b2 b3 b4 b5 v W) (n : Int) : TB w kt ad len cap kr kb b0 b1 b2 b3 b4 n v (W.setCell ⟨kb, 5, none⟩ (.int .i64 n)) := ⟨h.box.s5 n, h.res.off h.ne _, h.lo, h.lr, h.ne, h.ht, h.tape.other (by have := h.lo; have := h.ht; omega) _, grow_new h.grow h.lo _⟩
theorem TB.s6 (h : TB w kt ad len cap kr kb b0 b1 b2 b3 b4 b5 v W) (n : Value) : TB w kt ad len cap kr kb b0 b1 b2 b3 b4 b5 n (W.setCell ⟨kb, 6, none⟩ n) := ⟨h.box.s6 n, h.res.off h.ne _, h.lo, h.lr, h.ne, h.ht, h.tape.other (by have := h.lo; have := h.ht; omega) _, grow_new h.grow h.lo _⟩
theorem TB.next (h : TB w kt ad len cap kr kb b0 b1 b2 b3 b4 b5 v W) (hg : W.grownBy W' (some kt)) (ht : TapeT W' kt ad len cap) : TB w kt ad len cap kr kb b0 b1 b2 b3 b4 b5 v W' :=
 ⟨h.box.tape hg (by have := h.lo; have := h.ht; omega), h.res.tape hg (by have := h.lr; have := h.ht; omega), h.lo, h.lr, h.ne, h.ht, ht, grow_trans h.grow hg⟩
end
theorem resultsTape {tmps : Array Value} {B : Nat} {W : World} {b0 b1 b2 b3 : Int} {b4 : Bool} {b5 : Int} {v : Value} (h : BoxAt W B b0 b1 b2 b3 b4 b5 v) (ht : tmps.getD 4 undef = .pointer (some ⟨B, 0, none⟩)) :
 (results Try.f43 tmps).run Try.prog W = .ok (.agg #[.int .i64 b0, .int .i64 b1, .int .i64 b2, .int .i64 b3, .bool b4, .int .i64 b5, v]) W := by
 rw [results_cell_one (p := 4) (ty := 52) Try.results43, ht]
 have hl := run_loadVar_row (P := Try.prog) W B 52 52 _ (0, 0) _ h Try.underlying52 rfl (by kernel_rfl)
 simp only [asAddr, Sem.run_pure, Result.andThen, hl]
/-- A batch that is right, with this base, its records in new memory. -/
def GivesTape (w : World) (kt : Nat) (ad : Option Addr) (len cap : Nat) (base : Int) (e : Ending) (w' : World) : Prop :=
 ∃ (b : Bat) (ad' : Option Addr) (cap' : Nat), e = .returned (.agg #[.int .i64 b.base, .int .i64 b.prod, .int .i64 b.epoch, .int .i64 b.seq, .bool b.txn, .int .i64 b.marker, .slice ad' b.recs.length cap']) ∧
   b.base = base ∧ rightE b = 0 ∧ b.wf ∧ RecsAt w' ad' b.recs.length cap' b.recs ∧ (∀ a, ad' = some a → w.heap.size ≤ a.block) ∧ TapeT w' kt ad len cap ∧ w.grownBy w' (some kt)
/-- What the last statement leaves: the batch is copied into the result. -/
theorem gives_tape {w W : World} {kt len cap kr kb n cap' : Nat} {ad ad' : Option Addr} {b : Bat} {base : Int} {x0 x1 x2 x3 : Int} {x4 : Bool} {x5 : Int} {xv : Value} {u0 u1 u2 u3 u4 u5 u6 : Value} (hT : TB w kt ad len cap kr kb x0 x1 x2 x3 x4 x5 xv W) (hb : b.base = base) (ho : rightE b = 0) (hw : b.wf) (hn : b.recs.length = n) (hr : RecsAt W ad' n cap' b.recs) (hk : ∀ a, ad' = some a → kr < a.block) :
 GivesTape w kt ad len cap base (.returned (.agg #[.int .i64 b.base, .int .i64 b.prod, .int .i64 b.epoch, .int .i64 b.seq, .bool b.txn, .int .i64 b.marker, .slice ad' n cap'])) (((((((W.setCell ⟨kr, 0, none⟩ u0).setCell ⟨kr, 1, none⟩ u1).setCell ⟨kr, 2, none⟩ u2).setCell ⟨kr, 3, none⟩ u3).setCell ⟨kr, 4, none⟩ u4).setCell ⟨kr, 5, none⟩ u5).setCell ⟨kr, 6, none⟩ u6) := by
 subst hn
 have hlr := hT.lr
 have hlt : kt < kr := by have := hT.ht; omega
 refine ⟨b, ad', cap', rfl, hb, ho, hw, ((((((hr.put hk).put hk).put hk).put hk).put hk).put hk).put hk, (fun a h => by have := hk a h; omega), ((((((hT.tape.other hlt _).other hlt _).other hlt _).other hlt _).other hlt _).other hlt _).other hlt _, ?_⟩
 exact grow_new (grow_new (grow_new (grow_new (grow_new (grow_new (grow_new hT.grow hlr _) hlr _) hlr _) hlr _) hlr _) hlr _) hlr _
theorem right_none {base : Int} {l : List Rc} (h0 : 0 ≤ base) (h1 : base ≤ 1099511627776) (hl : 1 ≤ l.length) (hm : l.length ≤ 4) (hs : ∀ r ∈ l, r.key.size ≤ 64 ∧ r.val.size ≤ 64) : rightE ⟨base, -1, -1, -1, false, 0, l⟩ = 0 := by
 refine e_fine h0 h1 rfl ⟨.inl rfl, fun h => ?_⟩ ?_
 · simp only at h; rw [h] at hl; simp at hl
 · rintro (h | ⟨r, hr, h⟩)
   · simp only at h; omega
   · have := hs r hr
     rcases h with h | h <;> omega
theorem right_data {base p e s : Int} {t : Bool} {l : List Rc} (h0 : 0 ≤ base) (h1 : base ≤ 1099511627776) (p0 : 0 ≤ p) (e0 : 0 ≤ e) (e1 : e ≤ 32767) (s0 : 0 ≤ s) (s1 : s ≤ 2147483647) (hl : 1 ≤ l.length) (hm : l.length ≤ 4) (hs : ∀ r ∈ l, r.key.size ≤ 64 ∧ r.val.size ≤ 64) : rightE ⟨base, p, e, s, t, 0, l⟩ = 0 := by
 refine e_fine h0 h1 rfl ⟨.inr ⟨?_, right_yes s0 s1⟩, fun h => ?_⟩ ?_
 · unfold headB; simp [p0, e0, e1]
 · simp only at h; rw [h] at hl; simp at hl
 · rintro (h | ⟨r, hr, h⟩)
   · simp only at h; omega
   · have := hs r hr
     rcases h with h | h <;> omega
theorem right_mark {base p e m : Int} (h0 : 0 ≤ base) (h1 : base ≤ 1099511627776) (p0 : 0 ≤ p) (e0 : 0 ≤ e) (e1 : e ≤ 32767) (hm : m = 1 ∨ m = 2) : rightE ⟨base, p, e, -1, true, m, []⟩ = 0 := by
 rw [e_mark h0 h1 (by simp only; omega), if_pos]
 refine ⟨hm, ?_, rfl, rfl, rfl⟩
 unfold headB; simp [p0, e0, e1]
theorem bat_wf {a b c d f : Int} {t : Bool} {l : List Rc} (h0 : In64 a) (h1 : In64 b) (h2 : In64 c) (h3 : In64 d) (h4 : In64 f) : (⟨a, b, c, d, t, f, l⟩ : Bat).wf := ⟨h0, h1, h2, h3, h4⟩
set_option maxRecDepth 100000 in
set_option maxHeartbeats 4000000 in
theorem tapeBatch_any (w : World) (kt : Nat) (ad : Option Addr) (len cap i : Nat) (base : Int) (h : TapeAt w kt ad len cap i) (h0 : 0 ≤ base) (h1 : base ≤ 1099511627776) :
 Calls Try.prog 43 #[.pointer (some ⟨kt, 0, none⟩), .int .i64 base] w (GivesTape w kt ad len cap base) := by
 have hkt := h.lt
 have HR0 := Lib.hid (boxAt_new w 0 0 0 0 false 0 (.slice none 0 0))
 have H := Lib.hid (h.on ((Below.refl w.heap.size w).alloc (Nat.le_refl _) (.cells #[.int .i64 0, .int .i64 0, .int .i64 0, .int .i64 0, .bool false, .int .i64 0, .slice none 0 0] 52)))
 have HG0 := Lib.hid (grow_alloc (grow_refl w (some kt)) (.cells #[.int .i64 0, .int .i64 0, .int .i64 0, .int .i64 0, .bool false, .int .i64 0, .slice none 0 0] 52))
 clear h
 go_enter Try.func43, Try.ntmps43
 go_wp2_with fail
 refine (tapeNext_any _ kt ad len cap i 4 H.out (by omega) (by omega)).mono ?_
 rintro e w1 ⟨v, i1, rfl, v0, v1, ht1, hg1⟩
 obtain ⟨kb, hkb⟩ : ∃ kb, kb = w1.heap.size := ⟨_, rfl⟩
 obtain ⟨kr, hkr⟩ : ∃ kr, kr = w.heap.size := ⟨_, rfl⟩
 have hkk : kr < kb := by rw [hkb, hkr]; exact Nat.lt_of_lt_of_le HR0.out.lt hg1.size
 obtain ⟨p, hp⟩ : ∃ p, p = v - 1 := ⟨_, rfl⟩
 obtain ⟨W2, hW2⟩ : ∃ W2, W2 = w1.alloc (.cells #[.int .i64 base, .int .i64 p, .int .i64 0, .int .i64 0, .bool false, .int .i64 0, .slice none 0 0] 52) := ⟨_, rfl⟩
 have HT2 : Hid (TB w kt ad len cap kr kb base p 0 0 false 0 (.slice none 0 0) W2) := by
  show TB _ _ _ _ _ _ _ _ _ _ _ _ _ _ _
  have hbb : Below w1.heap.size w1 W2 := by rw [hW2]; exact (Below.refl _ _).alloc (Nat.le_refl _) _
  refine ⟨by rw [hW2, hkb]; exact boxAt_new w1 _ _ _ _ _ _ _, ?_, by omega, by omega, by omega, hkt, ⟨i1, ht1.on hbb⟩, grow_below (grow_trans HG0.out hg1) hbb⟩
  have := (HR0.out.tape hg1 (by omega)).on hbb
  rw [hkr]; exact this
 have hpv : v - 1 = p := hp.symm
 have HW2 := Lib.hid hW2
 have p0 : -1 ≤ p := by omega
 have p2 : p ≤ 2 := by omega
 have HKB := Lib.hid hkb
 have HKR := Lib.hid hkr
 clear hkb hkr hW2 hp ht1 hg1
 by_cases hneg : p < 0
 · obtain rfl : p = -1 := by omega
   clear p0 p2
   go_upto_if 13 with (fail)
   rw [← HW2.out, ← HKB.out, ← HKR.out]
   obtain ⟨j1, hj1⟩ := HT2.out.tape
   go_wp2_with fail
   refine (tapeRecs_any W2 kt ad len cap j1 4 hj1 (by omega) (by omega)).mono ?_
   rintro e w3 ⟨l, v', m1, rfl, hown, hl1, hl4, hsz, ht1, hg1⟩
   obtain ⟨ad3, c3, hv3, hrec, hblk⟩ := hown.at
   obtain ⟨nl, hnl⟩ : ∃ nl, l.length = nl := ⟨_, rfl⟩
   rw [hnl] at hv3 hrec hl1 hl4
   subst hv3
   have HN1 := Lib.hid (HT2.out.next hg1 ⟨m1, ht1⟩)
   have HBLK : Hid (∀ a, ad3 = some a → kr < a.block) := fun a h => by have h1 := hblk a h; have h2 := HT2.out.res.lt; omega
   have HBLB : Hid (∀ a, ad3 = some a → kb < a.block) := fun a h => by have h1 := hblk a h; have h2 := HT2.out.box.lt; omega
   have HREC := Lib.hid hrec
   have HNL := Lib.hid hnl
   have HSZ := Lib.hid hsz
   clear hown hrec hblk hnl hsz hj1 ht1 hg1
   have x2 := HN1.out.box.c2
   have f2 := HN1.out.box.free 2
   have x3 := HN1.out.box.c3
   have f3 := HN1.out.box.free 3
   have x6 := HN1.out.box.c6
   have f6 := HN1.out.box.free 6
   go_upto_region 4 with fail
   obtain ⟨W4, hW4⟩ : ∃ W, W = ((w3.setCell ⟨kb, 2, none⟩ (.int .i64 (-1))).setCell ⟨kb, 3, none⟩ (.int .i64 (-1))).setCell ⟨kb, 6, none⟩ (.slice ad3 nl c3) := ⟨_, rfl⟩
   have HSW4 := Lib.hid (show TB w kt ad len cap kr kb base (-1) (-1) (-1) false 0 (.slice ad3 nl c3) W4 by rw [hW4]; exact ((HN1.out.s2 (-1)).s3 (-1)).s6 _)
   rw [← hW4]
   have HREC4 : Hid (RecsAt W4 ad3 nl c3 l) := by show RecsAt _ _ _ _ _; rw [hW4]; exact ((HREC.out.put HBLB.out).put HBLB.out).put HBLB.out
   have HOK := Lib.hid (right_none h0 h1 (by rw [HNL.out]; exact hl1) (by rw [HNL.out]; exact hl4) HSZ.out)
   clear hW4
   clear x2 f2 x3 f3 x6 f6
   have x0 := HSW4.out.box.c0
   have x1 := HSW4.out.box.c1
   have x2 := HSW4.out.box.c2
   have x3 := HSW4.out.box.c3
   have x4 := HSW4.out.box.c4
   have x5 := HSW4.out.box.c5
   have x6 := HSW4.out.box.c6
   have r0 := HSW4.out.res.c0
   have q0 := HSW4.out.res.free 0
   have r1 := HSW4.out.res.c1
   have q1 := HSW4.out.res.free 1
   have r2 := HSW4.out.res.c2
   have q2 := HSW4.out.res.free 2
   have r3 := HSW4.out.res.c3
   have q3 := HSW4.out.res.free 3
   have r4 := HSW4.out.res.c4
   have q4 := HSW4.out.res.free 4
   have r5 := HSW4.out.res.c5
   have q5 := HSW4.out.res.free 5
   have r6 := HSW4.out.res.c6
   have q6 := HSW4.out.res.free 6
   go_wp2
   exact bodyPost_ret (resultsTape (((((((HSW4.out.res.s0 (base)).s1 (-1)).s2 (-1)).s3 (-1)).s4 (false)).s5 (0)).s6 (.slice ad3 nl c3)) rfl) rfl (gives_tape HSW4.out rfl HOK.out (bat_wf ⟨by omega, by omega⟩ ⟨by omega, by omega⟩ ⟨by omega, by omega⟩ ⟨by omega, by omega⟩ ⟨by omega, by omega⟩) HNL.out HREC4.out HBLK.out)
 · have hpos : 0 ≤ p := by omega
   clear hneg p0
   go_upto_if 13 with (fail)
   rw [← HW2.out, ← HKB.out, ← HKR.out]
   obtain ⟨j1, hj1⟩ := HT2.out.tape
   go_wp2_with fail
   refine (tapeNext_any W2 kt ad len cap j1 3 hj1 (by omega) (by omega)).mono ?_
   rintro e w3 ⟨ve, m1, rfl, ve0, ve1, ht1, hg1⟩
   have HN1 := Lib.hid (HT2.out.next hg1 ⟨m1, ht1⟩)
   clear hj1 ht1 hg1
   have x2 := HN1.out.box.c2
   have f2 := HN1.out.box.free 2
   go_upto_region 6 with fail
   obtain ⟨W4, hW4⟩ : ∃ W, W = w3.setCell ⟨kb, 2, none⟩ (.int .i64 ve) := ⟨_, rfl⟩
   have HSW4 := Lib.hid (show TB w kt ad len cap kr kb base p ve 0 false 0 (.slice none 0 0) W4 by rw [hW4]; exact HN1.out.s2 ve)
   rw [← hW4]
   clear x2 f2
   clear hW4
   obtain ⟨j2, hj2⟩ := HSW4.out.tape
   go_wp2_with fail
   refine (tapeNext_any W4 kt ad len cap j2 4 hj2 (by omega) (by omega)).mono ?_
   rintro e w5 ⟨vq, m2, rfl, vq0, vq1, ht2, hg2⟩
   have HN2 := Lib.hid (HSW4.out.next hg2 ⟨m2, ht2⟩)
   clear hj2 ht2 hg2
   by_cases hq : vq = 0
   · subst hq
     obtain ⟨j3, hj3⟩ := HN2.out.tape
     go_wp2_with fail
     refine (tapeNext_any w5 kt ad len cap j3 2 hj3 (by omega) (by omega)).mono ?_
     rintro e w6 ⟨vm, m3, rfl, vm0, vm1, ht3, hg3⟩
     have HN3 := Lib.hid (HN2.out.next hg3 ⟨m3, ht3⟩)
     clear hj3 ht3 hg3
     have x3 := HN3.out.box.c3
     have f3 := HN3.out.box.free 3
     have x4 := HN3.out.box.c4
     have f4 := HN3.out.box.free 4
     have x5 := HN3.out.box.c5
     have f5 := HN3.out.box.free 5
     go_upto_region 8 with fail
     obtain ⟨W7, hW7⟩ : ∃ W, W = ((w6.setCell ⟨kb, 3, none⟩ (.int .i64 (-1))).setCell ⟨kb, 4, none⟩ (.bool true)).setCell ⟨kb, 5, none⟩ (.int .i64 (1 + vm)) := ⟨_, rfl⟩
     have HSW7 := Lib.hid (show TB w kt ad len cap kr kb base p ve (-1) true (1 + vm) (.slice none 0 0) W7 by rw [hW7]; exact ((HN3.out.s3 (-1)).s4 true).s5 (1 + vm))
     rw [← hW7]
     clear x3 f3 x4 f4 x5 f5
     have HOK := Lib.hid (right_mark (m := 1 + vm) h0 h1 hpos ve0 (by omega) (by omega))
     clear hW7
     have x0 := HSW7.out.box.c0
     have x1 := HSW7.out.box.c1
     have x2 := HSW7.out.box.c2
     have x3 := HSW7.out.box.c3
     have x4 := HSW7.out.box.c4
     have x5 := HSW7.out.box.c5
     have x6 := HSW7.out.box.c6
     have r0 := HSW7.out.res.c0
     have q0 := HSW7.out.res.free 0
     have r1 := HSW7.out.res.c1
     have q1 := HSW7.out.res.free 1
     have r2 := HSW7.out.res.c2
     have q2 := HSW7.out.res.free 2
     have r3 := HSW7.out.res.c3
     have q3 := HSW7.out.res.free 3
     have r4 := HSW7.out.res.c4
     have q4 := HSW7.out.res.free 4
     have r5 := HSW7.out.res.c5
     have q5 := HSW7.out.res.free 5
     have r6 := HSW7.out.res.c6
     have q6 := HSW7.out.res.free 6
     go_wp2
     exact bodyPost_ret (resultsTape (((((((HSW7.out.res.s0 (base)).s1 (p)).s2 (ve)).s3 (-1)).s4 (true)).s5 (1 + vm)).s6 (.slice none 0 0)) rfl) rfl (gives_tape HSW7.out rfl HOK.out (bat_wf ⟨by omega, by omega⟩ ⟨by omega, by omega⟩ ⟨by omega, by omega⟩ ⟨by omega, by omega⟩ ⟨by omega, by omega⟩) rfl (recsAt_nil _) (fun a h => by cases h))
   · have hqb : (vq == 0) = false := by simpa using hq
     obtain ⟨j3, hj3⟩ := HN2.out.tape
     go_wp2_with fail
     refine (tapeNext_any w5 kt ad len cap j3 6 hj3 (by omega) (by omega)).mono ?_
     rintro e w6 ⟨vs, m3, rfl, vs0, vs1, ht3, hg3⟩
     have HN3 := Lib.hid (HN2.out.next hg3 ⟨m3, ht3⟩)
     clear hj3 ht3 hg3
     obtain ⟨j4, hj4⟩ := HN3.out.tape
     go_wp2_with fail
     refine (tapeNext_any w6 kt ad len cap j4 2 hj4 (by omega) (by omega)).mono ?_
     rintro e w7 ⟨vt, m4, rfl, vt0, vt1, ht4, hg4⟩
     have HN4 := Lib.hid (HN3.out.next hg4 ⟨m4, ht4⟩)
     clear hj4 ht4 hg4
     obtain ⟨tb, htb⟩ : ∃ tb, (vt == 0) = tb := ⟨_, rfl⟩
     obtain ⟨j5, hj5⟩ := HN4.out.tape
     go_wp2_with fail
     refine (tapeRecs_any w7 kt ad len cap j5 4 hj5 (by omega) (by omega)).mono ?_
     rintro e w8 ⟨l, v', m5, rfl, hown, hl1, hl4, hsz, ht5, hg5⟩
     obtain ⟨ad3, c3, hv3, hrec, hblk⟩ := hown.at
     obtain ⟨nl, hnl⟩ : ∃ nl, l.length = nl := ⟨_, rfl⟩
     rw [hnl] at hv3 hrec hl1 hl4
     subst hv3
     have HN5 := Lib.hid (HN4.out.next hg5 ⟨m5, ht5⟩)
     have HBLK : Hid (∀ a, ad3 = some a → kr < a.block) := fun a h => by have h1 := hblk a h; have h2 := HN4.out.res.lt; omega
     have HBLB : Hid (∀ a, ad3 = some a → kb < a.block) := fun a h => by have h1 := hblk a h; have h2 := HN4.out.box.lt; omega
     have HREC := Lib.hid hrec
     have HNL := Lib.hid hnl
     have HSZ := Lib.hid hsz
     clear hown hrec hblk hnl hsz hj5 ht5 hg5
     have x3 := HN5.out.box.c3
     have f3 := HN5.out.box.free 3
     have x4 := HN5.out.box.c4
     have f4 := HN5.out.box.free 4
     have x6 := HN5.out.box.c6
     have f6 := HN5.out.box.free 6
     go_upto_region 10 with fail
     obtain ⟨W9, hW9⟩ : ∃ W, W = ((w8.setCell ⟨kb, 3, none⟩ (.int .i64 vs)).setCell ⟨kb, 4, none⟩ (.bool tb)).setCell ⟨kb, 6, none⟩ (.slice ad3 nl c3) := ⟨_, rfl⟩
     have HSW9 := Lib.hid (show TB w kt ad len cap kr kb base p ve vs tb 0 (.slice ad3 nl c3) W9 by rw [hW9]; exact ((HN5.out.s3 vs).s4 tb).s6 _)
     rw [← hW9]
     have HREC9 : Hid (RecsAt W9 ad3 nl c3 l) := by show RecsAt _ _ _ _ _; rw [hW9]; exact ((HREC.out.put HBLB.out).put HBLB.out).put HBLB.out
     clear hW9
     clear x3 f3 x4 f4 x6 f6
     obtain ⟨j6, hj6⟩ := HSW9.out.tape
     go_wp2_with fail
     refine (tapeNext_any W9 kt ad len cap j6 9 hj6 (by omega) (by omega)).mono ?_
     rintro e w10 ⟨vz, m6, rfl, vz0, vz1, ht6, hg6⟩
     have HGR := Lib.hid hg6
     have HN6 := Lib.hid (HSW9.out.next hg6 ⟨m6, ht6⟩)
     clear hj6 ht6 hg6
     have HREC10 := Lib.hid (HREC9.out.tape (w' := w10) (kt := kt) HGR.out (fun x hx => by have := HBLK.out x hx; have := HT2.out.lr; omega))
     by_cases hz : vz = 0
     · subst hz
       obtain ⟨j7, hj7⟩ := HN6.out.tape
       go_wp2_with fail
       refine (tapeNext_any w10 kt ad len cap j7 3 hj7 (by omega) (by omega)).mono ?_
       rintro e w11 ⟨vy, m7, rfl, vy0, vy1, ht7, hg7⟩
       have HGR7 := Lib.hid hg7
       have HN7 := Lib.hid (HN6.out.next hg7 ⟨m7, ht7⟩)
       clear hj7 ht7 hg7
       have HREC11 := Lib.hid (HREC10.out.tape (w' := w11) (kt := kt) HGR7.out (fun x hx => by have := HBLK.out x hx; have := HT2.out.lr; omega))
       have x3 := HN7.out.box.c3
       have f3 := HN7.out.box.free 3
       go_upto_region 12 with fail
       obtain ⟨W12, hW12⟩ : ∃ W, W = w11.setCell ⟨kb, 3, none⟩ (.int .i64 (2147483647 - vy)) := ⟨_, rfl⟩
       have HSW12 := Lib.hid (show TB w kt ad len cap kr kb base p ve (2147483647 - vy) tb 0 (.slice ad3 nl c3) W12 by rw [hW12]; exact HN7.out.s3 (2147483647 - vy))
       rw [← hW12]
       clear x3 f3
       have HREC12 : Hid (RecsAt W12 ad3 nl c3 l) := by show RecsAt _ _ _ _ _; rw [hW12]; exact HREC11.out.put HBLB.out
       have HOK := Lib.hid (right_data (p := p) (e := ve) (s := 2147483647 - vy) (t := tb) h0 h1 hpos ve0 (by omega) (by omega) (by omega) (by rw [HNL.out]; exact hl1) (by rw [HNL.out]; exact hl4) HSZ.out)
       clear hW12
       have x0 := HSW12.out.box.c0
       have x1 := HSW12.out.box.c1
       have x2 := HSW12.out.box.c2
       have x3 := HSW12.out.box.c3
       have x4 := HSW12.out.box.c4
       have x5 := HSW12.out.box.c5
       have x6 := HSW12.out.box.c6
       have r0 := HSW12.out.res.c0
       have q0 := HSW12.out.res.free 0
       have r1 := HSW12.out.res.c1
       have q1 := HSW12.out.res.free 1
       have r2 := HSW12.out.res.c2
       have q2 := HSW12.out.res.free 2
       have r3 := HSW12.out.res.c3
       have q3 := HSW12.out.res.free 3
       have r4 := HSW12.out.res.c4
       have q4 := HSW12.out.res.free 4
       have r5 := HSW12.out.res.c5
       have q5 := HSW12.out.res.free 5
       have r6 := HSW12.out.res.c6
       have q6 := HSW12.out.res.free 6
       go_wp2
       exact bodyPost_ret (resultsTape (((((((HSW12.out.res.s0 (base)).s1 (p)).s2 (ve)).s3 (2147483647 - vy)).s4 (tb)).s5 (0)).s6 (.slice ad3 nl c3)) rfl) rfl (gives_tape HSW12.out rfl HOK.out (bat_wf ⟨by omega, by omega⟩ ⟨by omega, by omega⟩ ⟨by omega, by omega⟩ ⟨by omega, by omega⟩ ⟨by omega, by omega⟩) HNL.out HREC12.out HBLK.out)
     · have hzb : (vz == 0) = false := by simpa using hz
       have HOK := Lib.hid (right_data (p := p) (e := ve) (s := vs) (t := tb) h0 h1 hpos ve0 (by omega) vs0 (by omega) (by rw [HNL.out]; exact hl1) (by rw [HNL.out]; exact hl4) HSZ.out)
       have x0 := HN6.out.box.c0
       have x1 := HN6.out.box.c1
       have x2 := HN6.out.box.c2
       have x3 := HN6.out.box.c3
       have x4 := HN6.out.box.c4
       have x5 := HN6.out.box.c5
       have x6 := HN6.out.box.c6
       have r0 := HN6.out.res.c0
       have q0 := HN6.out.res.free 0
       have r1 := HN6.out.res.c1
       have q1 := HN6.out.res.free 1
       have r2 := HN6.out.res.c2
       have q2 := HN6.out.res.free 2
       have r3 := HN6.out.res.c3
       have q3 := HN6.out.res.free 3
       have r4 := HN6.out.res.c4
       have q4 := HN6.out.res.free 4
       have r5 := HN6.out.res.c5
       have q5 := HN6.out.res.free 5
       have r6 := HN6.out.res.c6
       have q6 := HN6.out.res.free 6
       go_wp2
       exact bodyPost_ret (resultsTape (((((((HN6.out.res.s0 (base)).s1 (p)).s2 (ve)).s3 (vs)).s4 (tb)).s5 (0)).s6 (.slice ad3 nl c3)) rfl) rfl (gives_tape HN6.out rfl HOK.out (bat_wf ⟨by omega, by omega⟩ ⟨by omega, by omega⟩ ⟨by omega, by omega⟩ ⟨by omega, by omega⟩ ⟨by omega, by omega⟩) HNL.out HREC10.out HBLK.out)
end Go.Proofs.Ytipaebflkebdjaa
namespace Go.Proofs.Ytipaebflkebdjaa
open Go.RowKit
open Go.SeqMath
open Go.BatMath hiding AllB getD_lt take_all
open Go.VarMath (longB length_longB)
set_option linter.unusedVariables false

theorem texts_of {l : List Rc} (h : ∀ r ∈ l, r.key.size ≤ 64 ∧ r.val.size ≤ 64) : TextsOk l := fun r hr => by have := h r hr; omega
end Go.Proofs.Ytipaebflkebdjaa
