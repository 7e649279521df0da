/- The code's own batch, chapter 6: offset, unowned, owned, rightMarker, rightData: which errors a batch has. The code's own batch, chapter 6: rightData: which errors data have. The code's own batch, chapter 6: split, record, length, kind, Count. The code's own batch, chapter 6: Right, Size. The code's own batch, chapter 6: body: what stands under the sum of a batch that is right. The code's own batch, chapter 6: Bytes. The code's own batch, chapter 6: Same. -/
import Derived.Test.YtlpmfhccfihnfaaBatPlain2
import Derived.Test.YtlpmfhccfihnfaaSeqRight
import Derived.Test.YtlpmfhccfihnfaaBatWrite
import Derived.Test.YtlpmfhccfihnfaaBatUse
import Derived.Deep.RegionHeld3
import Derived.Test.YtlpmfhccfihnfaaCrcSeal
import Derived.Test.YtlpmfhccfihnfaaBatSame
/-! The code's own batch, chapter 6: offset, unowned, owned, rightMarker, rightData: which errors a batch has. -/
namespace Go.Proofs.Ytlpmfhccfihnfaa
open Go.RowKit
open Go.SeqMath
open Go.BatMath
set_option linter.unusedVariables false

theorem batOffset_any (n : Int) (w : World) (r : Bool) (hr : (decide (0 ≤ n) && decide (n ≤ 1099511627776)) = r) :
    Calls Try.prog 38 #[.int .i64 n] w fun e w' => e = .returned (.bool r) ∧ w = w' := by
  by_cases h0 : 0 ≤ n
  · by_cases h1 : n ≤ 1099511627776
    · obtain rfl : r = true := by rw [← hr]; simp [h0, h1]
      clear hr
      go_enter Try.func38, Try.ntmps38
      go_wp2
      go_ret
      exact ⟨rfl, rfl⟩
    · obtain rfl : r = false := by rw [← hr]; simp [h1]
      have h1' : 1099511627776 < n := by omega
      clear hr
      go_enter Try.func38, Try.ntmps38
      go_wp2
      go_ret
      exact ⟨rfl, rfl⟩
  · obtain rfl : r = false := by rw [← hr]; simp [h0]
    have h0' : n < 0 := by omega
    clear hr
    go_enter Try.func38, Try.ntmps38
    go_wp2
    go_ret
    exact ⟨rfl, rfl⟩
theorem batOwned_any (w : World) (b0 b1 b2 b3 : Int) (b4 : Bool) (b5 : Int) (v : Value) (r : Bool) (hr : (decide (0 ≤ b1) && (decide (0 ≤ b2) && decide (b2 ≤ 32767))) = r) :
    Calls Try.prog 66 #[.agg #[.int .i64 b0, .int .i64 b1, .int .i64 b2, .int .i64 b3, .bool b4, .int .i64 b5, v]] w fun e w' => e = .returned (.bool r) ∧ Below w.heap.size w w' := by
  by_cases h0 : 0 ≤ b1
  · by_cases h1 : 0 ≤ b2
    · by_cases h2 : b2 ≤ 32767
      · obtain rfl : r = true := by rw [← hr]; simp [h0, h1, h2]
        clear hr
        go_enter Try.func66, Try.ntmps66
        go_wp2
        go_ret
        exact ⟨rfl, (Below.refl _ _).alloc (Nat.le_refl _) _⟩
      · obtain rfl : r = false := by rw [← hr]; simp [h2]
        have h2' : 32767 < b2 := by omega
        clear hr
        go_enter Try.func66, Try.ntmps66
        go_wp2
        go_ret
        exact ⟨rfl, (Below.refl _ _).alloc (Nat.le_refl _) _⟩
    · obtain rfl : r = false := by rw [← hr]; simp [h1]
      have h1' : b2 < 0 := by omega
      clear hr
      go_enter Try.func66, Try.ntmps66
      go_wp2
      go_ret
      exact ⟨rfl, (Below.refl _ _).alloc (Nat.le_refl _) _⟩
  · obtain rfl : r = false := by rw [← hr]; simp [h0]
    have h0' : b1 < 0 := by omega
    clear hr
    go_enter Try.func66, Try.ntmps66
    go_wp2
    go_ret
    exact ⟨rfl, (Below.refl _ _).alloc (Nat.le_refl _) _⟩
theorem batUnowned_any (w : World) (b0 b1 b2 b3 : Int) (b4 : Bool) (b5 : Int) (v : Value) (r : Bool) (hr : (decide (b1 = -1) && (decide (b2 = -1) && (decide (b3 = -1) && !b4))) = r) :
    Calls Try.prog 65 #[.agg #[.int .i64 b0, .int .i64 b1, .int .i64 b2, .int .i64 b3, .bool b4, .int .i64 b5, v]] w fun e w' => e = .returned (.bool r) ∧ Below w.heap.size w w' := by
  cases h1 : (b1 == -1)
  · obtain rfl : r = false := by rw [← hr]; have : ¬ b1 = -1 := by simpa using h1
                                 simp [this]
    clear hr
    go_enter Try.func65, Try.ntmps65
    go_wp2
    go_ret
    exact ⟨rfl, (Below.refl _ _).alloc (Nat.le_refl _) _⟩
  · cases h2 : (b2 == -1)
    · obtain rfl : r = false := by rw [← hr]; have : ¬ b2 = -1 := by simpa using h2
                                   simp [this]
      clear hr
      go_enter Try.func65, Try.ntmps65
      go_wp2
      go_ret
      exact ⟨rfl, (Below.refl _ _).alloc (Nat.le_refl _) _⟩
    · cases h3 : (b3 == -1)
      · obtain rfl : r = false := by rw [← hr]; have : ¬ b3 = -1 := by simpa using h3
                                     simp [this]
        clear hr
        go_enter Try.func65, Try.ntmps65
        go_wp2
        go_ret
        exact ⟨rfl, (Below.refl _ _).alloc (Nat.le_refl _) _⟩
      · have q1 : b1 = -1 := by simpa using h1
        have q2 : b2 = -1 := by simpa using h2
        have q3 : b3 = -1 := by simpa using h3
        cases b4
        · obtain rfl : r = true := by rw [← hr]; simp [q1, q2, q3]
          clear hr q1 q2 q3
          go_enter Try.func65, Try.ntmps65
          go_wp2
          go_ret
          exact ⟨rfl, (Below.refl _ _).alloc (Nat.le_refl _) _⟩
        · obtain rfl : r = false := by rw [← hr]; simp
          clear hr q1 q2 q3
          go_enter Try.func65, Try.ntmps65
          go_wp2
          go_ret
          exact ⟨rfl, (Below.refl _ _).alloc (Nat.le_refl _) _⟩
def rmE (b : Bat) : Int := if (b.marker = 1 ∨ b.marker = 2) ∧ headB b = true ∧ b.seq = -1 ∧ b.txn = true ∧ b.recs = [] then 0 else 12
theorem rm_no {b : Bat} (h : ¬ ((b.marker = 1 ∨ b.marker = 2) ∧ headB b = true ∧ b.seq = -1 ∧ b.txn = true ∧ b.recs = [])) : rmE b = 12 := by unfold rmE; rw [if_neg h]
theorem rm_yes {b : Bat} (h : (b.marker = 1 ∨ b.marker = 2) ∧ headB b = true ∧ b.seq = -1 ∧ b.txn = true ∧ b.recs = []) : rmE b = 0 := by unfold rmE; rw [if_pos h]
set_option maxRecDepth 100000 in
theorem rightMarker_any (w : World) (b : Bat) (ad : Option Addr) (len cap : Nat) (hl : b.recs.length = len) :
    Calls Try.prog 47 #[.agg #[.int .i64 b.base, .int .i64 b.prod, .int .i64 b.epoch, .int .i64 b.seq, .bool b.txn, .int .i64 b.marker, .slice ad len cap]] w (Says (rmE b) w) := by
  have hne : (b.recs = []) = (len = 0) := by rw [← hl]; exact propext List.length_eq_zero_iff.symm
  have e12 := @rm_no b
  have e0 := @rm_yes b
  rw [hne] at e12 e0
  have hh : (decide (0 ≤ b.prod) && (decide (0 ≤ b.epoch) && decide (b.epoch ≤ 32767))) = headB b := rfl
  obtain ⟨hd, hdd⟩ : ∃ hd, hd = headB b := ⟨_, rfl⟩
  obtain ⟨ev, hev⟩ : ∃ ev, ev = rmE b := ⟨_, rfl⟩
  rw [← hev] at e12 e0 ⊢
  rw [← hdd] at e12 e0 hh
  clear hev hdd hne hl
  obtain ⟨base, prod, epoch, seq, txn, marker, recs⟩ := b
  simp only at e12 e0 hh ⊢
  have HH := Lib.hid hh
  have E12 := Lib.hid e12
  have E0 := Lib.hid e0
  clear hh e12 e0
  by_cases hm : marker = 1 ∨ marker = 2
  · cases hd
    · rcases hm with rfl | rfl
      all_goals
        go_enter Try.func47, Try.ntmps47
        go_wp2_with (go_at_call 66; refine (batOwned_any _ _ _ _ _ _ _ _ false HH.out).mono ?_; rintro e w1 ⟨rfl, hb⟩; obtain ⟨hc, hf⟩ := bcell hb; have HB := Lib.hid hb; clear hb)
        go_ret
        exact says_mk (E12.out (by rintro ⟨_, h, _⟩; cases h)).symm (((Below.refl _ _).alloc (Nat.le_refl _) _).trans (HB.out.mono (by simp)))
    · cases h3 : (seq == -1)
      · have h3' : ¬ seq = -1 := by simpa using h3
        have h3n : (seq != -1) = true := by simpa using h3
        have H3 := Lib.hid h3'
        clear h3'
        rcases hm with rfl | rfl
        all_goals
          go_enter Try.func47, Try.ntmps47
          go_wp2_with (go_at_call 66; refine (batOwned_any _ _ _ _ _ _ _ _ true HH.out).mono ?_; rintro e w1 ⟨rfl, hb⟩; obtain ⟨hc, hf⟩ := bcell hb; have HB := Lib.hid hb; clear hb)
          go_ret
          exact says_mk (E12.out (by rintro ⟨_, _, h, _⟩; exact H3.out h)).symm (((Below.refl _ _).alloc (Nat.le_refl _) _).trans (HB.out.mono (by simp)))
      · have h3' : seq = -1 := by simpa using h3
        have h3n : (seq != -1) = false := by simpa using h3
        have H3 := Lib.hid h3'
        clear h3'
        cases txn
        · rcases hm with rfl | rfl
          all_goals
            go_enter Try.func47, Try.ntmps47
            go_wp2_with (go_at_call 66; refine (batOwned_any _ _ _ _ _ _ _ _ true HH.out).mono ?_; rintro e w1 ⟨rfl, hb⟩; obtain ⟨hc, hf⟩ := bcell hb; have HB := Lib.hid hb; clear hb)
            go_ret
            exact says_mk (E12.out (by rintro ⟨_, _, _, h, _⟩; cases h)).symm (((Below.refl _ _).alloc (Nat.le_refl _) _).trans (HB.out.mono (by simp)))
        · by_cases hl : 0 < len
          · rcases hm with rfl | rfl
            all_goals
              go_enter Try.func47, Try.ntmps47
              go_wp2_with (go_at_call 66; refine (batOwned_any _ _ _ _ _ _ _ _ true HH.out).mono ?_; rintro e w1 ⟨rfl, hb⟩; obtain ⟨hc, hf⟩ := bcell hb; have HB := Lib.hid hb; clear hb)
              go_ret
              exact says_mk (E12.out (by rintro ⟨_, _, _, _, h⟩; omega)).symm (((Below.refl _ _).alloc (Nat.le_refl _) _).trans (HB.out.mono (by simp)))
          · obtain rfl : len = 0 := by omega
            clear hl
            rcases hm with rfl | rfl
            all_goals
              go_enter Try.func47, Try.ntmps47
              go_wp2_with (go_at_call 66; refine (batOwned_any _ _ _ _ _ _ _ _ true HH.out).mono ?_; rintro e w1 ⟨rfl, hb⟩; obtain ⟨hc, hf⟩ := bcell hb; have HB := Lib.hid hb; clear hb)
              go_ret
              exact says_mk (E0.out ⟨by decide, trivial, H3.out, trivial, trivial⟩).symm (((Below.refl _ _).alloc (Nat.le_refl _) _).trans (HB.out.mono (by simp)))
  · have hm1 : (marker != 1) = true := by simp; omega
    have hm2 : (marker != 2) = true := by simp; omega
    have HM := Lib.hid hm
    clear hm
    go_enter Try.func47, Try.ntmps47
    go_wp2
    go_ret
    exact says_mk (E12.out (by rintro ⟨h, _⟩; exact HM.out h)).symm ((Below.refl _ _).alloc (Nat.le_refl _) _)
end Go.Proofs.Ytlpmfhccfihnfaa

/-! The code's own batch, chapter 6: rightData: which errors data have. -/
namespace Go.Proofs.Ytlpmfhccfihnfaa
open Go.RowKit
open Go.SeqMath
open Go.BatMath
set_option linter.unusedVariables false

noncomputable def rdE (b : Bat) : Int :=
  if (noneB b = true ∨ headB b = true ∧ rightB b.seq = true) ∧ b.recs ≠ [] then
    open Classical in if 16 < b.recs.length ∨ ∃ r ∈ b.recs, longRec r then 13 else 0
  else 12
theorem rd_none {b : Bat} (h : ¬ ((noneB b = true ∨ headB b = true ∧ rightB b.seq = true) ∧ b.recs ≠ [])) : rdE b = 12 := by unfold rdE; rw [if_neg h]
theorem rd_long {b : Bat} (h : (noneB b = true ∨ headB b = true ∧ rightB b.seq = true) ∧ b.recs ≠ []) (hl : 16 < b.recs.length ∨ ∃ r ∈ b.recs, longRec r) : rdE b = 13 := by unfold rdE; rw [if_pos h, if_pos hl]
theorem rd_fine {b : Bat} (h : (noneB b = true ∨ headB b = true ∧ rightB b.seq = true) ∧ b.recs ≠ []) (hl : ¬ (16 < b.recs.length ∨ ∃ r ∈ b.recs, longRec r)) : rdE b = 0 := by unfold rdE; rw [if_pos h, if_neg hl]
set_option maxRecDepth 100000 in
set_option maxHeartbeats 2000000 in
theorem rightData_any (w : World) (b : Bat) (ad : Option Addr) (len cap : Nat) (hr : RecsAt w ad len cap b.recs) (ht : TextsOk b.recs) (hL : len ≤ 140737488355328) :
    Calls Try.prog 46 #[.agg #[.int .i64 b.base, .int .i64 b.prod, .int .i64 b.epoch, .int .i64 b.seq, .bool b.txn, .int .i64 b.marker, .slice ad len cap]] w (Says (rdE b) w) := by
  have hne : (b.recs ≠ []) = (0 < b.recs.length) := propext List.length_pos_iff.symm
  have e12 := @rd_none b
  have e13 := @rd_long b
  have e0 := @rd_fine b
  rw [hne] at e12 e13 e0
  obtain ⟨ev, hev⟩ : ∃ ev, ev = rdE b := ⟨_, rfl⟩
  rw [← hev] at e12 e13 e0 ⊢
  have hh : (decide (0 ≤ b.prod) && (decide (0 ≤ b.epoch) && decide (b.epoch ≤ 32767))) = headB b := rfl
  have hnn : (decide (b.prod = -1) && (decide (b.epoch = -1) && (decide (b.seq = -1) && !b.txn))) = noneB b := rfl
  obtain ⟨hd, hdd⟩ : ∃ hd, hd = headB b := ⟨_, rfl⟩
  obtain ⟨nn, hnd⟩ : ∃ nn, nn = noneB b := ⟨_, rfl⟩
  rw [← hdd] at e12 e13 e0 hh
  rw [← hnd] at e12 e13 e0 hnn
  clear hev hdd hnd hne
  obtain ⟨base, prod, epoch, seq, txn, marker, recs⟩ := b
  simp only at e12 e13 e0 hh hr ht hnn ⊢
  obtain ⟨rt, hrt⟩ : ∃ rt, rightB seq = rt := ⟨_, rfl⟩
  rw [hrt] at e12 e13 e0
  have hlen := hr.length
  rw [hlen] at e12 e13 e0
  have HH := Lib.hid hh
  have HRT := Lib.hid hrt
  have HN := Lib.hid hnn
  have E12 := Lib.hid e12
  have E13 := Lib.hid e13
  have E0 := Lib.hid e0
  have HR := Lib.hid hr
  have HT := Lib.hid ht
  have HLEN := Lib.hid hlen
  clear hh hrt hnn e12 e13 e0 hr ht hlen
  go_enter Try.func46, Try.ntmps46
  go_upto_region 1 with fail
  go_cut [17] from 5 (fun s17 wx => s17 = .bool (!(nn || (hd && rt))) ∧ Hid (BoxAt wx w.heap.size base prod epoch seq txn marker (.slice ad len cap)) ∧ Hid (Below w.heap.size w wx))
  case first =>
    have HB0 : Hid (Below w.heap.size w (w.alloc (.cells #[.int .i64 base, .int .i64 prod, .int .i64 epoch, .int .i64 seq, .bool txn, .int .i64 marker, .slice ad len cap] 24))) := (Below.refl _ _).alloc (Nat.le_refl _) _
    have HX0 := Lib.hid (boxAt_new w base prod epoch seq txn marker (.slice ad len cap))
    cases nn
    · cases hd
      · go_wp2_with (first | (go_at_call 65; refine (batUnowned_any _ _ _ _ _ _ _ _ false HN.out).mono ?_; rintro e w1 ⟨rfl, hb⟩; have HB1 := Lib.hid (HB0.out.trans (hb.mono HB0.out.size)); have HX1 := Lib.hid (HX0.out.on hb); clear hb; have hc0 := HX1.out.c0; have hc1 := HX1.out.c1; have hc2 := HX1.out.c2; have hc3 := HX1.out.c3; have hc4 := HX1.out.c4; have hc5 := HX1.out.c5; have hc6 := HX1.out.c6) | (go_at_call 66; refine (batOwned_any _ _ _ _ _ _ _ _ false HH.out).mono ?_; rintro e w2 ⟨rfl, hb⟩; have HB2 := Lib.hid (HB1.out.trans (hb.mono HB1.out.size)); have HX2 := Lib.hid (HX1.out.on hb); clear hb))
        go_meet
        case rel => exact ⟨by simp, HX2, HB2⟩
      · cases rt
        all_goals
          go_wp2_with (first | (go_at_call 65; refine (batUnowned_any _ _ _ _ _ _ _ _ false HN.out).mono ?_; rintro e w1 ⟨rfl, hb⟩; have HB1 := Lib.hid (HB0.out.trans (hb.mono HB0.out.size)); have HX1 := Lib.hid (HX0.out.on hb); clear hb; have hc0 := HX1.out.c0; have hc1 := HX1.out.c1; have hc2 := HX1.out.c2; have hc3 := HX1.out.c3; have hc4 := HX1.out.c4; have hc5 := HX1.out.c5; have hc6 := HX1.out.c6) | (go_at_call 66; refine (batOwned_any _ _ _ _ _ _ _ _ true HH.out).mono ?_; rintro e w2 ⟨rfl, hb⟩; have HB2 := Lib.hid (HB1.out.trans (hb.mono HB1.out.size)); have HX2 := Lib.hid (HX1.out.on hb); clear hb hc0 hc1 hc2 hc3 hc4 hc5 hc6; have hc3 := HX2.out.c3) | (go_at_call 67; refine (seq_right _ _ _ HRT.out).mono ?_; rintro e w' ⟨rfl, rfl⟩))
          go_meet
          case rel => exact ⟨by simp, HX2, HB2⟩
    · go_wp2_with (first | (go_at_call 65; refine (batUnowned_any _ _ _ _ _ _ _ _ true HN.out).mono ?_; rintro e w1 ⟨rfl, hb⟩; have HB1 := Lib.hid (HB0.out.trans (hb.mono HB0.out.size)); have HX1 := Lib.hid (HX0.out.on hb); clear hb))
      go_meet
      case rel => exact ⟨by simp, HX1, HB1⟩
  case rest =>
    obtain ⟨rfl, HBX, HBW⟩ := hcut
    obtain ⟨cnd, hcn⟩ : ∃ cnd, cnd = (nn || (hd && rt)) := ⟨_, rfl⟩
    rw [← hcn]
    cases cnd
    · have HC := Lib.hid hcn.symm
      clear hcn
      go_wp2
      go_ret
      refine says_mk (E12.out ?_).symm HBW.out
      rintro ⟨q1, q2⟩
      have hx := HC.out
      rcases q1 with q1 | ⟨q1, q3⟩
      · rw [q1] at hx; simp at hx
      · rw [q1, q3] at hx; simp at hx
    · have hcn2 : nn = true ∨ hd = true ∧ rt = true := by simpa using hcn.symm
      have HC0 := Lib.hid hcn2
      clear hcn hcn2
      have hc6 := HBX.out.c6
      by_cases hlen : len = 0
      · subst hlen
        go_wp2
        go_ret
        exact says_mk (E12.out (by rintro ⟨_, h⟩; omega)).symm HBW.out
      have hl0 : ((len : Int) == 0) = false := by simp; omega
      have HC : Hid ((nn = true ∨ hd = true ∧ rt = true) ∧ 0 < len) := ⟨HC0.out, by omega⟩
      by_cases h16 : 16 < len
      · go_wp2
        go_ret
        exact says_mk (E13.out HC.out (.inl h16)).symm HBW.out
      · have h16' : len ≤ 16 := by omega
        go_wp2_with fail
        go_loopw [29] (fun v29 wr => PlainAt w recs v29 wr) (fun v29 _ => len - (intOf v29).toNat)
        case atStart => exact plainAt_start w _ recs HBW.out
        case round =>
          obtain ⟨j, hj, rfl, hno, hbel⟩ := hrel
          have HNO := Lib.hid hno
          have HBEL := Lib.hid hbel
          rw [HLEN.out] at hj
          clear hno hbel
          by_cases hlt : j < len
          · obtain ⟨r, hrj⟩ : ∃ r, recs[j]? = some r := by
              have hjl : j < recs.length := by rw [HLEN.out]; exact hlt
              exact ⟨_, List.getElem?_eq_getElem hjl⟩
            obtain ⟨bk, off, rfl, hbk, hcell⟩ : ∃ bk off, ad = some ⟨bk, off, none⟩ ∧ bk < w.heap.size ∧ ∀ i r, recs[i]? = some r → wr.cell? ⟨bk, off + i * 2, none⟩ = some (.string r.key) ∧ wr.cell? ⟨bk, off + i * 2 + 1, none⟩ = some (.string r.val) := by
              rcases HR.out.cells with h | ⟨bk, off, e, hlt, hc⟩
              · omega
              · exact ⟨bk, off, e, hlt, fun i r hi => ⟨(HBEL.out.cell (p := ⟨bk, _, none⟩) hlt).trans (hc i r hi).1, (HBEL.out.cell (p := ⟨bk, _, none⟩) hlt).trans (hc i r hi).2⟩⟩
            obtain ⟨hk, hv⟩ := hcell j r hrj
            obtain ⟨hs1, hs2⟩ := HT.out r (List.mem_of_getElem? hrj)
            obtain ⟨ks, vs⟩ := r
            simp only at hk hv hs1 hs2
            have HRJ := Lib.hid hrj
            have HMEM : Hid ((⟨ks, vs⟩ : Rc) ∈ recs) := List.mem_of_getElem? hrj
            clear hcell hrj
            by_cases hk64 : 64 < ks.size
            · go_wp2
              go_ret
              exact says_mk (E13.out HC.out (.inr ⟨⟨ks, vs⟩, HMEM.out, .inl hk64⟩)).symm (HBEL.out.alloc HBEL.out.size _)
            · have hk64' : ks.size ≤ 64 := by omega
              by_cases hv64 : 64 < vs.size
              · go_wp2
                go_ret
                exact says_mk (E13.out HC.out (.inr ⟨⟨ks, vs⟩, HMEM.out, .inr hv64⟩)).symm (HBEL.out.alloc HBEL.out.size _)
              · have hv64' : vs.size ≤ 64 := by omega
                have HNO2 : Hid (∀ i r, i < j + 1 → recs[i]? = some r → ¬ longRec r) := by
                  intro i r hi hir
                  by_cases e : i = j
                  · subst e
                    rw [HRJ.out] at hir
                    cases hir
                    rintro (h | h)
                    · exact hk64 h
                    · exact hv64 h
                  · exact HNO.out i r (by omega) hir
                have HLE : Hid (j + 1 ≤ recs.length) := by show _ ≤ _; rw [HLEN.out]; exact hlt
                go_wp2
                go_roundw
                case rel => (repeat apply Exists.intro); exact ⟨⟨j + 1, HLE.out, by go_num, HNO2.out, HBEL.out.alloc HBEL.out.size _⟩, rfl⟩
                case measure => simp [intOf]; omega
          · obtain rfl : j = len := by omega
            go_wp2
            go_ret
            refine says_mk (E0.out HC.out ?_).symm HBEL.out
            rintro (h | h)
            · omega
            · exact not_long (by rw [HLEN.out]; exact HNO.out) h
end Go.Proofs.Ytlpmfhccfihnfaa

/-! The code's own batch, chapter 6: split, record, length, kind, Count. -/
namespace Go.Proofs.Ytlpmfhccfihnfaa
open Go.RowKit
open Go.SeqMath
open Go.BatMath hiding AllB getD_lt take_all
open Go.VarMath (longB length_longB textB beB length_beB beB_take)
set_option linter.unusedVariables false

/-- What stands before round i of split's loop. -/
def SplitAt (w : World) (K u i : Nat) (wr : World) : Prop := Own wr w.heap.size ((beB K u).take i ++ List.replicate (K - i) 0) ∧ Below w.heap.size w wr
theorem splitAt_start (w : World) (K u : Nat) : SplitAt w K u 0 (w.alloc (.cells (vals (List.replicate K 0)).toArray 5)) :=
  ⟨by simpa using own_new w (List.replicate K 0), (Below.refl _ _).alloc (Nat.le_refl _) _⟩
theorem SplitAt.free {w wr : World} {K u i : Nat} (h : SplitAt w K u i wr) (j : Nat) : wr.frozen? ⟨w.heap.size, j, none⟩ = false := h.1.free j
theorem SplitAt.cell {w wr : World} {K u i : Nat} (h : SplitAt w K u i wr) (hi : i < K) : ∃ x, wr.cell? ⟨w.heap.size, i, none⟩ = some x := ⟨_, h.1.cell i (by simp [length_beB]; omega)⟩
theorem SplitAt.next {w wr : World} {K u i z : Nat} (h : SplitAt w K u i wr) (hi : i < K) (hz : z = u / 256 ^ (K - 1 - i) % 256) : SplitAt w K u (i + 1) (wr.setCell ⟨w.heap.size, i, none⟩ (.int .u8 (z : Int))) := by
  refine ⟨?_, h.2.setCell (Nat.le_refl _) _⟩
  have hs := h.1.set i z
  have e : ((beB K u).take i ++ List.replicate (K - i) 0).set i z = (beB K u).take (i + 1) ++ List.replicate (K - (i + 1)) 0 := by
    rw [beB_take i K u hi, ← hz]
    have hl : ((beB K u).take i).length = i := by rw [List.length_take, length_beB]; omega
    obtain ⟨m, hm⟩ : ∃ m, K - i = m + 1 := ⟨K - i - 1, by omega⟩
    rw [hm, show K - (i + 1) = m by omega, List.set_append_right _ _ (by omega), hl, Nat.sub_self, List.replicate_succ, List.set_cons_zero, List.append_assoc]
    rfl
  rw [e] at hs
  exact hs
theorem SplitAt.done {w wr : World} {K u : Nat} (h : SplitAt w K u K wr) (hK : K ≤ 100) : GivesRow w (beB K u) (.returned (.slice (some ⟨w.heap.size, 0, none⟩) K K)) wr := by
  have h1 := h.1
  rw [List.take_of_length_le (by rw [length_beB]; exact Nat.le_refl _), Nat.sub_self] at h1
  exact gives_row (length_beB K u) (owns_front (m := 0) (length_beB K u) h1 (Nat.le_refl _) (by unfold maxLen; omega)) h.2
theorem split_shift (u j : Nat) : (u : Int) / 2 ^ (8 * j) % 256 = ((u / 256 ^ j % 256 : Nat) : Int) := by
  have h : (256 : Nat) ^ j = 2 ^ (8 * j) := by rw [Nat.pow_mul]
  rw [h]; simp
set_option maxHeartbeats 400000 in
theorem split4_any (w : World) (u : Nat) (hu : u < 4294967296) :
    Calls Try.prog 37 #[.int .u32 (u : Int), .int .i64 4] w (GivesRow w (beB 4 u)) := by
  have hmk : ∀ W, (Instr.makeSlice 34 (.int .i64 4) (.int .i64 4)).run Try.prog W = .ok (.slice (some ⟨W.heap.size, 0, none⟩) 4 4) (W.alloc (.cells (vals (List.replicate 4 0)).toArray 5)) := fun W => run_make_part W 4 4 (by omega) (by omega)
  go_enter Try.func37, Try.ntmps37
  go_wp2
  go_loopw [6, 11] (fun v6 v11 wr => ∃ i : Nat, i ≤ 4 ∧ v11 = .int .i64 i ∧ SplitAt w 4 u i wr) (fun _ v11 _ => (4 - intOf v11).toNat)
  case atStart => exact ⟨0, by omega, rfl, splitAt_start w 4 u⟩
  case round =>
    obtain ⟨i, hi, rfl, hat⟩ := hrel
    have HAT := Lib.hid hat
    clear hat hmk
    by_cases hlt : i < 4
    · obtain ⟨z, hz⟩ : ∃ z, z = u / 256 ^ (3 - i) % 256 := ⟨_, rfl⟩
      have hz8 : z < 256 := by omega
      have hsh : (u : Int) / 2 ^ (8 * (3 - i)) % 256 = (z : Int) := by rw [hz]; exact split_shift _ _
      obtain ⟨x, hx⟩ := HAT.out.cell hlt
      have hfr := HAT.out.free i
      have HZ := Lib.hid hz
      clear hz
      go_wp2
      go_roundw
      case rel => exact ⟨i + 1, by omega, by go_num, HAT.out.next hlt HZ.out⟩
      case measure => simp [intOf]; omega
    · obtain rfl : i = 4 := by omega
      go_wp2
      go_ret
      exact HAT.out.done (by omega)
set_option maxHeartbeats 400000 in
theorem split2_any (w : World) (u : Nat) (hu : u < 4294967296) :
    Calls Try.prog 37 #[.int .u32 (u : Int), .int .i64 2] w (GivesRow w (beB 2 u)) := by
  have hmk : ∀ W, (Instr.makeSlice 34 (.int .i64 2) (.int .i64 2)).run Try.prog W = .ok (.slice (some ⟨W.heap.size, 0, none⟩) 2 2) (W.alloc (.cells (vals (List.replicate 2 0)).toArray 5)) := fun W => run_make_part W 2 2 (by omega) (by omega)
  go_enter Try.func37, Try.ntmps37
  go_wp2
  go_loopw [6, 11] (fun v6 v11 wr => ∃ i : Nat, i ≤ 2 ∧ v11 = .int .i64 i ∧ SplitAt w 2 u i wr) (fun _ v11 _ => (2 - intOf v11).toNat)
  case atStart => exact ⟨0, by omega, rfl, splitAt_start w 2 u⟩
  case round =>
    obtain ⟨i, hi, rfl, hat⟩ := hrel
    have HAT := Lib.hid hat
    clear hat hmk
    by_cases hlt : i < 2
    · obtain ⟨z, hz⟩ : ∃ z, z = u / 256 ^ (1 - i) % 256 := ⟨_, rfl⟩
      have hz8 : z < 256 := by omega
      have hsh : (u : Int) / 2 ^ (8 * (1 - i)) % 256 = (z : Int) := by rw [hz]; exact split_shift _ _
      obtain ⟨x, hx⟩ := HAT.out.cell hlt
      have hfr := HAT.out.free i
      have HZ := Lib.hid hz
      clear hz
      go_wp2
      go_roundw
      case rel => exact ⟨i + 1, by omega, by go_num, HAT.out.next hlt HZ.out⟩
      case measure => simp [intOf]; omega
    · obtain rfl : i = 2 := by omega
      go_wp2
      go_ret
      exact HAT.out.done (by omega)

set_option maxRecDepth 100000 in
theorem record_any (w : World) (ks vs : ByteArray) (h1 : ks.size ≤ 4096) (h2 : vs.size ≤ 4096) :
    Calls Try.prog 56 #[.agg #[.string ks, .string vs]] w (GivesRow w (recB ⟨ks, vs⟩)) := by
  have l1 := BatMath.text_len (s := bl ks) (by rw [bl_len]; omega)
  have l2 := BatMath.text_len (s := bl vs) (by rw [bl_len]; omega)
  rw [bl_len] at l1 l2
  obtain ⟨n1, hn1⟩ : ∃ n1, n1 = (textB (bl ks)).length := ⟨_, rfl⟩
  obtain ⟨n2, hn2⟩ : ∃ n2, n2 = (textB (bl vs)).length := ⟨_, rfl⟩
  rw [← hn1] at l1
  rw [← hn2] at l2
  have HN1 : Hid (([] ++ textB (bl ks)).length = n1) := by show _ = _; rw [List.nil_append, hn1]
  have HN2 : Hid ((([] ++ textB (bl ks)) ++ textB (bl vs)).length = n1 + n2) := by show _ = _; rw [List.length_append, HN1.out, hn2]
  have HA1 : Hid (AllB ([] ++ textB (bl ks))) := by show AllB _; rw [List.nil_append]; exact text_all (bl_all _) (by rw [bl_len]; omega)
  clear hn1 hn2
  obtain ⟨wx, hwx⟩ : ∃ wx, wx = w.alloc (.cells #[.string ks, .string vs] 58) := ⟨_, rfl⟩
  have hd0 : wx.cell? ⟨w.heap.size, 0, none⟩ = some (.string ks) := by rw [hwx, World.cell?, heap_alloc_new]; rfl
  have hd1 : wx.cell? ⟨w.heap.size, 1, none⟩ = some (.string vs) := by rw [hwx, World.cell?, heap_alloc_new]; rfl
  have HWX := Lib.hid hwx
  have HBX : Hid (Below w.heap.size w wx) := by show Below _ _ _; rw [hwx]; exact (Below.refl _ _).alloc (Nat.le_refl _) _
  have CT : Hid (∀ W, Below wx.heap.size wx W → Calls Try.prog 74 #[.slice none 0 0, .string ks] W (GivesRow W ([] ++ textB (bl ks)))) := by
    intro W hW
    exact text_any W none 0 0 [] ks ⟨Byt.nil W, fun _ => rfl⟩ (by omega)
  clear hwx
  go_enter Try.func56, Try.ntmps56
  go_upto_region 1 with fail
  rw [← HWX.out]
  go_region_held3 (fun W => Below wx.heap.size wx W ∧ W.cell? ⟨w.heap.size, 0, none⟩ = some (.string ks) ∧ W.cell? ⟨w.heap.size, 1, none⟩ = some (.string vs)) (first | exact keep_two hb6.out hd0 hd1 | exact keep_two hb5.out hd0 hd1 | exact keep_two ((Below.refl _ wx).drew) hd0 hd1) (first | (go_at_call 74; refine (text_any _ _ _ _ _ vs (owns_row ho5.out HA1.out) (by omega)).mono ?_; rintro e w6 hg; obtain ⟨g6, k6, rfl, ho6, hb6, hbb6⟩ := gives_on (w := wx) (n := n1 + n2) hg hb5.out HN2.out) | (go_at_call 74; refine (CT.out _ ?_).mono ?_; exact (And.left ‹Below wx.heap.size wx _ ∧ _›); rintro e w5 hg; obtain ⟨g5, k5, rfl, ho5, hb5, hbb5⟩ := gives_on (w := wx) (n := n1) hg (And.left ‹Below wx.heap.size wx _ ∧ _›) HN1.out))
  go_wp2
  go_ret
  exact gives_row (by rw [recB, ← HN2.out]; rfl) (by rw [recB]; exact owns_low ho6.out HBX.out.size) (HBX.out.trans (hb6.out.mono HBX.out.size))
/-- What stands before round j of length's loop. -/
def LenAt (w : World) (l : List Rc) (v3 v9 : Value) (wr : World) : Prop := ∃ j : Nat, j ≤ l.length ∧ v9 = .int .i64 j ∧ v3 = .int .i64 ((36 + (recsB (l.take j)).length : Nat) : Int) ∧ Below w.heap.size w wr
theorem lenAt_start {w W : World} {l : List Rc} (h : Below w.heap.size w W) : LenAt w l (.int .i64 36) (.int .i64 0) W := ⟨0, Nat.zero_le _, rfl, by simp [recsB], h⟩
set_option maxRecDepth 100000 in
set_option maxHeartbeats 1000000 in
theorem length_any (w : World) (b : Bat) (ad : Option Addr) (len cap : Nat) (hr : RecsAt w ad len cap b.recs) (ht : ∀ r ∈ b.recs, r.key.size ≤ 64 ∧ r.val.size ≤ 64) (hL : len ≤ 255) :
    Calls Try.prog 44 #[.agg #[.int .i64 b.base, .int .i64 b.prod, .int .i64 b.epoch, .int .i64 b.seq, .bool b.txn, .int .i64 b.marker, .slice ad len cap]] w (Says ((bytesB b).length : Int) w) := by
  have hbl := bytes_len b
  have hlr := hr.length
  have HR := Lib.hid hr
  have HT := Lib.hid ht
  have HLR := Lib.hid hlr
  have HBL := Lib.hid hbl
  clear hr ht hlr hbl
  obtain ⟨N, hN⟩ : ∃ N, N = (bytesB b).length := ⟨_, rfl⟩
  rw [← hN] at HBL ⊢
  clear hN
  obtain ⟨base, prod, epoch, seq, txn, marker, recs⟩ := b
  simp only at HR HT HLR HBL ⊢
  have HX := Lib.hid (boxAt_new w base prod epoch seq txn marker (.slice ad len cap))
  have HB : Hid (Below w.heap.size w (w.alloc (.cells #[.int .i64 base, .int .i64 prod, .int .i64 epoch, .int .i64 seq, .bool txn, .int .i64 marker, .slice ad len cap] 24))) := (Below.refl _ _).alloc (Nat.le_refl _) _
  go_enter Try.func44, Try.ntmps44
  go_wp2_with fail
  go_loopw [3, 9] (fun v3 v9 wr => LenAt w recs v3 v9 wr) (fun _ v9 _ => len - (intOf v9).toNat)
  case atStart => exact lenAt_start HB.out
  case round =>
    obtain ⟨j, hj, rfl, rfl, hbel⟩ := hrel
    have HBEL := Lib.hid hbel
    clear hbel
    rw [HLR.out] at hj
    have hsm : (recsB (recs.take j)).length ≤ 37740 := by
      have h1 := (recs_len (take_texts HT.out j)).2
      have h2 : (recs.take j).length ≤ 255 := by rw [List.length_take]; have := HLR.out; omega
      omega
    obtain ⟨m, hm⟩ : ∃ m, m = 36 + (recsB (recs.take j)).length := ⟨_, rfl⟩
    rw [← hm]
    have hm1 : m ≤ 40000 := by omega
    clear hsm
    by_cases hlt : j < len
    · obtain ⟨r, hrj⟩ : ∃ r, recs[j]? = some r := by
        have hjl : j < recs.length := by rw [HLR.out]; exact hlt
        exact ⟨_, List.getElem?_eq_getElem hjl⟩
      obtain ⟨bk, off, rfl, hbk, hcell⟩ : ∃ bk off, ad = some ⟨bk, off, none⟩ ∧ bk < w.heap.size ∧ ∀ i r, recs[i]? = some r → wr.cell? ⟨bk, off + i * 2, none⟩ = some (.string r.key) ∧ wr.cell? ⟨bk, off + i * 2 + 1, none⟩ = some (.string r.val) := by
        rcases HR.out.cells with h | ⟨bk, off, e, hlt, hc⟩
        · omega
        · exact ⟨bk, off, e, hlt, fun i r hi => ⟨(HBEL.out.cell (p := ⟨bk, _, none⟩) hlt).trans (hc i r hi).1, (HBEL.out.cell (p := ⟨bk, _, none⟩) hlt).trans (hc i r hi).2⟩⟩
      obtain ⟨hk, hv⟩ := hcell j r hrj
      obtain ⟨hs1, hs2⟩ := HT.out r (List.mem_of_getElem? hrj)
      have hsn := take_recs hrj
      have hrl := rec_len ⟨hs1, hs2⟩
      obtain ⟨q, hq⟩ : ∃ q, q = (recB r).length := ⟨_, rfl⟩
      have HM2 : Hid (36 + (recsB (recs.take (j + 1))).length = m + q) := by show _ = _; rw [hsn, List.length_append, hq, hm]; omega
      rw [← hq] at hrl
      have HQ := Lib.hid hq
      obtain ⟨ks, vs⟩ := r
      simp only at hk hv hs1 hs2
      have HLE : Hid (j + 1 ≤ recs.length) := by show _ ≤ _; rw [HLR.out]; exact hlt
      have HBA : Hid (Below w.heap.size w (wr.alloc (.cells #[.string ks, .string vs] 58))) := HBEL.out.alloc HBEL.out.size _
      clear hcell hrj hsn hq hm
      go_wp2_with fail
      refine (record_any _ ks vs (by omega) (by omega)).mono ?_
      rintro e w2 hg
      obtain ⟨g2, c2, rfl, _, hb2, _⟩ := gives_on hg HBA.out HQ.out.symm
      clear hg
      go_wp2
      go_roundw
      case rel => exact ⟨j + 1, HLE.out, by go_num, by rw [HM2.out]; go_num, hb2.out⟩
      case measure => simp [intOf]; omega
    · obtain rfl : j = len := by omega
      have hrl : recs.take j = recs := by rw [List.take_of_length_le (by rw [HLR.out]; exact Nat.le_refl _)]
      have HMN : Hid (m = N) := by show _ = _; rw [hm, HBL.out, hrl]
      clear hrl hm
      go_wp2
      go_ret
      exact says_mk (by rw [HMN.out]) HBEL.out
/-- The byte of the flags. -/
theorem kind_any (w : World) (b : Bat) (v : Value) (h0 : 0 ≤ b.marker) (h1 : b.marker ≤ 2) :
    Calls Try.prog 55 #[.agg #[.int .i64 b.base, .int .i64 b.prod, .int .i64 b.epoch, .int .i64 b.seq, .bool b.txn, .int .i64 b.marker, v]] w fun e w' => e = .returned (.int .u8 (flagN b : Nat)) ∧ Below w.heap.size w w' := by
  obtain ⟨F, hF⟩ : ∃ F, F = flagN b := ⟨_, rfl⟩
  have hFx : (F : Int) = 2 * b.marker + (if b.txn = true then 1 else 0) := by
    rw [hF]; unfold flagN; split <;> omega
  rw [← hF]
  have HF := Lib.hid hFx
  clear hF hFx
  obtain ⟨base, prod, epoch, seq, txn, marker, recs⟩ := b
  simp only at HF h0 h1 ⊢
  have hmm : marker = 0 ∨ marker = 1 ∨ marker = 2 := by omega
  clear h0 h1
  cases txn
  · rcases hmm with rfl | rfl | rfl
    all_goals
      go_enter Try.func55, Try.ntmps55
      go_wp2
      go_ret
      exact ⟨by rw [HF.out]; rfl, (Below.refl _ _).alloc (Nat.le_refl _) _⟩
  · rcases hmm with rfl | rfl | rfl
    all_goals
      go_enter Try.func55, Try.ntmps55
      go_wp2
      go_ret
      exact ⟨by rw [HF.out]; rfl, (Below.refl _ _).alloc (Nat.le_refl _) _⟩
theorem batCount_any (w : World) (b0 b1 b2 b3 : Int) (b4 : Bool) (b5 : Int) (ad : Option Addr) (len cap : Nat) (n : Int) (hn : (if b5 ≠ 0 then 1 else (len : Int)) = n) :
    Calls Try.prog 23 #[.agg #[.int .i64 b0, .int .i64 b1, .int .i64 b2, .int .i64 b3, .bool b4, .int .i64 b5, .slice ad len cap]] w (Says n w) := by
  by_cases h : b5 = 0
  · subst h
    obtain rfl : (len : Int) = n := by rw [← hn, if_neg (by decide)]
    clear hn
    go_enter Try.func23, Try.ntmps23
    go_wp2
    go_ret
    exact says_mk rfl ((Below.refl _ _).alloc (Nat.le_refl _) _)
  · have h1 : (b5 != 0) = true := by simpa using h
    obtain rfl : 1 = n := by rw [← hn, if_pos h]
    clear hn
    go_enter Try.func23, Try.ntmps23
    go_wp2
    go_ret
    exact says_mk rfl ((Below.refl _ _).alloc (Nat.le_refl _) _)
end Go.Proofs.Ytlpmfhccfihnfaa

/-! The code's own batch, chapter 6: Right, Size. -/
namespace Go.Proofs.Ytlpmfhccfihnfaa
open Go.RowKit
open Go.SeqMath
open Go.BatMath hiding AllB getD_lt take_all
set_option linter.unusedVariables false

theorem right_low {b : Bat} (h : ¬ (0 ≤ b.base ∧ b.base ≤ 1099511627776)) : rightE b = 18 := by
  unfold rightE; rw [if_pos (by omega)]
theorem right_rd {b : Bat} (h : 0 ≤ b.base ∧ b.base ≤ 1099511627776) (hm : b.marker = 0) : rightE b = rdE b := by
  unfold rightE rdE; rw [if_neg (by omega), if_neg (by simpa using hm)]
theorem right_rm {b : Bat} (h : 0 ≤ b.base ∧ b.base ≤ 1099511627776) (hm : b.marker ≠ 0) : rightE b = rmE b := by
  unfold rightE rmE; rw [if_neg (by omega), if_pos hm]
set_option maxRecDepth 100000 in
theorem batRight_any (w : World) (b : Bat) (ad : Option Addr) (len cap : Nat) (hr : RecsAt w ad len cap b.recs) (ht : TextsOk b.recs) (hL : len ≤ 140737488355328) :
    Calls Try.prog 26 #[.agg #[.int .i64 b.base, .int .i64 b.prod, .int .i64 b.epoch, .int .i64 b.seq, .bool b.txn, .int .i64 b.marker, .slice ad len cap]] w (Says (rightE b) w) := by
  have e18 := @right_low b
  have eD := @right_rd b
  have eM := @right_rm b
  have hlr := hr.length
  have CD : Hid (∀ W, Below w.heap.size w W → Calls Try.prog 46 #[.agg #[.int .i64 b.base, .int .i64 b.prod, .int .i64 b.epoch, .int .i64 b.seq, .bool b.txn, .int .i64 b.marker, .slice ad len cap]] W (Says (rdE b) W)) := fun W hW => rightData_any W b ad len cap (hr.keep hW) ht hL
  have CM : Hid (∀ W, Below w.heap.size w W → Calls Try.prog 47 #[.agg #[.int .i64 b.base, .int .i64 b.prod, .int .i64 b.epoch, .int .i64 b.seq, .bool b.txn, .int .i64 b.marker, .slice ad len cap]] W (Says (rmE b) W)) := fun W hW => rightMarker_any W b ad len cap hlr
  have CL : Hid (rightE b = 0 → ∀ W, Below w.heap.size w W → Calls Try.prog 44 #[.agg #[.int .i64 b.base, .int .i64 b.prod, .int .i64 b.epoch, .int .i64 b.seq, .bool b.txn, .int .i64 b.marker, .slice ad len cap]] W (Says ((bytesB b).length : Int) W)) := by
    intro h W hW
    have ho := ok_of h
    exact length_any W b ad len cap (hr.keep hW) ho.texts (by have := ho.recs; omega)
  have HLE : Hid (rightE b = 0 → (bytesB b).length ≤ 4096) := by
    intro h
    have := (ok_len (ok_of h)).1
    omega
  obtain ⟨N, hN⟩ : ∃ N, N = (bytesB b).length := ⟨_, rfl⟩
  rw [← hN] at CL HLE
  obtain ⟨ev, hev⟩ : ∃ ev, ev = rightE b := ⟨_, rfl⟩
  rw [← hev] at e18 eD eM CL HLE ⊢
  obtain ⟨dv, hdv⟩ : ∃ dv, dv = rdE b := ⟨_, rfl⟩
  rw [← hdv] at eD CD
  obtain ⟨mv, hmv⟩ : ∃ mv, mv = rmE b := ⟨_, rfl⟩
  rw [← hmv] at eM CM
  clear hev hdv hmv hN hr ht hL hlr
  obtain ⟨base, prod, epoch, seq, txn, marker, recs⟩ := b
  simp only at CD CM CL e18 eD eM ⊢
  obtain ⟨W0, hW0⟩ : ∃ W0, W0 = (w.alloc (.cells #[.int .i64 base, .int .i64 prod, .int .i64 epoch, .int .i64 seq, .bool txn, .int .i64 marker, .slice ad len cap] 24)) := ⟨_, rfl⟩
  have HX := Lib.hid (show BoxAt W0 w.heap.size base prod epoch seq txn marker (.slice ad len cap) by rw [hW0]; exact boxAt_new w _ _ _ _ _ _ _)
  have HB := Lib.hid (show Below w.heap.size w W0 by rw [hW0]; exact (Below.refl _ _).alloc (Nat.le_refl _) _)
  have HW0 := Lib.hid hW0
  clear hW0
  have E18 := Lib.hid e18
  have ED := Lib.hid eD
  have EM := Lib.hid eM
  clear e18 eD eM
  go_enter Try.func26, Try.ntmps26
  go_wp2_with fail
  rw [← HW0.out]
  by_cases hb0 : 0 ≤ base ∧ base ≤ 1099511627776
  · refine (batOffset_any base _ true (by simp [hb0])).mono ?_
    rintro e w' ⟨rfl, rfl⟩
    have hc0 := HX.out.c0
    have hc1 := HX.out.c1
    have hc2 := HX.out.c2
    have hc3 := HX.out.c3
    have hc4 := HX.out.c4
    have hc5 := HX.out.c5
    have hc6 := HX.out.c6
    go_wp2_with fail
    refine (CD.out W0 HB.out).mono ?_
    rintro e w1 ⟨rfl, hb⟩
    have HX1 := Lib.hid (HX.out.on hb)
    have HB1 := Lib.hid (HB.out.trans (hb.mono HB.out.size))
    clear hb hc0 hc1 hc2 hc3 hc4 hc5 hc6
    have hc0 := HX1.out.c0
    have hc1 := HX1.out.c1
    have hc2 := HX1.out.c2
    have hc3 := HX1.out.c3
    have hc4 := HX1.out.c4
    have hc5 := HX1.out.c5
    have hc6 := HX1.out.c6
    have hlt1 := HX1.out.lt
    have hfz : ∀ j, w1.frozen? ⟨w.heap.size, j, none⟩ = false := HX1.out.free
    by_cases hm : marker = 0
    · have hm1 : (marker != 0) = false := by simpa using hm
      obtain rfl : ev = dv := ED.out hb0 hm
      have HM := Lib.hid hm
      clear hm
      by_cases h0 : ev = 0
      · have h1 : (ev != 0) = false := by simpa using h0
        have H0 := Lib.hid h0
        have hN4 := HLE.out h0
        clear h0
        go_wp2_with fail
        refine (CL.out H0.out w1 HB1.out).mono ?_
        rintro e w2 ⟨rfl, hb⟩
        have HB2 := Lib.hid (HB1.out.trans (hb.mono HB1.out.size))
        clear hb hc0 hc1 hc2 hc3 hc4 hc5 hc6
        go_wp2
        go_ret
        exact says_mk H0.out.symm HB2.out
      · have h1 : (ev != 0) = true := by simpa using h0
        go_wp2
        go_ret
        exact says_mk rfl HB1.out
    · have hm1 : (marker != 0) = true := by simpa using hm
      obtain rfl : ev = mv := EM.out hb0 hm
      have HM := Lib.hid hm
      clear hm
      go_wp2_with fail
      refine (CM.out w1 HB1.out).mono ?_
      rintro e w2 ⟨rfl, hb⟩
      have HX2 := Lib.hid (HX1.out.on hb)
      have HB2 := Lib.hid (HB1.out.trans (hb.mono HB1.out.size))
      clear hb hc0 hc1 hc2 hc3 hc4 hc5 hc6
      have hc0 := HX2.out.c0
      have hc1 := HX2.out.c1
      have hc2 := HX2.out.c2
      have hc3 := HX2.out.c3
      have hc4 := HX2.out.c4
      have hc5 := HX2.out.c5
      have hc6 := HX2.out.c6
      by_cases h0 : ev = 0
      · have h1 : (ev != 0) = false := by simpa using h0
        have H0 := Lib.hid h0
        have hN4 := HLE.out h0
        clear h0
        go_wp2_with fail
        refine (CL.out H0.out w2 HB2.out).mono ?_
        rintro e w3 ⟨rfl, hb⟩
        have HB3 := Lib.hid (HB2.out.trans (hb.mono HB2.out.size))
        clear hb hc0 hc1 hc2 hc3 hc4 hc5 hc6
        go_wp2
        go_ret
        exact says_mk H0.out.symm HB3.out
      · have h1 : (ev != 0) = true := by simpa using h0
        go_wp2
        go_ret
        exact says_mk rfl HB2.out
  · refine (batOffset_any base _ false (by
      rcases Classical.em (0 ≤ base) with h | h
      · have : ¬ base ≤ 1099511627776 := fun h2 => hb0 ⟨h, h2⟩
        simp [this]
      · simp [h])).mono ?_
    rintro e w' ⟨rfl, rfl⟩
    have H18 := Lib.hid (E18.out hb0)
    clear hb0
    go_wp2
    go_ret
    exact says_mk H18.out.symm HB.out
theorem batSize_any (w : World) (b : Bat) (ad : Option Addr) (len cap : Nat) (hr : RecsAt w ad len cap b.recs) (ht : TextsOk b.recs) (hL : len ≤ 140737488355328) :
    Calls Try.prog 22 #[.agg #[.int .i64 b.base, .int .i64 b.prod, .int .i64 b.epoch, .int .i64 b.seq, .bool b.txn, .int .i64 b.marker, .slice ad len cap]] w (Says (sizeB b) w) := by
  have CP : Hid (∀ W, Below w.heap.size w W → Calls Try.prog 26 #[.agg #[.int .i64 b.base, .int .i64 b.prod, .int .i64 b.epoch, .int .i64 b.seq, .bool b.txn, .int .i64 b.marker, .slice ad len cap]] W (Says (rightE b) W)) := fun W hW => batRight_any W b ad len cap (hr.keep hW) ht hL
  have CL : Hid (rightE b = 0 → ∀ W, Below w.heap.size w W → Calls Try.prog 44 #[.agg #[.int .i64 b.base, .int .i64 b.prod, .int .i64 b.epoch, .int .i64 b.seq, .bool b.txn, .int .i64 b.marker, .slice ad len cap]] W (Says ((bytesB b).length : Int) W)) := by
    intro h W hW
    have ho := ok_of h
    have hlr := hr.length
    exact length_any W b ad len cap (hr.keep hW) ho.texts (by have := ho.recs; omega)
  have HY : Hid (rightE b = 0 → ((bytesB b).length : Int) = sizeB b) := fun h => by unfold sizeB; rw [if_pos h]
  have HN : Hid (rightE b ≠ 0 → 0 = sizeB b) := fun h => by unfold sizeB; rw [if_neg h]
  obtain ⟨P, hP⟩ : ∃ P, P = sizeB b := ⟨_, rfl⟩
  rw [← hP] at HY HN ⊢
  obtain ⟨ev, hev⟩ : ∃ ev, ev = rightE b := ⟨_, rfl⟩
  rw [← hev] at HY HN CP CL
  obtain ⟨N, hN⟩ : ∃ N, N = (bytesB b).length := ⟨_, rfl⟩
  rw [← hN] at HY CL
  clear hev hP hr ht hN hL
  obtain ⟨base, prod, epoch, seq, txn, marker, recs⟩ := b
  simp only at CP CL ⊢
  obtain ⟨W0, hW0⟩ : ∃ W0, W0 = (w.alloc (.cells #[.int .i64 base, .int .i64 prod, .int .i64 epoch, .int .i64 seq, .bool txn, .int .i64 marker, .slice ad len cap] 24)) := ⟨_, rfl⟩
  have HX := Lib.hid (show BoxAt W0 w.heap.size base prod epoch seq txn marker (.slice ad len cap) by rw [hW0]; exact boxAt_new w _ _ _ _ _ _ _)
  have HB := Lib.hid (show Below w.heap.size w W0 by rw [hW0]; exact (Below.refl _ _).alloc (Nat.le_refl _) _)
  have HW0 := Lib.hid hW0
  clear hW0
  go_enter Try.func22, Try.ntmps22
  go_wp2_with fail
  rw [← HW0.out]
  refine (CP.out W0 HB.out).mono ?_
  rintro e w1 ⟨rfl, hb⟩
  have HX1 := Lib.hid (HX.out.on hb)
  have HB1 := Lib.hid (HB.out.trans (hb.mono HB.out.size))
  clear hb
  by_cases h0 : ev = 0
  · have h1 : (ev != 0) = false := by simpa using h0
    have H0 := Lib.hid h0
    clear h0
    have hc0 := HX1.out.c0
    have hc1 := HX1.out.c1
    have hc2 := HX1.out.c2
    have hc3 := HX1.out.c3
    have hc4 := HX1.out.c4
    have hc5 := HX1.out.c5
    have hc6 := HX1.out.c6
    go_wp2_with fail
    refine (CL.out H0.out w1 HB1.out).mono ?_
    rintro e w2 ⟨rfl, hb⟩
    have HB2 := Lib.hid (HB1.out.trans (hb.mono HB1.out.size))
    clear hb hc0 hc1 hc2 hc3 hc4 hc5 hc6
    go_wp2
    go_ret
    exact says_mk (HY.out H0.out) HB2.out
  · have h1 : (ev != 0) = true := by simpa using h0
    have H0 := Lib.hid h0
    clear h0
    go_wp2
    go_ret
    exact says_mk (HN.out H0.out) HB1.out
end Go.Proofs.Ytlpmfhccfihnfaa

/-! The code's own batch, chapter 6: body: what stands under the sum of a batch that is right. -/
namespace Go.Proofs.Ytlpmfhccfihnfaa
open Go.RowKit
open Go.SeqMath
open Go.BatMath hiding AllB getD_lt take_all
open Go.VarMath (longB length_longB textB beB length_beB)
set_option linter.unusedVariables false

theorem keep_seven {w2 W : World} {k : Nat} {b0 b1 b2 b3 : Int} {b4 : Bool} {b5 : Int} {v : Value} (h : Below w2.heap.size w2 W) (hx : BoxAt w2 k b0 b1 b2 b3 b4 b5 v) :
    Below w2.heap.size w2 W ∧ W.cell? ⟨k, 0, none⟩ = some (.int .i64 b0) ∧ W.cell? ⟨k, 1, none⟩ = some (.int .i64 b1) ∧ W.cell? ⟨k, 2, none⟩ = some (.int .i64 b2) ∧ W.cell? ⟨k, 3, none⟩ = some (.int .i64 b3) ∧ W.cell? ⟨k, 4, none⟩ = some (.bool b4) ∧ W.cell? ⟨k, 5, none⟩ = some (.int .i64 b5) ∧ W.cell? ⟨k, 6, none⟩ = some v :=
  have x := hx.on h
  ⟨h, x.c0, x.c1, x.c2, x.c3, x.c4, x.c5, x.c6⟩
theorem be2_epoch (e : Int) : beB 2 (e % 4294967296).toNat = [(e % 65536).toNat / 256, (e % 65536).toNat % 256] := by
  have h1 : (e % 4294967296).toNat / 256 % 256 = (e % 65536).toNat / 256 := by omega
  have h2 : (e % 4294967296).toNat % 256 = (e % 65536).toNat % 256 := by omega
  simp only [beB, Nat.reducePow, Nat.div_one, h1, h2]
set_option maxRecDepth 100000 in
set_option maxHeartbeats 4000000 in
theorem body_any (w : World) (b : Bat) (ad : Option Addr) (len cap : Nat) (hr : RecsAt w ad len cap b.recs) (hok : Ok b) (hp1 : b.prod ≤ 9223372036854775807) :
    Calls Try.prog 35 #[.agg #[.int .i64 b.base, .int .i64 b.prod, .int .i64 b.epoch, .int .i64 b.seq, .bool b.txn, .int .i64 b.marker, .slice ad len cap]] w (GivesRow w (bodyB b)) := by
  have CK : Hid (∀ W v, Calls Try.prog 55 #[.agg #[.int .i64 b.base, .int .i64 b.prod, .int .i64 b.epoch, .int .i64 b.seq, .bool b.txn, .int .i64 b.marker, v]] W fun e w' => e = .returned (.int .u8 (flagN b : Nat)) ∧ Below W.heap.size W w') := fun W v => kind_any W b v hok.marker0 hok.marker1
  obtain ⟨q0, q1, q2, q3, q4, q5, q6, q7, q8, q9, q10⟩ := hok
  have hlr := hr.length
  obtain ⟨F, hF⟩ : ∃ F, F = flagN b := ⟨_, rfl⟩
  have hF256 : F < 256 := by rw [hF]; exact flag_lt b
  rw [← hF] at CK
  obtain ⟨E1, hE1'⟩ : ∃ E1, E1 = epochN b / 256 := ⟨_, rfl⟩
  obtain ⟨E2, hE2'⟩ : ∃ E2, E2 = epochN b % 256 := ⟨_, rfl⟩
  have hE6 := epoch_lt b
  have hfr : frontB b = F :: (longB b.prod ++ (E1 :: E2 :: (longB b.seq ++ [len % 256]))) := by rw [hF, hE1', hE2', ← hlr]; rfl
  obtain ⟨Ew, hEw⟩ : ∃ Ew, Ew = (b.epoch % 4294967296).toNat := ⟨_, rfl⟩
  have hEc : b.epoch % 4294967296 = (Ew : Int) := by omega
  have hEw2 : Ew < 4294967296 := by omega
  have hbe : beB 2 Ew = [E1, E2] := by rw [hEw, be2_epoch, hE1', hE2']; rfl
  have hE1l : E1 < 256 := by omega
  have hE2l : E2 < 256 := by omega
  have CS : Hid (∀ W, Calls Try.prog 37 #[.int .u32 (Ew : Int), .int .i64 2] W (GivesRow W [E1, E2])) := by
    intro W
    rw [← hbe]
    exact split2_any W Ew hEw2
  have HFR := Lib.hid hfr
  have HBO : Hid (bodyB b = frontB b ++ recsB b.recs) := rfl
  have HT := Lib.hid q10
  have HR := Lib.hid hr
  have HEC := Lib.hid hEc
  have hlen16 : len ≤ 16 := by omega
  have HLR := Lib.hid hlr
  clear hF hfr hE1' hE2' hE6 q9 q10 hr hlr hEc hEw hbe hEw2
  obtain ⟨base, prod, epoch, seq, txn, marker, recs⟩ := b
  simp only at q0 q1 q2 q3 q4 q5 q6 q7 q8 hp1 HR HEC HT HLR CK ⊢
  obtain ⟨W0, hW0⟩ : ∃ W0, W0 = (w.alloc (.cells #[.int .i64 base, .int .i64 prod, .int .i64 epoch, .int .i64 seq, .bool txn, .int .i64 marker, .slice ad len cap] 24)) := ⟨_, rfl⟩
  have HX := Lib.hid (show BoxAt W0 w.heap.size base prod epoch seq txn marker (.slice ad len cap) by rw [hW0]; exact boxAt_new w _ _ _ _ _ _ _)
  have HB := Lib.hid (show Below w.heap.size w W0 by rw [hW0]; exact (Below.refl _ _).alloc (Nat.le_refl _) _)
  have HW0 := Lib.hid hW0
  clear hW0
  have CLF : Hid (∀ W, Row W (some ⟨W.heap.size - 1, 0, none⟩) 1 1 [F] → Calls Try.prog 36 #[.slice (some ⟨W.heap.size - 1, 0, none⟩) 1 1, .int .i64 prod] W (GivesRow W ([F] ++ longB prod))) := by
    intro W h
    exact long_any W _ 1 1 [F] prod h (by omega) (by omega) hp1
  have HAF : Hid (AllB [F]) := all_cons hF256 all_nil
  go_enter Try.func35, Try.ntmps35
  go_upto_region 1 with fail
  rw [← HW0.out]
  go_cut [3] from 6 (fun s3 wx => ∃ g c, s3 = .slice (some ⟨g, 0, none⟩) 9 c ∧ Hid (wx.ownsRow W0.heap.size 5 1 (.slice (some ⟨g, 0, none⟩) 9 c) 9 (vals ([F] ++ longB prod))) ∧ Hid (Below W0.heap.size W0 wx))
  case first =>
    go_region_held3 (fun W => Below W0.heap.size W0 W ∧ W.cell? ⟨w.heap.size, 0, none⟩ = some (.int .i64 base) ∧ W.cell? ⟨w.heap.size, 1, none⟩ = some (.int .i64 prod) ∧ W.cell? ⟨w.heap.size, 2, none⟩ = some (.int .i64 epoch) ∧ W.cell? ⟨w.heap.size, 3, none⟩ = some (.int .i64 seq) ∧ W.cell? ⟨w.heap.size, 4, none⟩ = some (.bool txn) ∧ W.cell? ⟨w.heap.size, 5, none⟩ = some (.int .i64 marker) ∧ W.cell? ⟨w.heap.size, 6, none⟩ = some (.slice ad len cap)) (first | exact keep_seven hb3.out HX.out | exact keep_seven (hb2.out.alloc hb2.out.size _) HX.out | exact keep_seven hb2.out HX.out | exact keep_seven ((Below.refl _ W0).drew) HX.out) (first | (go_at_call 36; refine (long_any _ _ 1 1 [F] prod (row_lit w2 #[.int .u8 (F : Int)] [F] w2.heap.size 1 rfl rfl HAF.out rfl) (by omega) (by omega) hp1).mono ?_; rintro e w3 hg; obtain ⟨g3, k3, rfl, ho3, hb3, hbb3⟩ := gives_on (w := W0) (n := 9) hg (hb2.out.alloc hb2.out.size _) (by simp [length_longB])) | (go_at_call 55; refine (CK.out _ _).mono ?_; rintro e w2 ⟨rfl, hbk⟩; have hb2 := Lib.hid ((And.left ‹Below W0.heap.size W0 _ ∧ _›).trans (hbk.mono (And.left ‹Below W0.heap.size W0 _ ∧ _›).size))))
    all_goals
      go_wp2
      go_meet
      case rel => exact ⟨_, _, rfl, ho3, hb3⟩
  case rest =>
    obtain ⟨g1, c1, rfl, ho1, hb1⟩ := hcut
    have HX1 := Lib.hid (HX.out.on hb1.out)
    have hc2 := HX1.out.c2
    have hec := HEC.out
    have hec2 : IntKind.u32.wrap epoch = (Ew : Int) := by rw [← hec]; simp [IntKind.wrap, IntKind.bits, IntKind.signed]
    clear CK CLF
    go_wp2_with fail
    refine (CS.out _).mono ?_
    rintro e w1 hg
    obtain ⟨gs, ks, rfl, hos, hbs, hbbs⟩ := gives_on hg (Below.refl _ _) (n := 2) rfl
    clear hg hc2 hec hec2
    have HO1 := Lib.hid (owns_keep ho1.out hbs.out (Nat.le_refl _))
    have HB2 : Hid (Below W0.heap.size W0 w1) := hb1.out.trans (hbs.out.mono hb1.out.size)
    have HAE : Hid (AllB [E1, E2]) := all_cons hE1l (all_cons hE2l all_nil)
    have HROW2 := Lib.hid (owns_row hos.out HAE.out)
    have hs0 := HB.out.size
    go_wp2_with (at_builtin; refine append_row rfl (.tmp 12) (.tmp 16) rfl W0.heap.size 9 ([F] ++ longB prod) [E1, E2] _ rfl HO1.out (some_ne _ _ _) HB2.out.size _ _ _ rfl HROW2.out (by omega) W0 HB2.out ?_)
    intro g2 c2 w2 ho2 hb2
    have HO2 := Lib.hid ho2
    have HBW2 := Lib.hid hb2
    have HA2 : Hid (AllB (([F] ++ longB prod) ++ [E1, E2])) := all_app (all_app HAF.out (VarMath.longB_all _)) HAE.out
    have HX2 := Lib.hid (HX.out.on hb2)
    clear ho2 hb2 HX1 HO1 HB2 HROW2 hos hbs hbbs ho1 hb1
    have hc3 := HX2.out.c3
    have hc6 := HX2.out.c6
    have hl256 : IntKind.u8.wrap (len : Int) = (len : Int) := by rw [wrap_u8']; omega
    have CL : Hid (∀ W, Below w2.heap.size w2 W → Calls Try.prog 36 #[.slice (some ⟨g2, 0, none⟩) 11 c2, .int .i64 seq] W (GivesRow W ((([F] ++ longB prod) ++ [E1, E2]) ++ longB seq))) := by
      intro W hW
      exact long_any W _ 11 c2 _ seq ((owns_row HO2.out HA2.out).keep hW (Nat.le_refl _)) (by omega) (by omega) (by omega)
    go_upto_region 3 with fail
    go_cut [3] from 18 (fun s4 wx => ∃ g c, s4 = .slice (some ⟨g, 0, none⟩) 20 c ∧ Hid (wx.ownsRow W0.heap.size 5 1 (.slice (some ⟨g, 0, none⟩) 20 c) 20 (vals (((([F] ++ longB prod) ++ [E1, E2]) ++ longB seq) ++ [len]))) ∧ Hid (Below W0.heap.size W0 wx))
    case first =>
      have HL8 : Hid (AllB [len]) := all_cons (by omega) all_nil
      have HRL : Hid (∀ W, Below (w2.drew.alloc (.cells #[.int .u8 (len : Int)] 5)).heap.size (w2.drew.alloc (.cells #[.int .u8 (len : Int)] 5)) W → Row W (some ⟨w2.heap.size, 0, none⟩) 1 1 [len]) := fun W hW => (row_lit w2.drew #[.int .u8 (len : Int)] [len] w2.heap.size 1 rfl rfl HL8.out rfl).keep hW (Nat.le_refl _)
      go_region_held3 (fun W => Below w2.heap.size w2 W ∧ W.cell? ⟨w.heap.size, 3, none⟩ = some (.int .i64 seq) ∧ W.cell? ⟨w.heap.size, 6, none⟩ = some (.slice ad len cap)) (first | exact keep_two hb4 hc3 hc6 | exact keep_two hb3.out hc3 hc6 | exact keep_two (hb3.out.alloc hb3.out.size _) hc3 hc6 | exact keep_two ((Below.refl _ w2).drew) hc3 hc6 | exact keep_two (((Below.refl _ w2).drew).alloc (by simp) _) hc3 hc6) (first | (go_at_call 36; refine (CL.out _ ?_).mono ?_; exact (And.left ‹Below w2.heap.size w2 _ ∧ _›); rintro e w3 hg; obtain ⟨g3, k3, rfl, ho3, hb3, hbb3⟩ := gives_on (w := w2) (n := 19) hg (And.left ‹Below w2.heap.size w2 _ ∧ _›) (by simp [length_longB])) | (refine held_append (by rfl) (.tmp 21) (.tmp 26) rfl w2.heap.size 19 ((([F] ++ longB prod) ++ [E1, E2]) ++ longB seq) [len] _ rfl (ho3.out.alloc _) (hb3.out.alloc hb3.out.size _).size ⟨w3.heap.size, 0, none⟩ 1 1 rfl (row_lit w3 #[.int .u8 (len : Int)] [len] w3.heap.size 1 rfl rfl HL8.out rfl) (by omega) (by omega) w2 (hb3.out.alloc hb3.out.size _) ?_; intro g4 k4 w4 ho4 hp4 hb4) | (refine held_append (by rfl) (.tmp 21) (.tmp 26) rfl w2.heap.size 19 ((([F] ++ longB prod) ++ [E1, E2]) ++ longB seq) [len] _ rfl ho3.out hb3.out.size ⟨w2.heap.size, 0, none⟩ 1 1 rfl (HRL.out _ hbb3.out) (by omega) (by omega) w2 hb3.out ?_; intro g4 k4 w4 ho4 hp4 hb4))
      all_goals
        go_wp2
        go_meet
        case rel => exact ⟨_, _, rfl, owns_low ho4 HBW2.out.size, HBW2.out.trans (hb4.mono HBW2.out.size)⟩
    case rest =>
      clear hc3 hc6 hl256 CL
      obtain ⟨g4, c4, rfl, ho4, hb4⟩ := hcut
      have HX4 := Lib.hid (HX.out.on hb4.out)
      have hc6 := HX4.out.c6
      obtain ⟨fr, hfr⟩ : ∃ fr, fr = ((([F] ++ longB prod) ++ [E1, E2]) ++ longB seq) ++ [len] := ⟨_, rfl⟩
      rw [← hfr] at ho4
      have hfl : fr.length = 20 := by rw [hfr]; simp [length_longB]
      have HFA : Hid (AllB fr) := by
        show AllB fr
        rw [hfr]
        exact all_app (all_app HA2.out (VarMath.longB_all _)) (all_cons (by omega) all_nil)
      have HFR2 : Hid (bodyB ⟨base, prod, epoch, seq, txn, marker, recs⟩ = fr ++ recsB recs) := by
        show _ = _
        rw [HBO.out, HFR.out, hfr, Nat.mod_eq_of_lt (show len < 256 by omega)]
        simp
      have HFL := Lib.hid hfl
      clear hfr hfl
      go_wp2_with fail
      go_loopw [3, 31] (fun v3 v31 wr => WriteAt W0 fr recs v3 v31 wr) (fun _ v31 _ => len - (intOf v31).toNat)
      case atStart => exact writeAt_start HFL.out ho4.out hb4.out
      case round =>
        obtain ⟨j, g, c, m, hj, rfl, rfl, hm, hown, hbel⟩ := hrel
        rw [HLR.out] at hj
        have HM := Lib.hid hm
        have HOWN := Lib.hid hown
        have HBEL := Lib.hid hbel
        have hmle : m ≤ 2388 := by
          have h1 := (recs_len (take_texts HT.out j)).2
          have h2 : (recs.take j).length ≤ 16 := by rw [List.length_take]; have := HLR.out; omega
          have h3 := HFL.out
          rw [← hm, List.length_append]
          omega
        clear hm hown hbel
        by_cases hlt : j < len
        · obtain ⟨r, hrj⟩ : ∃ r, recs[j]? = some r := by
            have hjl : j < recs.length := by rw [HLR.out]; exact hlt
            exact ⟨_, List.getElem?_eq_getElem hjl⟩
          obtain ⟨bk, off, rfl, hbk, hcell⟩ : ∃ bk off, ad = some ⟨bk, off, none⟩ ∧ bk < w.heap.size ∧ ∀ i r, recs[i]? = some r → wr.cell? ⟨bk, off + i * 2, none⟩ = some (.string r.key) ∧ wr.cell? ⟨bk, off + i * 2 + 1, none⟩ = some (.string r.val) := by
            have hbw : Below w.heap.size w wr := HB.out.trans (HBEL.out.mono HB.out.size)
            rcases HR.out.cells with h | ⟨bk, off, e, hlt, hc⟩
            · omega
            · exact ⟨bk, off, e, hlt, fun i r hi => ⟨(hbw.cell (p := ⟨bk, _, none⟩) hlt).trans (hc i r hi).1, (hbw.cell (p := ⟨bk, _, none⟩) hlt).trans (hc i r hi).2⟩⟩
          obtain ⟨hk, hv⟩ := hcell j r hrj
          have hmem := List.mem_of_getElem? hrj
          obtain ⟨hs1, hs2⟩ := HT.out r hmem
          have hsn := take_recs hrj
          have hta := take_texts HT.out j
          obtain ⟨pre, hpre⟩ : ∃ pre, pre = fr ++ recsB (recs.take j) := ⟨_, rfl⟩
          rw [← hpre] at HM HOWN
          have HSN : Hid (fr ++ recsB (recs.take (j + 1)) = pre ++ recB r) := by
            show _ = _
            rw [hsn, hpre, List.append_assoc]
          have hrl := rec_len ⟨hs1, hs2⟩
          have HRA : Hid (AllB (recB r)) := rec_all (by omega)
          obtain ⟨q, hq⟩ : ∃ q, q = (recB r).length := ⟨_, rfl⟩
          rw [← hq] at hrl
          have HQ := Lib.hid hq
          have HQ2 : Hid ((pre ++ recB r).length = m + q) := by show _ = _; rw [List.length_append, HM.out, hq]
          obtain ⟨ks, vs⟩ := r
          simp only at hk hv hs1 hs2
          have HLE : Hid (j + 1 ≤ recs.length) := by show _ ≤ _; rw [HLR.out]; exact hlt
          clear hcell hrj hmem hsn hta hpre hq
          have HBA : Hid (Below W0.heap.size W0 (wr.alloc (.cells #[.string ks, .string vs] 58))) := HBEL.out.alloc HBEL.out.size _
          have HOA : Hid ((wr.alloc (.cells #[.string ks, .string vs] 58)).ownsRow W0.heap.size 5 1 (.slice (some ⟨g, 0, none⟩) m c) m (vals pre)) := HOWN.out.alloc _
          go_wp2_with fail
          refine (record_any _ ks vs (by omega) (by omega)).mono ?_
          rintro e w5 hg
          obtain ⟨g5, k5, rfl, ho5, hb5, hbb5⟩ := gives_on hg (Below.refl _ _) HQ.out.symm
          clear hg
          have HO5 := Lib.hid (owns_keep HOA.out hb5.out (Nat.le_refl _))
          have HB5 : Hid (Below W0.heap.size W0 w5) := HBA.out.trans (hb5.out.mono HBA.out.size)
          have HROW5 := Lib.hid (owns_row ho5.out HRA.out)
          go_wp2_with (at_builtin; refine append_row rfl (.tmp 35) (.tmp 37) rfl W0.heap.size m pre (recB ⟨ks, vs⟩) _ rfl HO5.out (some_ne _ _ _) HB5.out.size _ _ _ rfl HROW5.out (by omega) W0 HB5.out ?_)
          intro g6 c6 w6 ho6 hb6
          have HO6 := Lib.hid ho6
          have HB6 := Lib.hid hb6
          clear ho6 hb6
          go_wp2
          go_roundw
          case rel => exact ⟨j + 1, _, _, _, HLE.out, by go_num, rfl, by rw [HSN.out]; exact HQ2.out, by rw [HSN.out]; exact HO6.out, HB6.out⟩
          case measure => simp [intOf]; omega
        · obtain rfl : j = len := by omega
          have hrl : recs.take j = recs := by rw [List.take_of_length_le (by rw [HLR.out]; exact Nat.le_refl _)]
          rw [hrl] at HM HOWN
          rw [← HFR2.out] at HM HOWN
          clear hlt hrl
          go_wp2
          go_ret
          exact gives_row HM.out (owns_low HOWN.out HB.out.size) (HB.out.trans (HBEL.out.mono HB.out.size))
end Go.Proofs.Ytlpmfhccfihnfaa

/-! The code's own batch, chapter 6: Bytes. -/
namespace Go.Proofs.Ytlpmfhccfihnfaa
open Go.RowKit
open Go.SeqMath
open Go.BatMath hiding AllB getD_lt take_all
open Go.VarMath (longB length_longB textB beB length_beB)
open Go.CrcMath (sealB)
set_option linter.unusedVariables false

set_option maxRecDepth 100000 in
set_option maxHeartbeats 1000000 in
theorem batBytes_any (w : World) (b : Bat) (ad : Option Addr) (len cap : Nat) (hr : RecsAt w ad len cap b.recs) (ht : TextsOk b.recs) (hL : len ≤ 140737488355328) (hp : b.prod ≤ 9223372036854775807) :
    Calls Try.prog 18 #[.agg #[.int .i64 b.base, .int .i64 b.prod, .int .i64 b.epoch, .int .i64 b.seq, .bool b.txn, .int .i64 b.marker, .slice ad len cap]] w (GivesBytes w (rightE b) (bytesB b)) := by
  have CP : Hid (∀ W, Below w.heap.size w W → Calls Try.prog 26 #[.agg #[.int .i64 b.base, .int .i64 b.prod, .int .i64 b.epoch, .int .i64 b.seq, .bool b.txn, .int .i64 b.marker, .slice ad len cap]] W (Says (rightE b) W)) := fun W hW => batRight_any W b ad len cap (hr.keep hW) ht hL
  have CB : Hid (rightE b = 0 → ∀ W, Below w.heap.size w W → Calls Try.prog 35 #[.agg #[.int .i64 b.base, .int .i64 b.prod, .int .i64 b.epoch, .int .i64 b.seq, .bool b.txn, .int .i64 b.marker, .slice ad len cap]] W (GivesRow W (bodyB b))) :=
    fun h W hW => body_any W b ad len cap (hr.keep hW) (ok_of h) hp
  have HY : Hid (rightE b = 0 → bytesB b = longB b.base ++ (beB 4 ((bodyB b).length + 4) ++ sealB (bodyB b)) ∧ (bytesB b).length = (bodyB b).length + 16 ∧ (bodyB b).length ≤ 2388 ∧ AllB (bodyB b) ∧ 0 ≤ b.base ∧ b.base ≤ 1099511627776) := by
    intro h
    have ho := ok_of h
    have h1 := ok_len ho
    have h2 := bytes_len b
    have h3 := body_len b
    refine ⟨?_, by omega, by omega, body_all ho, ho.base0, ho.base1⟩
    rw [← CrcMath.length_sealB]
    rfl
  obtain ⟨ev, hev⟩ : ∃ ev, ev = rightE b := ⟨_, rfl⟩
  rw [← hev] at CP CB HY ⊢
  obtain ⟨L, hLL⟩ : ∃ L, L = bytesB b := ⟨_, rfl⟩
  rw [← hLL] at HY ⊢
  obtain ⟨D, hD⟩ : ∃ D, D = bodyB b := ⟨_, rfl⟩
  rw [← hD] at HY CB
  clear hev hr ht hp hLL hL hD
  obtain ⟨base, prod, epoch, seq, txn, marker, recs⟩ := b
  simp only at CP CB HY ⊢
  obtain ⟨W0, hW0⟩ : ∃ W0, W0 = (w.alloc (.cells #[.int .i64 base, .int .i64 prod, .int .i64 epoch, .int .i64 seq, .bool txn, .int .i64 marker, .slice ad len cap] 24)) := ⟨_, rfl⟩
  have HX := Lib.hid (show BoxAt W0 w.heap.size base prod epoch seq txn marker (.slice ad len cap) by rw [hW0]; exact boxAt_new w _ _ _ _ _ _ _)
  have HB := Lib.hid (show Below w.heap.size w W0 by rw [hW0]; exact (Below.refl _ _).alloc (Nat.le_refl _) _)
  have HW0 := Lib.hid hW0
  clear hW0
  go_enter Try.func18, Try.ntmps18
  go_wp2_with fail
  rw [← HW0.out]
  refine (CP.out W0 HB.out).mono ?_
  rintro e w1 ⟨rfl, hb⟩
  have HX1 := Lib.hid (HX.out.on hb)
  have HB1 := Lib.hid (HB.out.trans (hb.mono HB.out.size))
  have HBT := Lib.hid hb
  clear hb
  by_cases h0 : ev = 0
  · have h1 : (ev != 0) = false := by simpa using h0
    have H0 := Lib.hid h0
    obtain ⟨hy1, hy2, hy3, hy4, hy5, hy6⟩ := HY.out h0
    clear h0 HY
    obtain ⟨n, hn⟩ : ∃ n, n = D.length := ⟨_, rfl⟩
    rw [← hn] at hy1 hy2 hy3
    have HN := Lib.hid hn
    have HY1 := Lib.hid hy1
    have HY2 := Lib.hid hy2
    have HYA := Lib.hid hy4
    clear hn hy1 hy2 hy4
    have hc0 := HX1.out.c0
    have hc1 := HX1.out.c1
    have hc2 := HX1.out.c2
    have hc3 := HX1.out.c3
    have hc4 := HX1.out.c4
    have hc5 := HX1.out.c5
    have hc6 := HX1.out.c6
    go_wp2_with fail
    refine (CB.out H0.out w1 HB1.out).mono ?_
    rintro e w2 hg
    obtain ⟨g2, k2, rfl, ho2, hb2, hbb2⟩ := gives_on hg HB1.out HN.out.symm
    clear hg hc0 hc1 hc2 hc3 hc4 hc5 hc6
    have HROW2 := Lib.hid (owns_row ho2.out HYA.out)
    go_wp2_with fail
    refine (crcPut_any w2 _ n k2 D HROW2.out.1 (by omega)).mono ?_
    rintro e w3 ⟨g3, rfl, hg3, ho3, hb3⟩
    obtain ⟨m, hm⟩ : ∃ m, m = n + 4 := ⟨_, rfl⟩
    rw [← hm]
    have hHN := HN.out
    have hy3 := ho3.byt (CrcMath.sealB_all HYA.out) m (by rw [CrcMath.length_sealB, ← hHN]; omega)
    rw [CrcMath.length_sealB, ← hHN, ← hm] at hy3
    have HY3 := Lib.hid hy3
    have HB3 : Hid (Below w.heap.size w w3) := hb2.out.trans (hb3.mono hb2.out.size)
    have HX3 := Lib.hid (HX.out.on (HBT.out.trans ((hbb2.out.trans (hb3.mono hbb2.out.size)).mono HBT.out.size)))
    have hm4 : m ≤ 2392 := by omega
    have HM : Hid (n + 4 = m) := hm.symm
    clear hm hHN hy3 ho3 hb3 hg3 hb2 hbb2 ho2 HROW2
    have hc0 := HX3.out.c0
    go_wp2_with fail
    refine (long_any w3 none 0 0 [] base ⟨Byt.nil w3, fun _ => rfl⟩ (by omega) (by omega) (by omega)).mono ?_
    rintro e w4 hg
    obtain ⟨g4, k4, rfl, ho4, hb4, hbb4⟩ := gives_on hg (Below.refl _ _) (n := 8) (by simp [length_longB])
    clear hg hc0 hbb4
    have HY4 := Lib.hid (HY3.out.keep hb4.out (Nat.le_refl _))
    have hwr : IntKind.u32.wrap (m : Int) = (m : Int) := by simp [IntKind.wrap, IntKind.bits, IntKind.signed]; omega
    go_wp2_with fail
    refine (split4_any _ m (by omega)).mono ?_
    rintro e w5 hg
    obtain ⟨g5, k5, rfl, ho5, hb5, hbb5⟩ := gives_on hg (Below.refl _ _) (n := 4) (length_beB 4 m)
    clear hg hbb5 hwr
    have HO5 := Lib.hid (owns_keep ho4.out hb5.out (Nat.le_refl _))
    have HB5 : Hid (Below w3.heap.size w3 w5) := hb4.out.trans (hb5.out.mono hb4.out.size)
    have HROW5 := Lib.hid (owns_row ho5.out (VarMath.beB_all 4 m))
    have HY5 := Lib.hid (HY4.out.keep hb5.out (Nat.le_refl _))
    clear ho4 hb4 ho5 hb5
    go_wp2_with (at_builtin; refine append_row rfl (.tmp 18) (.tmp 22) rfl w3.heap.size 8 ([] ++ longB base) (beB 4 m) _ rfl HO5.out (some_ne _ _ _) HB5.out.size _ _ _ rfl HROW5.out (by omega) w3 HB5.out ?_)
    intro g6 k6 w6 ho6 hb6
    have HO6 := Lib.hid ho6
    have HB6 := Lib.hid hb6
    have HY6 := Lib.hid (HY3.out.keep hb6 (Nat.le_refl _))
    clear ho6 hb6
    go_wp2_with (at_builtin; refine append_row rfl (.tmp 24) (.tmp 25) rfl w3.heap.size 12 (longB base ++ beB 4 m) (sealB D) _ rfl HO6.out (some_ne _ _ _) HB6.out.size _ _ _ rfl ⟨HY6.out, fun h => by cases h⟩ (by omega) w3 HB6.out ?_)
    intro g7 k7 w7 ho7 hb7
    have HFIN : Hid (longB base ++ beB 4 m ++ sealB D = L) := by
      show _ = _
      rw [HY1.out, HM.out]
      simp
    have hlen : L.length = 12 + m := by rw [HY2.out]; have := HM.out; omega
    have hfe : w7.ownsRow w3.heap.size 5 1 (.slice (some ⟨g7, 0, none⟩) (12 + m) k7) (12 + m) (vals L) := by
      rw [← HFIN.out]
      exact ho7
    have HO7 := Lib.hid (owns_low hfe HB3.out.size)
    have HB7 := Lib.hid (HB3.out.trans (hb7.mono HB3.out.size))
    have HLEN := Lib.hid hlen
    clear hfe ho7 hb7 hlen
    go_wp2
    go_ret2
    have h7 := HO7.out
    rw [← HLEN.out] at h7 ⊢
    exact gives_bytes H0.out h7 HB7.out
  · have h1 : (ev != 0) = true := by simpa using h0
    have H0 := Lib.hid h0
    clear h0
    go_wp2
    go_ret2
    exact gives_none H0.out HB1.out
end Go.Proofs.Ytlpmfhccfihnfaa

/-! The code's own batch, chapter 6: Same. -/
namespace Go.Proofs.Ytlpmfhccfihnfaa
open Go.RowKit
open Go.SeqMath
open Go.BatMath
set_option linter.unusedVariables false

set_option maxRecDepth 100000 in
set_option maxHeartbeats 2000000 in
theorem batSame_any (w : World) (x y : Bat) (ad1 ad2 : Option Addr) (n1 n2 c1 c2 : Nat) (h1 : RecsAt w ad1 n1 c1 x.recs) (h2 : RecsAt w ad2 n2 c2 y.recs) (hL : n1 ≤ 140737488355328) (r : Bool) (hr : r = true ↔ x = y) :
    Calls Try.prog 16 #[.agg #[.int .i64 x.base, .int .i64 x.prod, .int .i64 x.epoch, .int .i64 x.seq, .bool x.txn, .int .i64 x.marker, .slice ad1 n1 c1], .agg #[.int .i64 y.base, .int .i64 y.prod, .int .i64 y.epoch, .int .i64 y.seq, .bool y.txn, .int .i64 y.marker, .slice ad2 n2 c2]] w (SaysB r w) := by
  have HF : Hid (x ≠ y → false = r) := by
    intro h
    cases r
    · rfl
    · exact absurd (hr.1 rfl) h
  obtain ⟨a0, a1, a2, a3, a4, a5, l1⟩ := x
  obtain ⟨b0, b1, b2, b3, b4, b5, l2⟩ := y
  simp only at h1 h2 ⊢
  have q1 := h1.length
  have q2 := h2.length
  have H1 := Lib.hid h1
  have H2 := Lib.hid h2
  have HR := Lib.hid hr
  have Q1 := Lib.hid q1
  have Q2 := Lib.hid q2
  have HBB : ∀ {p q r s t u v p' q' r' s' t' u' v' : Value}, Hid (Below w.heap.size w ((w.alloc (.cells #[p, q, r, s, t, u, v] 24)).alloc (.cells #[p', q', r', s', t', u', v'] 24))) := ((Below.refl _ _).alloc (Nat.le_refl _) _).alloc (by simp) _
  clear h1 h2 hr q1 q2
  by_cases h0 : a0 = b0
  · subst h0
    by_cases h1 : a1 = b1
    · subst h1
      by_cases h2 : a2 = b2
      · subst h2
        by_cases h3 : a3 = b3
        · subst h3
          by_cases h4 : a4 = b4
          · subst h4
            by_cases h5 : a5 = b5
            · subst h5
              have hrr : Hid (r = true ↔ l1 = l2) := by
                show r = true ↔ l1 = l2
                rw [HR.out]
                exact ⟨fun h => by have := congrArg Bat.recs h; exact this, fun h => by rw [h]⟩
              by_cases hn : n1 = n2
              · subst hn
                obtain ⟨W0, hW0⟩ : ∃ W0, W0 = ((w.alloc (.cells #[.int .i64 a0, .int .i64 a1, .int .i64 a2, .int .i64 a3, .bool a4, .int .i64 a5, .slice ad1 n1 c1] 24)).alloc (.cells #[.int .i64 a0, .int .i64 a1, .int .i64 a2, .int .i64 a3, .bool a4, .int .i64 a5, .slice ad2 n1 c2] 24)) := ⟨_, rfl⟩
                have HB0 : Hid (Below w.heap.size w W0) := by show Below _ _ _; rw [hW0]; exact HBB.out
                have HX0 : Hid (BoxAt W0 (w.heap.size + 1) a0 a1 a2 a3 a4 a5 (.slice ad2 n1 c2)) := by
                  show BoxAt _ _ _ _ _ _ _ _ _
                  rw [hW0]
                  have := boxAt_new (w.alloc (.cells #[.int .i64 a0, .int .i64 a1, .int .i64 a2, .int .i64 a3, .bool a4, .int .i64 a5, .slice ad1 n1 c1] 24)) a0 a1 a2 a3 a4 a5 (.slice ad2 n1 c2)
                  simpa using this
                have HW0 := Lib.hid hW0
                clear hW0
                have K1 := Lib.hid (H1.out.keep HB0.out)
                have K2 := Lib.hid (H2.out.keep HB0.out)
                cases a4
                all_goals
                  go_enter Try.func16, Try.ntmps16
                  go_wp2_with fail
                  rw [← HW0.out]
                  go_loopw [57] (fun v57 wr => SameAt W0 l1 l2 v57 wr) (fun v57 _ => n1 - (intOf v57).toNat)
                  case atStart => exact ⟨0, Nat.zero_le _, rfl, rfl, Below.refl _ _⟩
                  case round =>
                    obtain ⟨j, hj, rfl, htk, hbel⟩ := hrel
                    have HBEL := Lib.hid hbel
                    have HTK := Lib.hid htk
                    rw [Q1.out] at hj
                    clear hbel htk
                    have HXR := Lib.hid (HX0.out.on HBEL.out)
                    by_cases hlt : j < n1
                    · obtain ⟨k1, o1, r1, rfl, hb1, hi1, hk1, hv1⟩ := K1.out.at HBEL.out j hlt
                      obtain ⟨k2, o2, r2, rfl, hb2, hi2, hk2, hv2⟩ := K2.out.at HBEL.out j hlt
                      have hc6 := HXR.out.c6
                      have hbl := HXR.out.lt
                      have hbs := HBEL.out.size
                      have hk2l : k2 < wr.heap.size := by omega
                      have HI1 := Lib.hid hi1
                      have HI2 := Lib.hid hi2
                      clear hi1 hi2
                      by_cases he : r1 = r2
                      · subst he
                        obtain ⟨ks1, vs1⟩ := r1
                        simp only at hk1 hv1 hk2 hv2
                        have HLE : Hid (j + 1 ≤ l1.length) := by show _ ≤ _; rw [Q1.out]; exact hlt
                        have HT2 := Lib.hid (take_same HTK.out HI1.out HI2.out)
                        go_wp2_with fail
                        go_quiet (fail)
                        go_wp2
                        go_roundw
                        case rel => exact ⟨j + 1, HLE.out, by go_num, HT2.out, bel_drewN (HBEL.out.alloc HBEL.out.size _) _⟩
                        case measure => simp [intOf]; omega
                      · have HE : Hid (r1 ≠ r2) := he
                        obtain ⟨ks1, vs1⟩ := r1
                        obtain ⟨ks2, vs2⟩ := r2
                        simp only at hk1 hv1 hk2 hv2
                        have hfin : Hid (false = r) := by
                          show false = r
                          cases r
                          · rfl
                          · have e := hrr.out.1 rfl
                            have a := HI1.out
                            rw [e, HI2.out] at a
                            exact absurd (Option.some.inj a).symm HE.out
                        by_cases hk : ks1 = ks2
                        · subst hk
                          have hv : vs1 ≠ vs2 := fun e => he (by rw [e])
                          have hvv := ba_ne hv
                          clear he hv
                          go_wp2_with fail
                          go_quiet (fail)
                          go_wp2
                          go_ret
                          exact saysB_mk hfin.out (HB0.out.trans ((bel_drewN (HBEL.out.alloc HBEL.out.size _) _).mono HB0.out.size))
                        · have hkk := ba_ne hk
                          clear he hk
                          go_wp2_with fail
                          go_quiet (fail)
                          go_wp2
                          go_ret
                          exact saysB_mk hfin.out (HB0.out.trans ((bel_drewN (HBEL.out.alloc HBEL.out.size _) _).mono HB0.out.size))
                    · obtain rfl : j = n1 := by omega
                      have hfin : Hid (true = r) := by
                        show true = r
                        have := HTK.out
                        rw [List.take_of_length_le (by rw [Q1.out]; exact Nat.le_refl _), List.take_of_length_le (by rw [Q2.out]; exact Nat.le_refl _)] at this
                        exact (hrr.out.2 this).symm
                      go_wp2
                      go_ret
                      exact saysB_mk hfin.out (HB0.out.trans (HBEL.out.mono HB0.out.size))
              · have hn1 : ((n1 : Int) != (n2 : Int)) = true := by simp; omega
                have hfin : Hid (false = r) := by
                  show false = r
                  cases r
                  · rfl
                  · have e := hrr.out.1 rfl
                    exact absurd (by rw [← Q1.out, ← Q2.out, e]) hn
                cases a4
                all_goals
                  go_enter Try.func16, Try.ntmps16
                  go_wp2
                  go_ret
                  exact saysB_mk hfin.out HBB.out
            · have e5 : (a5 != b5) = true := by simpa using h5
              have hfin : Hid (false = r) := HF.out (fun h => h5 (by have := congrArg Bat.marker h; exact this))
              clear h5
              cases a4
              all_goals
                go_enter Try.func16, Try.ntmps16
                go_wp2
                go_ret
                exact saysB_mk hfin.out HBB.out
          · have hfin : Hid (false = r) := HF.out (fun h => h4 (by have := congrArg Bat.txn h; exact this))
            cases a4
            · cases b4
              · exact absurd rfl h4
              · go_enter Try.func16, Try.ntmps16
                go_wp2
                go_ret
                exact saysB_mk hfin.out HBB.out
            · cases b4
              · go_enter Try.func16, Try.ntmps16
                go_wp2
                go_ret
                exact saysB_mk hfin.out HBB.out
              · exact absurd rfl h4
        · have e3 : (a3 != b3) = true := by simpa using h3
          have hfin : Hid (false = r) := HF.out (fun h => h3 (by have := congrArg Bat.seq h; exact this))
          clear h3
          go_enter Try.func16, Try.ntmps16
          go_wp2
          go_ret
          exact saysB_mk hfin.out HBB.out
      · have e2 : (a2 != b2) = true := by simpa using h2
        have hfin : Hid (false = r) := HF.out (fun h => h2 (by have := congrArg Bat.epoch h; exact this))
        clear h2
        go_enter Try.func16, Try.ntmps16
        go_wp2
        go_ret
        exact saysB_mk hfin.out HBB.out
    · have e1 : (a1 != b1) = true := by simpa using h1
      have hfin : Hid (false = r) := HF.out (fun h => h1 (by have := congrArg Bat.prod h; exact this))
      clear h1
      go_enter Try.func16, Try.ntmps16
      go_wp2
      go_ret
      exact saysB_mk hfin.out HBB.out
  · have e0 : (a0 != b0) = true := by simpa using h0
    have hfin : Hid (false = r) := HF.out (fun h => h0 (by have := congrArg Bat.base h; exact this))
    clear h0
    go_enter Try.func16, Try.ntmps16
    go_wp2
    go_ret
    exact saysB_mk hfin.out HBB.out
end Go.Proofs.Ytlpmfhccfihnfaa
