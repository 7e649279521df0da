/- The document's own 'plain' of chapter 6. -/
import Derived.Test.YtlpmfhccfihnfaaBats
namespace Go.Proofs.Ytlpmfhccfihnfaa
open Go.RowKit
open Go.SeqMath
open Go.BatMath
set_option linter.unusedVariables false

theorem bcell {W w1 : World} (hb : Below W.heap.size W w1) : (∀ b o, b < W.heap.size → w1.cell? ⟨b, o, none⟩ = W.cell? ⟨b, o, none⟩) ∧ (∀ b o, b < W.heap.size → w1.frozen? ⟨b, o, none⟩ = W.frozen? ⟨b, o, none⟩) :=
  ⟨fun b o h => hb.cell (p := ⟨b, o, none⟩) h, fun b o h => hb.frozen (p := ⟨b, o, none⟩) h⟩
/- rightE, shape by shape -/
theorem e_low {b : Bat} (h : b.base < 0) : rightE b = 18 := by unfold rightE; rw [if_pos (.inl h)]
theorem e_high {b : Bat} (h : 1099511627776 < b.base) : rightE b = 18 := by unfold rightE; rw [if_pos (.inr h)]
theorem e_mark {b : Bat} (h0 : 0 ≤ b.base) (h1 : b.base ≤ 1099511627776) (hm : b.marker ≠ 0) : rightE b = if (b.marker = 1 ∨ b.marker = 2) ∧ headB b = true ∧ b.seq = -1 ∧ b.txn = true ∧ b.recs = [] then 0 else 12 := by
  unfold rightE; rw [if_neg (by omega), if_pos hm]
theorem e_data {b : Bat} (h0 : 0 ≤ b.base) (h1 : b.base ≤ 1099511627776) (hm : b.marker = 0) (h : ¬ ((noneB b = true ∨ headB b = true ∧ rightB b.seq = true) ∧ b.recs ≠ [])) : rightE b = 12 := by
  unfold rightE; rw [if_neg (by omega), if_neg (by omega), if_neg h]
theorem e_long {b : Bat} (h0 : 0 ≤ b.base) (h1 : b.base ≤ 1099511627776) (hm : b.marker = 0) (h : (noneB b = true ∨ headB b = true ∧ rightB b.seq = true) ∧ b.recs ≠ []) (hl : 16 < b.recs.length ∨ ∃ r ∈ b.recs, longRec r) : rightE b = 13 := by
  unfold rightE; rw [if_neg (by omega), if_neg (by omega), if_pos h, if_pos hl]
theorem e_fine {b : Bat} (h0 : 0 ≤ b.base) (h1 : b.base ≤ 1099511627776) (hm : b.marker = 0) (h : (noneB b = true ∨ headB b = true ∧ rightB b.seq = true) ∧ b.recs ≠ []) (hl : ¬ (16 < b.recs.length ∨ ∃ r ∈ b.recs, longRec r)) : rightE b = 0 := by
  unfold rightE; rw [if_neg (by omega), if_neg (by omega), if_pos h, if_neg hl]
def Says (n : Int) (w : World) (e : Ending) (w' : World) : Prop := e = .returned (.int .i64 n) ∧ Below w.heap.size w w'
theorem says_mk {n m : Int} {w w' : World} (h : m = n) (hb : Below w.heap.size w w') : Says n w (.returned (.int .i64 m)) w' := ⟨by rw [h], hb⟩
set_option maxRecDepth 100000 in
set_option maxHeartbeats 1000000 in
/-- Markers. -/
theorem plain_mark (w : World) (b : Bat) (ad : Option Addr) (cap : Nat) (hr : RecsAt w ad b.recs.length cap b.recs) (h0 : 0 ≤ b.base) (h1 : b.base ≤ 1099511627776) (hm : b.marker ≠ 0) :
    Calls Try.prog 48 #[.agg #[.int .i64 b.base, .int .i64 b.prod, .int .i64 b.epoch, .int .i64 b.seq, .bool b.txn, .int .i64 b.marker, .slice ad b.recs.length cap]] w (Says (rightE b) w) := by
  have he := e_mark h0 h1 hm
  have he0 : (b.marker = 1 ∨ b.marker = 2) ∧ headB b = true ∧ b.seq = -1 ∧ b.txn = true ∧ b.recs.length = 0 → rightE b = 0 := by
    rintro ⟨q1, q2, q3, q4, q5⟩
    rw [he, if_pos ⟨q1, q2, q3, q4, List.eq_nil_of_length_eq_zero q5⟩]
  have he1 : ¬ ((b.marker = 1 ∨ b.marker = 2) ∧ headB b = true ∧ b.seq = -1 ∧ b.txn = true ∧ b.recs.length = 0) → rightE b = 12 := by
    intro q
    rw [he, if_neg]
    rintro ⟨q1, q2, q3, q4, q5⟩
    exact q ⟨q1, q2, q3, q4, by rw [q5]; rfl⟩
  obtain ⟨ev, hev⟩ : ∃ ev, ev = rightE b := ⟨_, rfl⟩
  rw [← hev] at he0 he1 ⊢
  have hh : headB b = (decide (0 ≤ b.prod) && (decide (0 ≤ b.epoch) && decide (b.epoch ≤ 32767))) := rfl
  obtain ⟨hd, hdd⟩ : ∃ hd, hd = headB b := ⟨_, rfl⟩
  rw [← hdd] at he0 he1 hh
  clear he hev hdd
  obtain ⟨base, prod, epoch, seq, txn, marker, recs⟩ := b
  simp only at h0 h1 hm he0 he1 hh hr ⊢
  obtain ⟨len, hlen⟩ : ∃ len, len = recs.length := ⟨_, rfl⟩
  rw [← hlen] at he0 he1 hr ⊢
  have HH := Lib.hid hh.symm
  have HE0 := Lib.hid he0
  have HE1 := Lib.hid he1
  have HR := Lib.hid hr
  have hm0 : (marker == 0) = false := by simpa using hm
  have hm0' : (marker != 0) = true := by simpa using hm
  clear hh he0 he1 hr hlen
  by_cases hm12 : marker = 1 ∨ marker = 2
  · cases hd
    · rcases hm12 with rfl | rfl
      all_goals
        go_enter Try.func48, Try.ntmps48
        go_wp2_with (go_at_call 68; refine (refHead_any _ _ _ _ _ _ _ _ _ _ false HH.out).mono ?_; rintro e w1 ⟨rfl, hb⟩; obtain ⟨hc, hf⟩ := bcell hb; have HB := Lib.hid hb; clear hb)
        go_ret
        exact says_mk ((HE1.out (by simp)).symm) (((Below.refl _ _).alloc (Nat.le_refl _) _).trans (HB.out.mono (by simp)))
    · by_cases hs : seq = -1
      · subst hs
        cases txn
        · rcases hm12 with rfl | rfl
          all_goals
            go_enter Try.func48, Try.ntmps48
            go_wp2_with (go_at_call 68; refine (refHead_any _ _ _ _ _ _ _ _ _ _ true HH.out).mono ?_; rintro e w1 ⟨rfl, hb⟩; obtain ⟨hc, hf⟩ := bcell hb; have HB := Lib.hid hb; clear hb)
            go_ret
            exact says_mk ((HE1.out (by simp)).symm) (((Below.refl _ _).alloc (Nat.le_refl _) _).trans (HB.out.mono (by simp)))
        · by_cases hl : len = 0
          · subst hl
            rcases hm12 with rfl | rfl
            all_goals
              go_enter Try.func48, Try.ntmps48
              go_wp2_with (go_at_call 68; refine (refHead_any _ _ _ _ _ _ _ _ _ _ true HH.out).mono ?_; rintro e w1 ⟨rfl, hb⟩; obtain ⟨hc, hf⟩ := bcell hb; have HB := Lib.hid hb; clear hb)
              go_ret
              exact says_mk ((HE0.out (by simp)).symm) (((Below.refl _ _).alloc (Nat.le_refl _) _).trans (HB.out.mono (by simp)))
          · have hl' : 0 < len := by omega
            rcases hm12 with rfl | rfl
            all_goals
              go_enter Try.func48, Try.ntmps48
              go_wp2_with (go_at_call 68; refine (refHead_any _ _ _ _ _ _ _ _ _ _ true HH.out).mono ?_; rintro e w1 ⟨rfl, hb⟩; obtain ⟨hc, hf⟩ := bcell hb; have HB := Lib.hid hb; clear hb)
              go_ret
              exact says_mk ((HE1.out (by simp; omega)).symm) (((Below.refl _ _).alloc (Nat.le_refl _) _).trans (HB.out.mono (by simp)))
      · have hs1 : (seq == -1) = false := by simpa using hs
        have hs2 : (seq != -1) = true := by simpa using hs
        rcases hm12 with rfl | rfl
        all_goals
          go_enter Try.func48, Try.ntmps48
          go_wp2_with (go_at_call 68; refine (refHead_any _ _ _ _ _ _ _ _ _ _ true HH.out).mono ?_; rintro e w1 ⟨rfl, hb⟩; obtain ⟨hc, hf⟩ := bcell hb; have HB := Lib.hid hb; clear hb)
          go_ret
          exact says_mk ((HE1.out (by simp [hs])).symm) (((Below.refl _ _).alloc (Nat.le_refl _) _).trans (HB.out.mono (by simp)))
  · have hm1 : (marker != 1) = true := by simp; omega
    have hm2 : (marker != 2) = true := by simp; omega
    go_enter Try.func48, Try.ntmps48
    go_wp2
    go_ret
    exact says_mk ((HE1.out fun h => hm12 h.1).symm) ((Below.refl _ _).alloc (Nat.le_refl _) _)
end Go.Proofs.Ytlpmfhccfihnfaa
