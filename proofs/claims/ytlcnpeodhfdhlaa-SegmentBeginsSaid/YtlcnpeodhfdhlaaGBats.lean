/- Batches in memory: records in a slice, two cells each; the document's own 'head', 'Seq', 'plain' of chapter 6. The document's own 'plain' of chapter 6. The document's own 'plain' of chapter 6: data. -/
import Derived.Test.YtlcnpeodhfdhlaaRows
import Derived.Test.YtlcnpeodhfdhlaaGPlain
import Derived.WalkKit
import Derived.IntWalk
import Derived.Lib.Hide
import Derived.BigFrame
import Derived.BigQuiet
import Derived.Deep.QuietTactic
import Derived.Outline
import Derived.Deep.Cut
import Derived.Deep.CutRange
/-! Batches in memory: records in a slice, two cells each; the document's own 'head', 'Seq', 'plain' of chapter 6. -/
namespace Go.Proofs.Ytlcnpeodhfdhlaa
open Go.RowKit
open Go.SeqMath
open Go.BatMath
set_option linter.unusedVariables false

/-- A slice of records reads as l. -/
structure RecsAt (w : World) (ad : Option Addr) (len cap : Nat) (l : List Rc) : Prop where
  length : l.length = len
  fits : len ≤ cap
  room : ad = none → cap = 0
  cells : len = 0 ∨ ∃ b off, ad = some ⟨b, off, none⟩ ∧ b < w.heap.size ∧ ∀ i r, l[i]? = some r → w.cell? ⟨b, off + i * 2, none⟩ = some (.string r.key) ∧ w.cell? ⟨b, off + i * 2 + 1, none⟩ = some (.string r.val)
theorem RecsAt.keep {w w' : World} {ad : Option Addr} {len cap : Nat} {l : List Rc} (h : RecsAt w ad len cap l) (hb : Below w.heap.size w w') : RecsAt w' ad len cap l := by
  refine ⟨h.length, h.fits, h.room, ?_⟩
  rcases h.cells with h0 | ⟨b, off, e, hlt, hc⟩
  · exact .inl h0
  · refine .inr ⟨b, off, e, Nat.lt_of_lt_of_le hlt hb.size, fun i r hi => ?_⟩
    obtain ⟨h1, h2⟩ := hc i r hi
    exact ⟨(hb.cell (p := ⟨b, _, none⟩) hlt).trans h1, (hb.cell (p := ⟨b, _, none⟩) hlt).trans h2⟩
theorem recsAt_nil (w : World) : RecsAt w none 0 0 [] := ⟨rfl, Nat.le_refl _, fun _ => rfl, .inl rfl⟩
theorem refSeq_any (n : Int) (w : World) (r : Bool) (hr : rightB n = r) :
    Calls Try.prog 72 #[.int .i64 n] w fun e w' => e = .returned (.bool r) ∧ w = w' := by
  subst hr
  by_cases h0 : 0 ≤ n
  · by_cases h1 : n ≤ 2147483647
    · rw [right_yes h0 h1]
      go_enter Try.func72, Try.ntmps72
      go_wp2
      go_ret
      exact ⟨rfl, rfl⟩
    · have h1' : 2147483647 < n := by omega
      rw [right_no (.inr h1')]
      go_enter Try.func72, Try.ntmps72
      go_wp2
      go_ret
      exact ⟨rfl, rfl⟩
  · have h0' : n < 0 := by omega
    rw [right_no (.inl h0')]
    go_enter Try.func72, Try.ntmps72
    go_wp2
    go_ret
    exact ⟨rfl, rfl⟩
theorem refHead_any (w : World) (b0 b1 b2 b3 : Int) (b4 : Bool) (b5 : Int) (ad : Option Addr) (len cap : Nat) (r : Bool) (hr : (decide (0 ≤ b1) && (decide (0 ≤ b2) && decide (b2 ≤ 32767))) = r) :
    Calls Try.prog 71 #[.agg #[.int .i64 b0, .int .i64 b1, .int .i64 b2, .int .i64 b3, .bool b4, .int .i64 b5, .slice ad len cap]] w fun e w' => e = .returned (.bool r) ∧ Below w.heap.size w w' := by
  by_cases h0 : 0 ≤ b1
  · by_cases h1 : 0 ≤ b2
    · by_cases h2 : b2 ≤ 32767
      · obtain rfl : r = true := by rw [← hr]; simp [h0, h1, h2]
        clear hr
        go_enter Try.func71, Try.ntmps71
        go_wp2
        go_ret
        exact ⟨rfl, (Below.refl _ _).alloc (Nat.le_refl _) _⟩
      · obtain rfl : r = false := by rw [← hr]; simp [h2]
        have h2' : 32767 < b2 := by omega
        clear hr
        go_enter Try.func71, Try.ntmps71
        go_wp2
        go_ret
        exact ⟨rfl, (Below.refl _ _).alloc (Nat.le_refl _) _⟩
    · obtain rfl : r = false := by rw [← hr]; simp [h1]
      have h1' : b2 < 0 := by omega
      clear hr
      go_enter Try.func71, Try.ntmps71
      go_wp2
      go_ret
      exact ⟨rfl, (Below.refl _ _).alloc (Nat.le_refl _) _⟩
  · obtain rfl : r = false := by rw [← hr]; simp [h0]
    have h0' : b1 < 0 := by omega
    clear hr
    go_enter Try.func71, Try.ntmps71
    go_wp2
    go_ret
    exact ⟨rfl, (Below.refl _ _).alloc (Nat.le_refl _) _⟩
/-- A block that is one batch, field by field. -/
def BoxAt (w : World) (k : Nat) (b0 b1 b2 b3 : Int) (b4 : Bool) (b5 : Int) (v : Value) : Prop := w.heap[k]? = some (.cells #[.int .i64 b0, .int .i64 b1, .int .i64 b2, .int .i64 b3, .bool b4, .int .i64 b5, v] 51 (0, 0))
section
variable {w : World} {k : Nat} {b0 b1 b2 b3 : Int} {b4 : Bool} {b5 : Int} {v : Value}
theorem BoxAt.c0 (h : BoxAt w k b0 b1 b2 b3 b4 b5 v) : w.cell? ⟨k, 0, none⟩ = some (.int .i64 b0) := by rw [cell_of_row _ _ 0 _ _ _ h]; rfl
theorem BoxAt.c1 (h : BoxAt w k b0 b1 b2 b3 b4 b5 v) : w.cell? ⟨k, 1, none⟩ = some (.int .i64 b1) := by rw [cell_of_row _ _ 1 _ _ _ h]; rfl
theorem BoxAt.c2 (h : BoxAt w k b0 b1 b2 b3 b4 b5 v) : w.cell? ⟨k, 2, none⟩ = some (.int .i64 b2) := by rw [cell_of_row _ _ 2 _ _ _ h]; rfl
theorem BoxAt.c3 (h : BoxAt w k b0 b1 b2 b3 b4 b5 v) : w.cell? ⟨k, 3, none⟩ = some (.int .i64 b3) := by rw [cell_of_row _ _ 3 _ _ _ h]; rfl
theorem BoxAt.c4 (h : BoxAt w k b0 b1 b2 b3 b4 b5 v) : w.cell? ⟨k, 4, none⟩ = some (.bool b4) := by rw [cell_of_row _ _ 4 _ _ _ h]; rfl
theorem BoxAt.c5 (h : BoxAt w k b0 b1 b2 b3 b4 b5 v) : w.cell? ⟨k, 5, none⟩ = some (.int .i64 b5) := by rw [cell_of_row _ _ 5 _ _ _ h]; rfl
theorem BoxAt.c6 (h : BoxAt w k b0 b1 b2 b3 b4 b5 v) : w.cell? ⟨k, 6, none⟩ = some v := by rw [cell_of_row _ _ 6 _ _ _ h]; rfl
theorem BoxAt.free (h : BoxAt w k b0 b1 b2 b3 b4 b5 v) (j : Nat) : w.frozen? ⟨k, j, none⟩ = false := frozen_of_row w k j _ _ h
theorem BoxAt.lt (h : BoxAt w k b0 b1 b2 b3 b4 b5 v) : k < w.heap.size := lt_of_block h
theorem BoxAt.keep {w' : World} {B : Nat} (h : BoxAt w k b0 b1 b2 b3 b4 b5 v) (hb : Below B w w') (hk : k < B) : BoxAt w' k b0 b1 b2 b3 b4 b5 v := by
  unfold BoxAt at *
  rw [hb.block k hk]
  exact h
theorem BoxAt.on {w' : World} (h : BoxAt w k b0 b1 b2 b3 b4 b5 v) (hb : Below w.heap.size w w') : BoxAt w' k b0 b1 b2 b3 b4 b5 v := h.keep hb h.lt
theorem boxAt_new (w : World) (b0 b1 b2 b3 : Int) (b4 : Bool) (b5 : Int) (v : Value) : BoxAt (w.alloc (.cells #[.int .i64 b0, .int .i64 b1, .int .i64 b2, .int .i64 b3, .bool b4, .int .i64 b5, v] 51)) w.heap.size b0 b1 b2 b3 b4 b5 v := heap_alloc_new w _
end
end Go.Proofs.Ytlcnpeodhfdhlaa

/-! The document's own 'plain' of chapter 6. -/
namespace Go.Proofs.Ytlcnpeodhfdhlaa
open Go.RowKit
open Go.SeqMath
open Go.BatMath
set_option linter.unusedVariables false

theorem bcell {W w1 : World} (hb : Below W.heap.size W w1) : (∀ b o, b < W.heap.size → w1.cell? ⟨b, o, none⟩ = W.cell? ⟨b, o, none⟩) ∧ (∀ b o, b < W.heap.size → w1.frozen? ⟨b, o, none⟩ = W.frozen? ⟨b, o, none⟩) :=
  ⟨fun b o h => hb.cell (p := ⟨b, o, none⟩) h, fun b o h => hb.frozen (p := ⟨b, o, none⟩) h⟩
/- rightE, shape by shape -/
theorem e_low {b : Bat} (h : b.base < 0) : rightE b = 18 := by unfold rightE; rw [if_pos (.inl h)]
theorem e_high {b : Bat} (h : 1099511627776 < b.base) : rightE b = 18 := by unfold rightE; rw [if_pos (.inr h)]
theorem e_mark {b : Bat} (h0 : 0 ≤ b.base) (h1 : b.base ≤ 1099511627776) (hm : b.marker ≠ 0) : rightE b = if (b.marker = 1 ∨ b.marker = 2) ∧ headB b = true ∧ b.seq = -1 ∧ b.txn = true ∧ b.recs = [] then 0 else 12 := by
  unfold rightE; rw [if_neg (by omega), if_pos hm]
theorem e_data {b : Bat} (h0 : 0 ≤ b.base) (h1 : b.base ≤ 1099511627776) (hm : b.marker = 0) (h : ¬ ((noneB b = true ∨ headB b = true ∧ rightB b.seq = true) ∧ b.recs ≠ [])) : rightE b = 12 := by
  unfold rightE; rw [if_neg (by omega), if_neg (by omega), if_neg h]
theorem e_long {b : Bat} (h0 : 0 ≤ b.base) (h1 : b.base ≤ 1099511627776) (hm : b.marker = 0) (h : (noneB b = true ∨ headB b = true ∧ rightB b.seq = true) ∧ b.recs ≠ []) (hl : 16 < b.recs.length ∨ ∃ r ∈ b.recs, longRec r) : rightE b = 13 := by
  unfold rightE; rw [if_neg (by omega), if_neg (by omega), if_pos h, if_pos hl]
theorem e_fine {b : Bat} (h0 : 0 ≤ b.base) (h1 : b.base ≤ 1099511627776) (hm : b.marker = 0) (h : (noneB b = true ∨ headB b = true ∧ rightB b.seq = true) ∧ b.recs ≠ []) (hl : ¬ (16 < b.recs.length ∨ ∃ r ∈ b.recs, longRec r)) : rightE b = 0 := by
  unfold rightE; rw [if_neg (by omega), if_neg (by omega), if_pos h, if_neg hl]
def Says (n : Int) (w : World) (e : Ending) (w' : World) : Prop := e = .returned (.int .i64 n) ∧ Below w.heap.size w w'
theorem says_mk {n m : Int} {w w' : World} (h : m = n) (hb : Below w.heap.size w w') : Says n w (.returned (.int .i64 m)) w' := ⟨by rw [h], hb⟩
set_option maxRecDepth 100000 in
set_option maxHeartbeats 1000000 in
/-- Markers. -/
theorem plain_mark (w : World) (b : Bat) (ad : Option Addr) (cap : Nat) (hr : RecsAt w ad b.recs.length cap b.recs) (h0 : 0 ≤ b.base) (h1 : b.base ≤ 1099511627776) (hm : b.marker ≠ 0) :
    Calls Try.prog 54 #[.agg #[.int .i64 b.base, .int .i64 b.prod, .int .i64 b.epoch, .int .i64 b.seq, .bool b.txn, .int .i64 b.marker, .slice ad b.recs.length cap]] w (Says (rightE b) w) := by
  have he := e_mark h0 h1 hm
  have he0 : (b.marker = 1 ∨ b.marker = 2) ∧ headB b = true ∧ b.seq = -1 ∧ b.txn = true ∧ b.recs.length = 0 → rightE b = 0 := by
    rintro ⟨q1, q2, q3, q4, q5⟩
    rw [he, if_pos ⟨q1, q2, q3, q4, List.eq_nil_of_length_eq_zero q5⟩]
  have he1 : ¬ ((b.marker = 1 ∨ b.marker = 2) ∧ headB b = true ∧ b.seq = -1 ∧ b.txn = true ∧ b.recs.length = 0) → rightE b = 12 := by
    intro q
    rw [he, if_neg]
    rintro ⟨q1, q2, q3, q4, q5⟩
    exact q ⟨q1, q2, q3, q4, by rw [q5]; rfl⟩
  obtain ⟨ev, hev⟩ : ∃ ev, ev = rightE b := ⟨_, rfl⟩
  rw [← hev] at he0 he1 ⊢
  have hh : headB b = (decide (0 ≤ b.prod) && (decide (0 ≤ b.epoch) && decide (b.epoch ≤ 32767))) := rfl
  obtain ⟨hd, hdd⟩ : ∃ hd, hd = headB b := ⟨_, rfl⟩
  rw [← hdd] at he0 he1 hh
  clear he hev hdd
  obtain ⟨base, prod, epoch, seq, txn, marker, recs⟩ := b
  simp only at h0 h1 hm he0 he1 hh hr ⊢
  obtain ⟨len, hlen⟩ : ∃ len, len = recs.length := ⟨_, rfl⟩
  rw [← hlen] at he0 he1 hr ⊢
  have HH := Lib.hid hh.symm
  have HE0 := Lib.hid he0
  have HE1 := Lib.hid he1
  have HR := Lib.hid hr
  have hm0 : (marker == 0) = false := by simpa using hm
  have hm0' : (marker != 0) = true := by simpa using hm
  clear hh he0 he1 hr hlen
  by_cases hm12 : marker = 1 ∨ marker = 2
  · cases hd
    · rcases hm12 with rfl | rfl
      all_goals
        go_enter Try.func54, Try.ntmps54
        go_wp2_with (go_at_call 71; refine (refHead_any _ _ _ _ _ _ _ _ _ _ false HH.out).mono ?_; rintro e w1 ⟨rfl, hb⟩; obtain ⟨hc, hf⟩ := bcell hb; have HB := Lib.hid hb; clear hb)
        go_ret
        exact says_mk ((HE1.out (by simp)).symm) (((Below.refl _ _).alloc (Nat.le_refl _) _).trans (HB.out.mono (by simp)))
    · by_cases hs : seq = -1
      · subst hs
        cases txn
        · rcases hm12 with rfl | rfl
          all_goals
            go_enter Try.func54, Try.ntmps54
            go_wp2_with (go_at_call 71; refine (refHead_any _ _ _ _ _ _ _ _ _ _ true HH.out).mono ?_; rintro e w1 ⟨rfl, hb⟩; obtain ⟨hc, hf⟩ := bcell hb; have HB := Lib.hid hb; clear hb)
            go_ret
            exact says_mk ((HE1.out (by simp)).symm) (((Below.refl _ _).alloc (Nat.le_refl _) _).trans (HB.out.mono (by simp)))
        · by_cases hl : len = 0
          · subst hl
            rcases hm12 with rfl | rfl
            all_goals
              go_enter Try.func54, Try.ntmps54
              go_wp2_with (go_at_call 71; refine (refHead_any _ _ _ _ _ _ _ _ _ _ true HH.out).mono ?_; rintro e w1 ⟨rfl, hb⟩; obtain ⟨hc, hf⟩ := bcell hb; have HB := Lib.hid hb; clear hb)
              go_ret
              exact says_mk ((HE0.out (by simp)).symm) (((Below.refl _ _).alloc (Nat.le_refl _) _).trans (HB.out.mono (by simp)))
          · have hl' : 0 < len := by omega
            rcases hm12 with rfl | rfl
            all_goals
              go_enter Try.func54, Try.ntmps54
              go_wp2_with (go_at_call 71; refine (refHead_any _ _ _ _ _ _ _ _ _ _ true HH.out).mono ?_; rintro e w1 ⟨rfl, hb⟩; obtain ⟨hc, hf⟩ := bcell hb; have HB := Lib.hid hb; clear hb)
              go_ret
              exact says_mk ((HE1.out (by simp; omega)).symm) (((Below.refl _ _).alloc (Nat.le_refl _) _).trans (HB.out.mono (by simp)))
      · have hs1 : (seq == -1) = false := by simpa using hs
        have hs2 : (seq != -1) = true := by simpa using hs
        rcases hm12 with rfl | rfl
        all_goals
          go_enter Try.func54, Try.ntmps54
          go_wp2_with (go_at_call 71; refine (refHead_any _ _ _ _ _ _ _ _ _ _ true HH.out).mono ?_; rintro e w1 ⟨rfl, hb⟩; obtain ⟨hc, hf⟩ := bcell hb; have HB := Lib.hid hb; clear hb)
          go_ret
          exact says_mk ((HE1.out (by simp [hs])).symm) (((Below.refl _ _).alloc (Nat.le_refl _) _).trans (HB.out.mono (by simp)))
  · have hm1 : (marker != 1) = true := by simp; omega
    have hm2 : (marker != 2) = true := by simp; omega
    go_enter Try.func54, Try.ntmps54
    go_wp2
    go_ret
    exact says_mk ((HE1.out fun h => hm12 h.1).symm) ((Below.refl _ _).alloc (Nat.le_refl _) _)
end Go.Proofs.Ytlcnpeodhfdhlaa

/-! The document's own 'plain' of chapter 6: data. -/
namespace Go.Proofs.Ytlcnpeodhfdhlaa
open Go.RowKit
open Go.SeqMath
open Go.BatMath
set_option linter.unusedVariables false

def TextsOk (l : List Rc) : Prop := ∀ r ∈ l, r.key.size ≤ 140737488355328 ∧ r.val.size ≤ 140737488355328
/-- What stands before round j of the loop over the records. -/
def PlainAt (w : World) (l : List Rc) (v : Value) (wr : World) : Prop := ∃ j : Nat, j ≤ l.length ∧ v = .int .i64 j ∧ (∀ i r, i < j → l[i]? = some r → ¬ longRec r) ∧ Below w.heap.size w wr
theorem plainAt_start (w W : World) (l : List Rc) (h : Below w.heap.size w W) : PlainAt w l (.int .i64 0) W := ⟨0, Nat.zero_le _, rfl, fun i r hi => by omega, h⟩
theorem not_long {l : List Rc} (h : ∀ i r, i < l.length → l[i]? = some r → ¬ longRec r) : ¬ ∃ r ∈ l, longRec r := by
  rintro ⟨r, hr, hl⟩
  obtain ⟨i, hi, rfl⟩ := List.getElem_of_mem hr
  exact h i _ hi (List.getElem?_eq_getElem hi) hl
theorem none_no {b : Bat} (h : noneB b = false) : b.prod ≠ -1 ∨ b.epoch ≠ -1 ∨ b.seq ≠ -1 ∨ b.txn = true := by
  by_cases h1 : b.prod = -1
  · by_cases h2 : b.epoch = -1
    · by_cases h3 : b.seq = -1
      · cases h4 : b.txn
        · simp [noneB, h1, h2, h3, h4] at h
        · exact .inr (.inr (.inr rfl))
      · exact .inr (.inr (.inl h3))
    · exact .inr (.inl h2)
  · exact .inl h1
set_option maxRecDepth 100000 in
set_option maxHeartbeats 2000000 in
theorem plain_data (w : World) (b : Bat) (ad : Option Addr) (cap : Nat) (hr : RecsAt w ad b.recs.length cap b.recs) (ht : TextsOk b.recs) (h0 : 0 ≤ b.base) (h1 : b.base ≤ 1099511627776) (hm : b.marker = 0) (hL : b.recs.length ≤ 140737488355328) :
    Calls Try.prog 54 #[.agg #[.int .i64 b.base, .int .i64 b.prod, .int .i64 b.epoch, .int .i64 b.seq, .bool b.txn, .int .i64 b.marker, .slice ad b.recs.length cap]] w (Says (rightE b) w) := by
  have hne : (b.recs ≠ []) = (0 < b.recs.length) := propext List.length_pos_iff.symm
  have e12 := e_data h0 h1 hm
  have e13 := e_long h0 h1 hm
  have e0 := e_fine h0 h1 hm
  rw [hne] at e12 e13 e0
  obtain ⟨ev, hev⟩ : ∃ ev, ev = rightE b := ⟨_, rfl⟩
  rw [← hev] at e12 e13 e0 ⊢
  have hh : (decide (0 ≤ b.prod) && (decide (0 ≤ b.epoch) && decide (b.epoch ≤ 32767))) = headB b := rfl
  have hnn : noneB b = true → b.prod = -1 ∧ b.epoch = -1 ∧ b.seq = -1 ∧ b.txn = false := none_of
  have hnf : noneB b = false → b.prod ≠ -1 ∨ b.epoch ≠ -1 ∨ b.seq ≠ -1 ∨ b.txn = true := none_no
  obtain ⟨hd, hdd⟩ : ∃ hd, hd = headB b := ⟨_, rfl⟩
  obtain ⟨nn, hnd⟩ : ∃ nn, nn = noneB b := ⟨_, rfl⟩
  rw [← hdd] at e12 e13 e0 hh
  rw [← hnd] at e12 e13 e0 hnn hnf
  clear hev hdd hnd hne
  obtain ⟨base, prod, epoch, seq, txn, marker, recs⟩ := b
  simp only at h0 h1 hm e12 e13 e0 hh hr ht hL hnn hnf ⊢
  obtain ⟨rt, hrt⟩ : ∃ rt, rightB seq = rt := ⟨_, rfl⟩
  rw [hrt] at e12 e13 e0
  obtain ⟨len, hlen⟩ : ∃ len, len = recs.length := ⟨_, rfl⟩
  rw [← hlen] at e12 e13 e0 hr hL ⊢
  have HH := Lib.hid hh
  have HRT := Lib.hid hrt
  have HN := Lib.hid hnn
  have HF := Lib.hid hnf
  have E12 := Lib.hid e12
  have E13 := Lib.hid e13
  have E0 := Lib.hid e0
  have HR := Lib.hid hr
  have HT := Lib.hid ht
  have HLEN := Lib.hid hlen
  clear hh hrt hnn hnf e12 e13 e0 hr ht hlen
  subst hm
  go_enter Try.func54, Try.ntmps54
  go_upto_region 7 with fail
  go_cut [3] from 6 (fun s3 wx => s3 = .bool nn ∧ Hid (BoxAt wx w.heap.size base prod epoch seq txn 0 (.slice ad len cap)) ∧ Hid (Below w.heap.size w wx))
  case first =>
    cases h1 : (prod == -1)
    · obtain rfl : nn = false := by
        cases nn
        · rfl
        · have := (HN.out rfl).1; subst this; cases h1
      go_wp2
      go_meet
      case rel => exact ⟨rfl, boxAt_new w _ _ _ _ _ _ _, (Below.refl _ _).alloc (Nat.le_refl _) _⟩
    · cases h2 : (epoch == -1)
      · obtain rfl : nn = false := by
          cases nn
          · rfl
          · have := (HN.out rfl).2.1; subst this; cases h2
        go_wp2
        go_meet
        case rel => exact ⟨rfl, boxAt_new w _ _ _ _ _ _ _, (Below.refl _ _).alloc (Nat.le_refl _) _⟩
      · cases h3 : (seq == -1)
        · obtain rfl : nn = false := by
            cases nn
            · rfl
            · have := (HN.out rfl).2.2.1; subst this; cases h3
          go_wp2
          go_meet
          case rel => exact ⟨rfl, boxAt_new w _ _ _ _ _ _ _, (Below.refl _ _).alloc (Nat.le_refl _) _⟩
        · cases txn
          · obtain rfl : nn = true := by
              cases nn
              · rcases HF.out rfl with h | h | h | h
                · exact absurd (by simpa using h1) h
                · exact absurd (by simpa using h2) h
                · exact absurd (by simpa using h3) h
                · cases h
              · rfl
            go_wp2
            go_meet
            case rel => exact ⟨rfl, boxAt_new w _ _ _ _ _ _ _, (Below.refl _ _).alloc (Nat.le_refl _) _⟩
          · obtain rfl : nn = false := by
              cases nn
              · rfl
              · have := (HN.out rfl).2.2.2; cases this
            go_wp2
            go_meet
            case rel => exact ⟨rfl, boxAt_new w _ _ _ _ _ _ _, (Below.refl _ _).alloc (Nat.le_refl _) _⟩
  case rest =>
    obtain ⟨rfl, HBX, HBW⟩ := hcut
    have hblt := HBX.out.lt
    have hc0 := HBX.out.c0
    have hc1 := HBX.out.c1
    have hc2 := HBX.out.c2
    have hc3 := HBX.out.c3
    have hc4 := HBX.out.c4
    have hc5 := HBX.out.c5
    have hc6 := HBX.out.c6
    go_upto_region 8 with fail
    go_cut [82] from 64 (fun s82 wx => s82 = .bool (!((nn || (hd && rt)) && decide (0 < len))) ∧ Hid (BoxAt wx w.heap.size base prod epoch seq txn 0 (.slice ad len cap)) ∧ Hid (Below w.heap.size w wx))
    case first =>
      cases nn
      · cases hd
        · go_wp2_with (go_at_call 71; refine (refHead_any _ _ _ _ _ _ _ _ _ _ false HH.out).mono ?_; rintro e w1 ⟨rfl, hb⟩; obtain ⟨hc, hf⟩ := bcell hb; have HB := Lib.hid hb; clear hb)
          go_meet
          case rel => exact ⟨by simp, HBX.out.on HB.out, HBW.out.trans (HB.out.mono HBW.out.size)⟩
        · cases rt
          · go_wp2_with (first | (go_at_call 71; refine (refHead_any _ _ _ _ _ _ _ _ _ _ true HH.out).mono ?_; rintro e w1 ⟨rfl, hb⟩; obtain ⟨hc, hf⟩ := bcell hb; have HB := Lib.hid hb; clear hb) | (go_at_call 72; refine (refSeq_any _ _ false HRT.out).mono ?_; rintro e w' ⟨rfl, rfl⟩))
            go_meet
            case rel => exact ⟨by simp, HBX.out.on HB.out, HBW.out.trans (HB.out.mono HBW.out.size)⟩
          · by_cases hl : 0 < len
            · have hz : ((len : Int) == 0) = false := by simp; omega
              have hz2 : decide (0 < len) = true := by simp [hl]
              have HZ2 := Lib.hid hz2
              clear hz2
              go_wp2_with (first | (go_at_call 71; refine (refHead_any _ _ _ _ _ _ _ _ _ _ true HH.out).mono ?_; rintro e w1 ⟨rfl, hb⟩; obtain ⟨hc, hf⟩ := bcell hb; have HB := Lib.hid hb; clear hb) | (go_at_call 72; refine (refSeq_any _ _ true HRT.out).mono ?_; rintro e w' ⟨rfl, rfl⟩))
              go_meet
              case rel => exact ⟨by rw [HZ2.out]; simp, HBX.out.on HB.out, HBW.out.trans (HB.out.mono HBW.out.size)⟩
            · obtain rfl : len = 0 := by omega
              clear hl
              go_wp2_with (first | (go_at_call 71; refine (refHead_any _ _ _ _ _ _ _ _ _ _ true HH.out).mono ?_; rintro e w1 ⟨rfl, hb⟩; obtain ⟨hc, hf⟩ := bcell hb; have HB := Lib.hid hb; clear hb) | (go_at_call 72; refine (refSeq_any _ _ true HRT.out).mono ?_; rintro e w' ⟨rfl, rfl⟩))
              go_meet
              case rel => exact ⟨by simp, HBX.out.on HB.out, HBW.out.trans (HB.out.mono HBW.out.size)⟩
      · by_cases hl : 0 < len
        · have hz : ((len : Int) == 0) = false := by simp; omega
          have hz2 : decide (0 < len) = true := by simp [hl]
          have HZ2 := Lib.hid hz2
          clear hz2
          go_wp2
          go_meet
          case rel => exact ⟨by rw [HZ2.out]; simp, HBX, HBW⟩
        · obtain rfl : len = 0 := by omega
          clear hl
          go_wp2
          go_meet
          case rel => exact ⟨by simp, HBX, HBW⟩
    case rest =>
      clear hc0 hc1 hc2 hc3 hc4 hc5 hc6
      obtain ⟨rfl, HBX2, HBW2⟩ := hcut
      obtain ⟨cnd, hcn⟩ : ∃ cnd, cnd = ((nn || (hd && rt)) && decide (0 < len)) := ⟨_, rfl⟩
      rw [← hcn]
      cases cnd
      · have HC := Lib.hid hcn.symm
        clear hcn
        go_wp2
        go_ret
        refine says_mk (E12.out ?_).symm HBW2.out
        rintro ⟨q1, q2⟩
        have hx := HC.out
        rcases q1 with q1 | ⟨q1, q3⟩
        · rw [q1] at hx; simp at hx; omega
        · rw [q1, q3] at hx; simp at hx; omega
      · have hcn2 : (nn = true ∨ hd = true ∧ rt = true) ∧ 0 < len := by simpa using hcn.symm
        have HC := Lib.hid hcn2
        have hlen := hcn2.2
        clear hcn hcn2
        have hc6 := HBX2.out.c6
        by_cases h16 : 16 < len
        · go_wp2
          go_ret
          exact says_mk (E13.out HC.out (.inl h16)).symm HBW2.out
        · have h16' : len ≤ 16 := by omega
          go_wp2_with fail
          go_loopw [90] (fun v90 wr => PlainAt w recs v90 wr) (fun v90 _ => len - (intOf v90).toNat)
          case atStart => exact plainAt_start w _ recs HBW2.out
          case round =>
            obtain ⟨j, hj, rfl, hno, hbel⟩ := hrel
            have HNO := Lib.hid hno
            have HBEL := Lib.hid hbel
            rw [← HLEN.out] at hj
            clear hno hbel
            by_cases hlt : j < len
            · obtain ⟨r, hrj⟩ : ∃ r, recs[j]? = some r := by
                have hjl : j < recs.length := by rw [← HLEN.out]; exact hlt
                exact ⟨_, List.getElem?_eq_getElem hjl⟩
              obtain ⟨bk, off, rfl, hbk, hcell⟩ : ∃ bk off, ad = some ⟨bk, off, none⟩ ∧ bk < w.heap.size ∧ ∀ i r, recs[i]? = some r → wr.cell? ⟨bk, off + i * 2, none⟩ = some (.string r.key) ∧ wr.cell? ⟨bk, off + i * 2 + 1, none⟩ = some (.string r.val) := by
                rcases HR.out.cells with h | ⟨bk, off, e, hlt, hc⟩
                · omega
                · exact ⟨bk, off, e, hlt, fun i r hi => ⟨(HBEL.out.cell (p := ⟨bk, _, none⟩) hlt).trans (hc i r hi).1, (HBEL.out.cell (p := ⟨bk, _, none⟩) hlt).trans (hc i r hi).2⟩⟩
              obtain ⟨hk, hv⟩ := hcell j r hrj
              obtain ⟨hs1, hs2⟩ := HT.out r (List.mem_of_getElem? hrj)
              obtain ⟨ks, vs⟩ := r
              simp only at hk hv hs1 hs2
              have HRJ := Lib.hid hrj
              have HMEM : Hid ((⟨ks, vs⟩ : Rc) ∈ recs) := List.mem_of_getElem? hrj
              clear hcell hrj
              by_cases hk64 : 64 < ks.size
              · go_wp2
                go_ret
                exact says_mk (E13.out HC.out (.inr ⟨⟨ks, vs⟩, HMEM.out, .inl hk64⟩)).symm (HBEL.out.alloc HBEL.out.size _)
              · have hk64' : ks.size ≤ 64 := by omega
                by_cases hv64 : 64 < vs.size
                · go_wp2
                  go_ret
                  exact says_mk (E13.out HC.out (.inr ⟨⟨ks, vs⟩, HMEM.out, .inr hv64⟩)).symm (HBEL.out.alloc HBEL.out.size _)
                · have hv64' : vs.size ≤ 64 := by omega
                  have HNO2 : Hid (∀ i r, i < j + 1 → recs[i]? = some r → ¬ longRec r) := by
                    intro i r hi hir
                    by_cases e : i = j
                    · subst e
                      rw [HRJ.out] at hir
                      cases hir
                      rintro (h | h)
                      · exact hk64 h
                      · exact hv64 h
                    · exact HNO.out i r (by omega) hir
                  have HLE : Hid (j + 1 ≤ recs.length) := by show _ ≤ _; rw [← HLEN.out]; exact hlt
                  go_wp2
                  go_roundw
                  case rel => (repeat apply Exists.intro); exact ⟨⟨j + 1, HLE.out, by go_num, HNO2.out, HBEL.out.alloc HBEL.out.size _⟩, rfl⟩
                  case measure => simp [intOf]; omega
            · obtain rfl : j = len := by omega
              go_wp2
              go_ret
              refine says_mk (E0.out HC.out ?_).symm HBEL.out
              rintro (h | h)
              · omega
              · exact not_long (by rw [← HLEN.out]; exact HNO.out) h
/-- Any batch whose texts are such. -/
theorem plain_any (w : World) (b : Bat) (ad : Option Addr) (cap : Nat) (hr : RecsAt w ad b.recs.length cap b.recs) (ht : TextsOk b.recs) (hL : b.recs.length ≤ 140737488355328) :
    Calls Try.prog 54 #[.agg #[.int .i64 b.base, .int .i64 b.prod, .int .i64 b.epoch, .int .i64 b.seq, .bool b.txn, .int .i64 b.marker, .slice ad b.recs.length cap]] w (Says (rightE b) w) := by
  by_cases h0 : b.base < 0
  · rw [e_low h0]
    go_enter Try.func54, Try.ntmps54
    go_wp2
    go_ret
    exact says_mk rfl ((Below.refl _ _).alloc (Nat.le_refl _) _)
  · have h0' : 0 ≤ b.base := by omega
    by_cases h1 : 1099511627776 < b.base
    · rw [e_high h1]
      go_enter Try.func54, Try.ntmps54
      go_wp2
      go_ret
      exact says_mk rfl ((Below.refl _ _).alloc (Nat.le_refl _) _)
    · by_cases hm : b.marker = 0
      · have e : (.int .i64 b.marker : Value) = .int .i64 b.marker := rfl
        exact plain_data w b ad cap hr ht h0' (by omega) hm hL
      · exact plain_mark w b ad cap hr h0' (by omega) hm
end Go.Proofs.Ytlcnpeodhfdhlaa
