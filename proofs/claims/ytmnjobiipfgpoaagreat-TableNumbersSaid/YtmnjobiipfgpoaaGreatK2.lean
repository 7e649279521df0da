/- Parts of a proof, merged: Bats, BatPlain, BatPlain2, VarBase, VarSmall, VarRoomy, VarPut, VarScan, VarGet, VarRefPut, VarBack, VarRefGet, VarCut, VarLong, Keep, Keep2, VarUse, BatBits, BatRecs, Kinds, BatSame. -/
import Derived.Test.YtmnjobiipfgpoaaGreatRows
import Derived.WalkKit
import Derived.IntWalk
import Derived.Lib.Hide
import Derived.BigFrame
import Derived.BigQuiet
import Derived.Deep.QuietTactic
import Derived.Outline
import Derived.Deep.Cut
import Derived.Deep.CutRange
import Derived.Lib.AppendStr
import Derived.Deep.RegionWith
import Derived.Below
import Derived.Deep.RegionHeld3
import Derived.OwnWalk
import Derived.Test.YtmnjobiipfgpoaaGreatK1
namespace Go.Proofs.YtmnjobiipfgpoaaGreat
open Go.RowKit
open Go.SeqMath
open Go.BatMath
set_option linter.unusedVariables false

/-- A slice of records reads as l. -/
structure RecsAt (w : World) (ad : Option Addr) (len cap : Nat) (l : List Rc) : Prop where
  length : l.length = len
  fits : len ≤ cap
  room : ad = none → cap = 0
  cells : len = 0 ∨ ∃ b off, ad = some ⟨b, off, none⟩ ∧ b < w.heap.size ∧ ∀ i r, l[i]? = some r → w.cell? ⟨b, off + i * 2, none⟩ = some (.string r.key) ∧ w.cell? ⟨b, off + i * 2 + 1, none⟩ = some (.string r.val)
theorem RecsAt.keep {w w' : World} {ad : Option Addr} {len cap : Nat} {l : List Rc} (h : RecsAt w ad len cap l) (hb : Below w.heap.size w w') : RecsAt w' ad len cap l := by
  refine ⟨h.length, h.fits, h.room, ?_⟩
  rcases h.cells with h0 | ⟨b, off, e, hlt, hc⟩
  · exact .inl h0
  · refine .inr ⟨b, off, e, Nat.lt_of_lt_of_le hlt hb.size, fun i r hi => ?_⟩
    obtain ⟨h1, h2⟩ := hc i r hi
    exact ⟨(hb.cell (p := ⟨b, _, none⟩) hlt).trans h1, (hb.cell (p := ⟨b, _, none⟩) hlt).trans h2⟩
theorem recsAt_nil (w : World) : RecsAt w none 0 0 [] := ⟨rfl, Nat.le_refl _, fun _ => rfl, .inl rfl⟩
theorem refSeq_any (n : Int) (w : World) (r : Bool) (hr : rightB n = r) :
    Calls Tryz.prog 83 #[.int .i64 n] w fun e w' => e = .returned (.bool r) ∧ w = w' := by
  subst hr
  by_cases h0 : 0 ≤ n
  · by_cases h1 : n ≤ 2147483647
    · rw [right_yes h0 h1]
      go_enter Tryz.func83, Tryz.ntmps83
      go_wp2
      go_ret
      exact ⟨rfl, rfl⟩
    · have h1' : 2147483647 < n := by omega
      rw [right_no (.inr h1')]
      go_enter Tryz.func83, Tryz.ntmps83
      go_wp2
      go_ret
      exact ⟨rfl, rfl⟩
  · have h0' : n < 0 := by omega
    rw [right_no (.inl h0')]
    go_enter Tryz.func83, Tryz.ntmps83
    go_wp2
    go_ret
    exact ⟨rfl, rfl⟩
theorem refHead_any (w : World) (b0 b1 b2 b3 : Int) (b4 : Bool) (b5 : Int) (ad : Option Addr) (len cap : Nat) (r : Bool) (hr : (decide (0 ≤ b1) && (decide (0 ≤ b2) && decide (b2 ≤ 32767))) = r) :
    Calls Tryz.prog 82 #[.agg #[.int .i64 b0, .int .i64 b1, .int .i64 b2, .int .i64 b3, .bool b4, .int .i64 b5, .slice ad len cap]] w fun e w' => e = .returned (.bool r) ∧ Below w.heap.size w w' := by
  by_cases h0 : 0 ≤ b1
  · by_cases h1 : 0 ≤ b2
    · by_cases h2 : b2 ≤ 32767
      · obtain rfl : r = true := by rw [← hr]; simp [h0, h1, h2]
        clear hr
        go_enter Tryz.func82, Tryz.ntmps82
        go_wp2
        go_ret
        exact ⟨rfl, (Below.refl _ _).alloc (Nat.le_refl _) _⟩
      · obtain rfl : r = false := by rw [← hr]; simp [h2]
        have h2' : 32767 < b2 := by omega
        clear hr
        go_enter Tryz.func82, Tryz.ntmps82
        go_wp2
        go_ret
        exact ⟨rfl, (Below.refl _ _).alloc (Nat.le_refl _) _⟩
    · obtain rfl : r = false := by rw [← hr]; simp [h1]
      have h1' : b2 < 0 := by omega
      clear hr
      go_enter Tryz.func82, Tryz.ntmps82
      go_wp2
      go_ret
      exact ⟨rfl, (Below.refl _ _).alloc (Nat.le_refl _) _⟩
  · obtain rfl : r = false := by rw [← hr]; simp [h0]
    have h0' : b1 < 0 := by omega
    clear hr
    go_enter Tryz.func82, Tryz.ntmps82
    go_wp2
    go_ret
    exact ⟨rfl, (Below.refl _ _).alloc (Nat.le_refl _) _⟩
/-- A block that is one batch, field by field. -/
def BoxAt (w : World) (k : Nat) (b0 b1 b2 b3 : Int) (b4 : Bool) (b5 : Int) (v : Value) : Prop := w.heap[k]? = some (.cells #[.int .i64 b0, .int .i64 b1, .int .i64 b2, .int .i64 b3, .bool b4, .int .i64 b5, v] 30 (0, 0))
section
variable {w : World} {k : Nat} {b0 b1 b2 b3 : Int} {b4 : Bool} {b5 : Int} {v : Value}
theorem BoxAt.c0 (h : BoxAt w k b0 b1 b2 b3 b4 b5 v) : w.cell? ⟨k, 0, none⟩ = some (.int .i64 b0) := by rw [cell_of_row _ _ 0 _ _ _ h]; rfl
theorem BoxAt.c1 (h : BoxAt w k b0 b1 b2 b3 b4 b5 v) : w.cell? ⟨k, 1, none⟩ = some (.int .i64 b1) := by rw [cell_of_row _ _ 1 _ _ _ h]; rfl
theorem BoxAt.c2 (h : BoxAt w k b0 b1 b2 b3 b4 b5 v) : w.cell? ⟨k, 2, none⟩ = some (.int .i64 b2) := by rw [cell_of_row _ _ 2 _ _ _ h]; rfl
theorem BoxAt.c3 (h : BoxAt w k b0 b1 b2 b3 b4 b5 v) : w.cell? ⟨k, 3, none⟩ = some (.int .i64 b3) := by rw [cell_of_row _ _ 3 _ _ _ h]; rfl
theorem BoxAt.c4 (h : BoxAt w k b0 b1 b2 b3 b4 b5 v) : w.cell? ⟨k, 4, none⟩ = some (.bool b4) := by rw [cell_of_row _ _ 4 _ _ _ h]; rfl
theorem BoxAt.c5 (h : BoxAt w k b0 b1 b2 b3 b4 b5 v) : w.cell? ⟨k, 5, none⟩ = some (.int .i64 b5) := by rw [cell_of_row _ _ 5 _ _ _ h]; rfl
theorem BoxAt.c6 (h : BoxAt w k b0 b1 b2 b3 b4 b5 v) : w.cell? ⟨k, 6, none⟩ = some v := by rw [cell_of_row _ _ 6 _ _ _ h]; rfl
theorem BoxAt.free (h : BoxAt w k b0 b1 b2 b3 b4 b5 v) (j : Nat) : w.frozen? ⟨k, j, none⟩ = false := frozen_of_row w k j _ _ h
theorem BoxAt.lt (h : BoxAt w k b0 b1 b2 b3 b4 b5 v) : k < w.heap.size := lt_of_block h
theorem BoxAt.keep {w' : World} {B : Nat} (h : BoxAt w k b0 b1 b2 b3 b4 b5 v) (hb : Below B w w') (hk : k < B) : BoxAt w' k b0 b1 b2 b3 b4 b5 v := by
  unfold BoxAt at *
  rw [hb.block k hk]
  exact h
theorem BoxAt.on {w' : World} (h : BoxAt w k b0 b1 b2 b3 b4 b5 v) (hb : Below w.heap.size w w') : BoxAt w' k b0 b1 b2 b3 b4 b5 v := h.keep hb h.lt
theorem boxAt_new (w : World) (b0 b1 b2 b3 : Int) (b4 : Bool) (b5 : Int) (v : Value) : BoxAt (w.alloc (.cells #[.int .i64 b0, .int .i64 b1, .int .i64 b2, .int .i64 b3, .bool b4, .int .i64 b5, v] 30)) w.heap.size b0 b1 b2 b3 b4 b5 v := heap_alloc_new w _
end
end Go.Proofs.YtmnjobiipfgpoaaGreat
namespace Go.Proofs.YtmnjobiipfgpoaaGreat
open Go.RowKit
open Go.SeqMath
open Go.BatMath
set_option linter.unusedVariables false

theorem bcell {W w1 : World} (hb : Below W.heap.size W w1) : (∀ b o, b < W.heap.size → w1.cell? ⟨b, o, none⟩ = W.cell? ⟨b, o, none⟩) ∧ (∀ b o, b < W.heap.size → w1.frozen? ⟨b, o, none⟩ = W.frozen? ⟨b, o, none⟩) :=
  ⟨fun b o h => hb.cell (p := ⟨b, o, none⟩) h, fun b o h => hb.frozen (p := ⟨b, o, none⟩) h⟩
/- rightE, shape by shape -/
theorem e_low {b : Bat} (h : b.base < 0) : rightE b = 18 := by unfold rightE; rw [if_pos (.inl h)]
theorem e_high {b : Bat} (h : 1099511627776 < b.base) : rightE b = 18 := by unfold rightE; rw [if_pos (.inr h)]
theorem e_mark {b : Bat} (h0 : 0 ≤ b.base) (h1 : b.base ≤ 1099511627776) (hm : b.marker ≠ 0) : rightE b = if (b.marker = 1 ∨ b.marker = 2) ∧ headB b = true ∧ b.seq = -1 ∧ b.txn = true ∧ b.recs = [] then 0 else 12 := by
  unfold rightE; rw [if_neg (by omega), if_pos hm]
theorem e_data {b : Bat} (h0 : 0 ≤ b.base) (h1 : b.base ≤ 1099511627776) (hm : b.marker = 0) (h : ¬ ((noneB b = true ∨ headB b = true ∧ rightB b.seq = true) ∧ b.recs ≠ [])) : rightE b = 12 := by
  unfold rightE; rw [if_neg (by omega), if_neg (by omega), if_neg h]
theorem e_long {b : Bat} (h0 : 0 ≤ b.base) (h1 : b.base ≤ 1099511627776) (hm : b.marker = 0) (h : (noneB b = true ∨ headB b = true ∧ rightB b.seq = true) ∧ b.recs ≠ []) (hl : 16 < b.recs.length ∨ ∃ r ∈ b.recs, longRec r) : rightE b = 13 := by
  unfold rightE; rw [if_neg (by omega), if_neg (by omega), if_pos h, if_pos hl]
theorem e_fine {b : Bat} (h0 : 0 ≤ b.base) (h1 : b.base ≤ 1099511627776) (hm : b.marker = 0) (h : (noneB b = true ∨ headB b = true ∧ rightB b.seq = true) ∧ b.recs ≠ []) (hl : ¬ (16 < b.recs.length ∨ ∃ r ∈ b.recs, longRec r)) : rightE b = 0 := by
  unfold rightE; rw [if_neg (by omega), if_neg (by omega), if_pos h, if_neg hl]
def Says (n : Int) (w : World) (e : Ending) (w' : World) : Prop := e = .returned (.int .i64 n) ∧ Below w.heap.size w w'
theorem says_mk {n m : Int} {w w' : World} (h : m = n) (hb : Below w.heap.size w w') : Says n w (.returned (.int .i64 m)) w' := ⟨by rw [h], hb⟩
set_option maxRecDepth 100000 in
set_option maxHeartbeats 1000000 in
/-- Markers. -/
theorem plain_mark (w : World) (b : Bat) (ad : Option Addr) (cap : Nat) (hr : RecsAt w ad b.recs.length cap b.recs) (h0 : 0 ≤ b.base) (h1 : b.base ≤ 1099511627776) (hm : b.marker ≠ 0) :
    Calls Tryz.prog 58 #[.agg #[.int .i64 b.base, .int .i64 b.prod, .int .i64 b.epoch, .int .i64 b.seq, .bool b.txn, .int .i64 b.marker, .slice ad b.recs.length cap]] w (Says (rightE b) w) := by
  have he := e_mark h0 h1 hm
  have he0 : (b.marker = 1 ∨ b.marker = 2) ∧ headB b = true ∧ b.seq = -1 ∧ b.txn = true ∧ b.recs.length = 0 → rightE b = 0 := by
    rintro ⟨q1, q2, q3, q4, q5⟩
    rw [he, if_pos ⟨q1, q2, q3, q4, List.eq_nil_of_length_eq_zero q5⟩]
  have he1 : ¬ ((b.marker = 1 ∨ b.marker = 2) ∧ headB b = true ∧ b.seq = -1 ∧ b.txn = true ∧ b.recs.length = 0) → rightE b = 12 := by
    intro q
    rw [he, if_neg]
    rintro ⟨q1, q2, q3, q4, q5⟩
    exact q ⟨q1, q2, q3, q4, by rw [q5]; rfl⟩
  obtain ⟨ev, hev⟩ : ∃ ev, ev = rightE b := ⟨_, rfl⟩
  rw [← hev] at he0 he1 ⊢
  have hh : headB b = (decide (0 ≤ b.prod) && (decide (0 ≤ b.epoch) && decide (b.epoch ≤ 32767))) := rfl
  obtain ⟨hd, hdd⟩ : ∃ hd, hd = headB b := ⟨_, rfl⟩
  rw [← hdd] at he0 he1 hh
  clear he hev hdd
  obtain ⟨base, prod, epoch, seq, txn, marker, recs⟩ := b
  simp only at h0 h1 hm he0 he1 hh hr ⊢
  obtain ⟨len, hlen⟩ : ∃ len, len = recs.length := ⟨_, rfl⟩
  rw [← hlen] at he0 he1 hr ⊢
  have HH := Lib.hid hh.symm
  have HE0 := Lib.hid he0
  have HE1 := Lib.hid he1
  have HR := Lib.hid hr
  have hm0 : (marker == 0) = false := by simpa using hm
  have hm0' : (marker != 0) = true := by simpa using hm
  clear hh he0 he1 hr hlen
  by_cases hm12 : marker = 1 ∨ marker = 2
  · cases hd
    · rcases hm12 with rfl | rfl
      all_goals
        go_enter Tryz.func58, Tryz.ntmps58
        go_wp2_with (go_at_call 82; refine (refHead_any _ _ _ _ _ _ _ _ _ _ false HH.out).mono ?_; rintro e w1 ⟨rfl, hb⟩; obtain ⟨hc, hf⟩ := bcell hb; have HB := Lib.hid hb; clear hb)
        go_ret
        exact says_mk ((HE1.out (by simp)).symm) (((Below.refl _ _).alloc (Nat.le_refl _) _).trans (HB.out.mono (by simp)))
    · by_cases hs : seq = -1
      · subst hs
        cases txn
        · rcases hm12 with rfl | rfl
          all_goals
            go_enter Tryz.func58, Tryz.ntmps58
            go_wp2_with (go_at_call 82; refine (refHead_any _ _ _ _ _ _ _ _ _ _ true HH.out).mono ?_; rintro e w1 ⟨rfl, hb⟩; obtain ⟨hc, hf⟩ := bcell hb; have HB := Lib.hid hb; clear hb)
            go_ret
            exact says_mk ((HE1.out (by simp)).symm) (((Below.refl _ _).alloc (Nat.le_refl _) _).trans (HB.out.mono (by simp)))
        · by_cases hl : len = 0
          · subst hl
            rcases hm12 with rfl | rfl
            all_goals
              go_enter Tryz.func58, Tryz.ntmps58
              go_wp2_with (go_at_call 82; refine (refHead_any _ _ _ _ _ _ _ _ _ _ true HH.out).mono ?_; rintro e w1 ⟨rfl, hb⟩; obtain ⟨hc, hf⟩ := bcell hb; have HB := Lib.hid hb; clear hb)
              go_ret
              exact says_mk ((HE0.out (by simp)).symm) (((Below.refl _ _).alloc (Nat.le_refl _) _).trans (HB.out.mono (by simp)))
          · have hl' : 0 < len := by omega
            rcases hm12 with rfl | rfl
            all_goals
              go_enter Tryz.func58, Tryz.ntmps58
              go_wp2_with (go_at_call 82; refine (refHead_any _ _ _ _ _ _ _ _ _ _ true HH.out).mono ?_; rintro e w1 ⟨rfl, hb⟩; obtain ⟨hc, hf⟩ := bcell hb; have HB := Lib.hid hb; clear hb)
              go_ret
              exact says_mk ((HE1.out (by simp; omega)).symm) (((Below.refl _ _).alloc (Nat.le_refl _) _).trans (HB.out.mono (by simp)))
      · have hs1 : (seq == -1) = false := by simpa using hs
        have hs2 : (seq != -1) = true := by simpa using hs
        rcases hm12 with rfl | rfl
        all_goals
          go_enter Tryz.func58, Tryz.ntmps58
          go_wp2_with (go_at_call 82; refine (refHead_any _ _ _ _ _ _ _ _ _ _ true HH.out).mono ?_; rintro e w1 ⟨rfl, hb⟩; obtain ⟨hc, hf⟩ := bcell hb; have HB := Lib.hid hb; clear hb)
          go_ret
          exact says_mk ((HE1.out (by simp [hs])).symm) (((Below.refl _ _).alloc (Nat.le_refl _) _).trans (HB.out.mono (by simp)))
  · have hm1 : (marker != 1) = true := by simp; omega
    have hm2 : (marker != 2) = true := by simp; omega
    go_enter Tryz.func58, Tryz.ntmps58
    go_wp2
    go_ret
    exact says_mk ((HE1.out fun h => hm12 h.1).symm) ((Below.refl _ _).alloc (Nat.le_refl _) _)
end Go.Proofs.YtmnjobiipfgpoaaGreat
namespace Go.Proofs.YtmnjobiipfgpoaaGreat
open Go.RowKit
open Go.SeqMath
open Go.BatMath
set_option linter.unusedVariables false

def TextsOk (l : List Rc) : Prop := ∀ r ∈ l, r.key.size ≤ 140737488355328 ∧ r.val.size ≤ 140737488355328
/-- What stands before round j of the loop over the records. -/
def PlainAt (w : World) (l : List Rc) (v : Value) (wr : World) : Prop := ∃ j : Nat, j ≤ l.length ∧ v = .int .i64 j ∧ (∀ i r, i < j → l[i]? = some r → ¬ longRec r) ∧ Below w.heap.size w wr
theorem plainAt_start (w W : World) (l : List Rc) (h : Below w.heap.size w W) : PlainAt w l (.int .i64 0) W := ⟨0, Nat.zero_le _, rfl, fun i r hi => by omega, h⟩
theorem not_long {l : List Rc} (h : ∀ i r, i < l.length → l[i]? = some r → ¬ longRec r) : ¬ ∃ r ∈ l, longRec r := by
  rintro ⟨r, hr, hl⟩
  obtain ⟨i, hi, rfl⟩ := List.getElem_of_mem hr
  exact h i _ hi (List.getElem?_eq_getElem hi) hl
theorem none_no {b : Bat} (h : noneB b = false) : b.prod ≠ -1 ∨ b.epoch ≠ -1 ∨ b.seq ≠ -1 ∨ b.txn = true := by
  by_cases h1 : b.prod = -1
  · by_cases h2 : b.epoch = -1
    · by_cases h3 : b.seq = -1
      · cases h4 : b.txn
        · simp [noneB, h1, h2, h3, h4] at h
        · exact .inr (.inr (.inr rfl))
      · exact .inr (.inr (.inl h3))
    · exact .inr (.inl h2)
  · exact .inl h1
set_option maxRecDepth 100000 in
set_option maxHeartbeats 2000000 in
theorem plain_data (w : World) (b : Bat) (ad : Option Addr) (cap : Nat) (hr : RecsAt w ad b.recs.length cap b.recs) (ht : TextsOk b.recs) (h0 : 0 ≤ b.base) (h1 : b.base ≤ 1099511627776) (hm : b.marker = 0) (hL : b.recs.length ≤ 140737488355328) :
    Calls Tryz.prog 58 #[.agg #[.int .i64 b.base, .int .i64 b.prod, .int .i64 b.epoch, .int .i64 b.seq, .bool b.txn, .int .i64 b.marker, .slice ad b.recs.length cap]] w (Says (rightE b) w) := by
  have hne : (b.recs ≠ []) = (0 < b.recs.length) := propext List.length_pos_iff.symm
  have e12 := e_data h0 h1 hm
  have e13 := e_long h0 h1 hm
  have e0 := e_fine h0 h1 hm
  rw [hne] at e12 e13 e0
  obtain ⟨ev, hev⟩ : ∃ ev, ev = rightE b := ⟨_, rfl⟩
  rw [← hev] at e12 e13 e0 ⊢
  have hh : (decide (0 ≤ b.prod) && (decide (0 ≤ b.epoch) && decide (b.epoch ≤ 32767))) = headB b := rfl
  have hnn : noneB b = true → b.prod = -1 ∧ b.epoch = -1 ∧ b.seq = -1 ∧ b.txn = false := none_of
  have hnf : noneB b = false → b.prod ≠ -1 ∨ b.epoch ≠ -1 ∨ b.seq ≠ -1 ∨ b.txn = true := none_no
  obtain ⟨hd, hdd⟩ : ∃ hd, hd = headB b := ⟨_, rfl⟩
  obtain ⟨nn, hnd⟩ : ∃ nn, nn = noneB b := ⟨_, rfl⟩
  rw [← hdd] at e12 e13 e0 hh
  rw [← hnd] at e12 e13 e0 hnn hnf
  clear hev hdd hnd hne
  obtain ⟨base, prod, epoch, seq, txn, marker, recs⟩ := b
  simp only at h0 h1 hm e12 e13 e0 hh hr ht hL hnn hnf ⊢
  obtain ⟨rt, hrt⟩ : ∃ rt, rightB seq = rt := ⟨_, rfl⟩
  rw [hrt] at e12 e13 e0
  obtain ⟨len, hlen⟩ : ∃ len, len = recs.length := ⟨_, rfl⟩
  rw [← hlen] at e12 e13 e0 hr hL ⊢
  have HH := Lib.hid hh
  have HRT := Lib.hid hrt
  have HN := Lib.hid hnn
  have HF := Lib.hid hnf
  have E12 := Lib.hid e12
  have E13 := Lib.hid e13
  have E0 := Lib.hid e0
  have HR := Lib.hid hr
  have HT := Lib.hid ht
  have HLEN := Lib.hid hlen
  clear hh hrt hnn hnf e12 e13 e0 hr ht hlen
  subst hm
  go_enter Tryz.func58, Tryz.ntmps58
  go_upto_region 7 with fail
  go_cut [3] from 6 (fun s3 wx => s3 = .bool nn ∧ Hid (BoxAt wx w.heap.size base prod epoch seq txn 0 (.slice ad len cap)) ∧ Hid (Below w.heap.size w wx))
  case first =>
    cases h1 : (prod == -1)
    · obtain rfl : nn = false := by
        cases nn
        · rfl
        · have := (HN.out rfl).1; subst this; cases h1
      go_wp2
      go_meet
      case rel => exact ⟨rfl, boxAt_new w _ _ _ _ _ _ _, (Below.refl _ _).alloc (Nat.le_refl _) _⟩
    · cases h2 : (epoch == -1)
      · obtain rfl : nn = false := by
          cases nn
          · rfl
          · have := (HN.out rfl).2.1; subst this; cases h2
        go_wp2
        go_meet
        case rel => exact ⟨rfl, boxAt_new w _ _ _ _ _ _ _, (Below.refl _ _).alloc (Nat.le_refl _) _⟩
      · cases h3 : (seq == -1)
        · obtain rfl : nn = false := by
            cases nn
            · rfl
            · have := (HN.out rfl).2.2.1; subst this; cases h3
          go_wp2
          go_meet
          case rel => exact ⟨rfl, boxAt_new w _ _ _ _ _ _ _, (Below.refl _ _).alloc (Nat.le_refl _) _⟩
        · cases txn
          · obtain rfl : nn = true := by
              cases nn
              · rcases HF.out rfl with h | h | h | h
                · exact absurd (by simpa using h1) h
                · exact absurd (by simpa using h2) h
                · exact absurd (by simpa using h3) h
                · cases h
              · rfl
            go_wp2
            go_meet
            case rel => exact ⟨rfl, boxAt_new w _ _ _ _ _ _ _, (Below.refl _ _).alloc (Nat.le_refl _) _⟩
          · obtain rfl : nn = false := by
              cases nn
              · rfl
              · have := (HN.out rfl).2.2.2; cases this
            go_wp2
            go_meet
            case rel => exact ⟨rfl, boxAt_new w _ _ _ _ _ _ _, (Below.refl _ _).alloc (Nat.le_refl _) _⟩
  case rest =>
    obtain ⟨rfl, HBX, HBW⟩ := hcut
    have hblt := HBX.out.lt
    have hc0 := HBX.out.c0
    have hc1 := HBX.out.c1
    have hc2 := HBX.out.c2
    have hc3 := HBX.out.c3
    have hc4 := HBX.out.c4
    have hc5 := HBX.out.c5
    have hc6 := HBX.out.c6
    go_upto_region 8 with fail
    go_cut [82] from 64 (fun s82 wx => s82 = .bool (!((nn || (hd && rt)) && decide (0 < len))) ∧ Hid (BoxAt wx w.heap.size base prod epoch seq txn 0 (.slice ad len cap)) ∧ Hid (Below w.heap.size w wx))
    case first =>
      cases nn
      · cases hd
        · go_wp2_with (go_at_call 82; refine (refHead_any _ _ _ _ _ _ _ _ _ _ false HH.out).mono ?_; rintro e w1 ⟨rfl, hb⟩; obtain ⟨hc, hf⟩ := bcell hb; have HB := Lib.hid hb; clear hb)
          go_meet
          case rel => exact ⟨by simp, HBX.out.on HB.out, HBW.out.trans (HB.out.mono HBW.out.size)⟩
        · cases rt
          · go_wp2_with (first | (go_at_call 82; refine (refHead_any _ _ _ _ _ _ _ _ _ _ true HH.out).mono ?_; rintro e w1 ⟨rfl, hb⟩; obtain ⟨hc, hf⟩ := bcell hb; have HB := Lib.hid hb; clear hb) | (go_at_call 83; refine (refSeq_any _ _ false HRT.out).mono ?_; rintro e w' ⟨rfl, rfl⟩))
            go_meet
            case rel => exact ⟨by simp, HBX.out.on HB.out, HBW.out.trans (HB.out.mono HBW.out.size)⟩
          · by_cases hl : 0 < len
            · have hz : ((len : Int) == 0) = false := by simp; omega
              have hz2 : decide (0 < len) = true := by simp [hl]
              have HZ2 := Lib.hid hz2
              clear hz2
              go_wp2_with (first | (go_at_call 82; refine (refHead_any _ _ _ _ _ _ _ _ _ _ true HH.out).mono ?_; rintro e w1 ⟨rfl, hb⟩; obtain ⟨hc, hf⟩ := bcell hb; have HB := Lib.hid hb; clear hb) | (go_at_call 83; refine (refSeq_any _ _ true HRT.out).mono ?_; rintro e w' ⟨rfl, rfl⟩))
              go_meet
              case rel => exact ⟨by rw [HZ2.out]; simp, HBX.out.on HB.out, HBW.out.trans (HB.out.mono HBW.out.size)⟩
            · obtain rfl : len = 0 := by omega
              clear hl
              go_wp2_with (first | (go_at_call 82; refine (refHead_any _ _ _ _ _ _ _ _ _ _ true HH.out).mono ?_; rintro e w1 ⟨rfl, hb⟩; obtain ⟨hc, hf⟩ := bcell hb; have HB := Lib.hid hb; clear hb) | (go_at_call 83; refine (refSeq_any _ _ true HRT.out).mono ?_; rintro e w' ⟨rfl, rfl⟩))
              go_meet
              case rel => exact ⟨by simp, HBX.out.on HB.out, HBW.out.trans (HB.out.mono HBW.out.size)⟩
      · by_cases hl : 0 < len
        · have hz : ((len : Int) == 0) = false := by simp; omega
          have hz2 : decide (0 < len) = true := by simp [hl]
          have HZ2 := Lib.hid hz2
          clear hz2
          go_wp2
          go_meet
          case rel => exact ⟨by rw [HZ2.out]; simp, HBX, HBW⟩
        · obtain rfl : len = 0 := by omega
          clear hl
          go_wp2
          go_meet
          case rel => exact ⟨by simp, HBX, HBW⟩
    case rest =>
      clear hc0 hc1 hc2 hc3 hc4 hc5 hc6
      obtain ⟨rfl, HBX2, HBW2⟩ := hcut
      obtain ⟨cnd, hcn⟩ : ∃ cnd, cnd = ((nn || (hd && rt)) && decide (0 < len)) := ⟨_, rfl⟩
      rw [← hcn]
      cases cnd
      · have HC := Lib.hid hcn.symm
        clear hcn
        go_wp2
        go_ret
        refine says_mk (E12.out ?_).symm HBW2.out
        rintro ⟨q1, q2⟩
        have hx := HC.out
        rcases q1 with q1 | ⟨q1, q3⟩
        · rw [q1] at hx; simp at hx; omega
        · rw [q1, q3] at hx; simp at hx; omega
      · have hcn2 : (nn = true ∨ hd = true ∧ rt = true) ∧ 0 < len := by simpa using hcn.symm
        have HC := Lib.hid hcn2
        have hlen := hcn2.2
        clear hcn hcn2
        have hc6 := HBX2.out.c6
        by_cases h16 : 16 < len
        · go_wp2
          go_ret
          exact says_mk (E13.out HC.out (.inl h16)).symm HBW2.out
        · have h16' : len ≤ 16 := by omega
          go_wp2_with fail
          go_loopw [90] (fun v90 wr => PlainAt w recs v90 wr) (fun v90 _ => len - (intOf v90).toNat)
          case atStart => exact plainAt_start w _ recs HBW2.out
          case round =>
            obtain ⟨j, hj, rfl, hno, hbel⟩ := hrel
            have HNO := Lib.hid hno
            have HBEL := Lib.hid hbel
            rw [← HLEN.out] at hj
            clear hno hbel
            by_cases hlt : j < len
            · obtain ⟨r, hrj⟩ : ∃ r, recs[j]? = some r := by
                have hjl : j < recs.length := by rw [← HLEN.out]; exact hlt
                exact ⟨_, List.getElem?_eq_getElem hjl⟩
              obtain ⟨bk, off, rfl, hbk, hcell⟩ : ∃ bk off, ad = some ⟨bk, off, none⟩ ∧ bk < w.heap.size ∧ ∀ i r, recs[i]? = some r → wr.cell? ⟨bk, off + i * 2, none⟩ = some (.string r.key) ∧ wr.cell? ⟨bk, off + i * 2 + 1, none⟩ = some (.string r.val) := by
                rcases HR.out.cells with h | ⟨bk, off, e, hlt, hc⟩
                · omega
                · exact ⟨bk, off, e, hlt, fun i r hi => ⟨(HBEL.out.cell (p := ⟨bk, _, none⟩) hlt).trans (hc i r hi).1, (HBEL.out.cell (p := ⟨bk, _, none⟩) hlt).trans (hc i r hi).2⟩⟩
              obtain ⟨hk, hv⟩ := hcell j r hrj
              obtain ⟨hs1, hs2⟩ := HT.out r (List.mem_of_getElem? hrj)
              obtain ⟨ks, vs⟩ := r
              simp only at hk hv hs1 hs2
              have HRJ := Lib.hid hrj
              have HMEM : Hid ((⟨ks, vs⟩ : Rc) ∈ recs) := List.mem_of_getElem? hrj
              clear hcell hrj
              by_cases hk64 : 64 < ks.size
              · go_wp2
                go_ret
                exact says_mk (E13.out HC.out (.inr ⟨⟨ks, vs⟩, HMEM.out, .inl hk64⟩)).symm (HBEL.out.alloc HBEL.out.size _)
              · have hk64' : ks.size ≤ 64 := by omega
                by_cases hv64 : 64 < vs.size
                · go_wp2
                  go_ret
                  exact says_mk (E13.out HC.out (.inr ⟨⟨ks, vs⟩, HMEM.out, .inr hv64⟩)).symm (HBEL.out.alloc HBEL.out.size _)
                · have hv64' : vs.size ≤ 64 := by omega
                  have HNO2 : Hid (∀ i r, i < j + 1 → recs[i]? = some r → ¬ longRec r) := by
                    intro i r hi hir
                    by_cases e : i = j
                    · subst e
                      rw [HRJ.out] at hir
                      cases hir
                      rintro (h | h)
                      · exact hk64 h
                      · exact hv64 h
                    · exact HNO.out i r (by omega) hir
                  have HLE : Hid (j + 1 ≤ recs.length) := by show _ ≤ _; rw [← HLEN.out]; exact hlt
                  go_wp2
                  go_roundw
                  case rel => (repeat apply Exists.intro); exact ⟨⟨j + 1, HLE.out, by go_num, HNO2.out, HBEL.out.alloc HBEL.out.size _⟩, rfl⟩
                  case measure => simp [intOf]; omega
            · obtain rfl : j = len := by omega
              go_wp2
              go_ret
              refine says_mk (E0.out HC.out ?_).symm HBEL.out
              rintro (h | h)
              · omega
              · exact not_long (by rw [← HLEN.out]; exact HNO.out) h
/-- Any batch whose texts are such. -/
theorem plain_any (w : World) (b : Bat) (ad : Option Addr) (cap : Nat) (hr : RecsAt w ad b.recs.length cap b.recs) (ht : TextsOk b.recs) (hL : b.recs.length ≤ 140737488355328) :
    Calls Tryz.prog 58 #[.agg #[.int .i64 b.base, .int .i64 b.prod, .int .i64 b.epoch, .int .i64 b.seq, .bool b.txn, .int .i64 b.marker, .slice ad b.recs.length cap]] w (Says (rightE b) w) := by
  by_cases h0 : b.base < 0
  · rw [e_low h0]
    go_enter Tryz.func58, Tryz.ntmps58
    go_wp2
    go_ret
    exact says_mk rfl ((Below.refl _ _).alloc (Nat.le_refl _) _)
  · have h0' : 0 ≤ b.base := by omega
    by_cases h1 : 1099511627776 < b.base
    · rw [e_high h1]
      go_enter Tryz.func58, Tryz.ntmps58
      go_wp2
      go_ret
      exact says_mk rfl ((Below.refl _ _).alloc (Nat.le_refl _) _)
    · by_cases hm : b.marker = 0
      · have e : (.int .i64 b.marker : Value) = .int .i64 b.marker := rfl
        exact plain_data w b ad cap hr ht h0' (by omega) hm hL
      · exact plain_mark w b ad cap hr h0' (by omega) hm
end Go.Proofs.YtmnjobiipfgpoaaGreat
namespace Go.Proofs.YtmnjobiipfgpoaaGreat
open Go.RowKit
open Go.VarMath hiding AllB
set_option linter.unusedVariables false

theorem wrap_u64' (n : Int) : IntKind.u64.wrap n = n % 18446744073709551616 := by simp [IntKind.wrap, IntKind.bits, IntKind.signed]
theorem u64_keep (a : Nat) (ha : a < 18446744073709551616) : bits .xor .u64 (a : Int) 0 = (a : Int) := by
  have := u64_xor_nat a 0 ha (by decide)
  rw [Nat.xor_zero] at this
  exact this
theorem u64_flip (a : Nat) (ha : a < 18446744073709551616) : bits .xor .u64 (a : Int) 18446744073709551615 = 18446744073709551615 - (a : Int) := by
  show IntKind.u64.wrap ((BitVec.ofInt 64 (a : Int) ^^^ BitVec.ofInt 64 18446744073709551615).toNat : Int) = _
  have h1 : BitVec.ofInt 64 18446744073709551615 = BitVec.allOnes 64 := by decide
  rw [h1, BitVec.xor_allOnes, BitVec.toNat_not, ofInt_u64 a ha, wrap_u64']
  omega
theorem ret_u64 {a b : Int} (h : a = b) : Ending.returned (.int .u64 a) = .returned (.int .u64 b) := by rw [h]
theorem zig_pos (n : Int) (h0 : 0 ≤ n) (h1 : n ≤ 9223372036854775807) : bits .xor .u64 (n * 2) (n / 9223372036854775808) = ((zig n : Nat) : Int) := by
  have h2 := zig_nonneg h0
  have h3 : n / 9223372036854775808 = 0 := by omega
  have h4 : n * 2 = ((zig n : Nat) : Int) := by omega
  have h5 := zig_lt (n := n) (by omega) h1
  rw [h3, h4, u64_keep _ h5]
theorem zig_minus (n : Int) (h0 : n < 0) (h1 : -9223372036854775808 ≤ n) (a b : Int) (ha : a = n * 2 % 18446744073709551616) (hb : b = 18446744073709551615) : bits .xor .u64 a b = ((zig n : Nat) : Int) := by
  have h2 := zig_neg h0
  have h3 : a = (((18446744073709551615 - zig n : Nat)) : Int) := by omega
  have h5 := zig_lt (n := n) h1 (by omega)
  rw [h3, hb, u64_flip _ (by omega)]
  omega
theorem row_byte (W : World) (n : Nat) (hn : n < 256) : Row (W.alloc (.cells #[.int .u8 (n : Int)] 5)) (some ⟨W.heap.size, 0, none⟩) 1 1 [n] :=
  ⟨(own_new W [n]).byt (fun x hx => by simp at hx; omega) 1 (by simp), fun h => by cases h⟩
theorem wrap_u8' (n : Int) : IntKind.u8.wrap n = n % 256 := by simp [IntKind.wrap, IntKind.bits, IntKind.signed]
end Go.Proofs.YtmnjobiipfgpoaaGreat
namespace Go.Proofs.YtmnjobiipfgpoaaGreat
open Go.RowKit
open Go.VarMath hiding AllB
set_option linter.unusedVariables false

set_option maxHeartbeats 400000 in
theorem unsigned_any (n : Int) (w : World) (h0 : -9223372036854775808 ≤ n) (h1 : n ≤ 9223372036854775807) :
    Calls Tryz.prog 118 #[.int .i64 n] w fun e w' => e = .returned (.int .u64 (zig n : Nat)) ∧ w = w' := by
  by_cases hn : 0 ≤ n
  · go_enter Tryz.func118, Tryz.ntmps118
    go_wp2
    go_ret
    exact ⟨ret_u64 (zig_pos n hn h1), rfl⟩
  · have hn' : n < 0 := by omega
    go_enter Tryz.func118, Tryz.ntmps118
    go_wp2
    go_ret
    exact ⟨ret_u64 (zig_minus n hn' h0 _ _ (by rw [wrap_u64', wrap_u64']; omega) (by rw [wrap_u64']; omega)), rfl⟩
end Go.Proofs.YtmnjobiipfgpoaaGreat
namespace Go.Proofs.YtmnjobiipfgpoaaGreat
open Go.RowKit
open Go.VarMath hiding AllB
set_option linter.unusedVariables false

/-- The call gives a slice at the head of a new block of its own, which is the bytes bs. -/
def GivesRow (w : World) (bs : List Nat) (e : Ending) (w' : World) : Prop := ∃ g cap, e = .returned (.slice (some ⟨g, 0, none⟩) bs.length cap) ∧ w'.ownsRow w.heap.size 5 1 (.slice (some ⟨g, 0, none⟩) bs.length cap) bs.length (vals bs) ∧ Below w.heap.size w w'
theorem gives_row {w w' : World} {bs : List Nat} {g cap n : Nat} (hn : bs.length = n) (h : w'.ownsRow w.heap.size 5 1 (.slice (some ⟨g, 0, none⟩) n cap) n (vals bs)) (hb : Below w.heap.size w w') : GivesRow w bs (.returned (.slice (some ⟨g, 0, none⟩) n cap)) w' := by
  subst hn; exact ⟨g, cap, rfl, h, hb⟩
set_option maxRecDepth 100000 in
theorem run_make_part (W : World) (l c : Nat) (h : l ≤ c) (hc : c ≤ 281474976710656) :
    (Instr.makeSlice 97 (.int .i64 (l : Int)) (.int .i64 (c : Int))).run Tryz.prog W = .ok (.slice (some ⟨W.heap.size, 0, none⟩) l c) (W.alloc (.cells (vals (List.replicate c 0)).toArray 5)) := by
  obtain ⟨i0, hi, hz0, hz1, hz2⟩ := info_parts info5
  have hr := run_make (P := Tryz.prog) W 97 5 i0 (.int .u8 0) Tryz.underlying97 hi hz0 .i64 .i64 l c (by omega) (by omega) (by rw [hz2]; omega) (by omega)
  simp only [Int.toNat_natCast] at hr
  rw [hr]
  congr 3
  have h2 : (madeCells (Value.int .u8 0).cells c).toList = vals (List.replicate c 0) := by
    have := toList_madeCells_one (.int .u8 0) c
    rw [show (Value.int .u8 0).cells = #[.int .u8 0] from rfl, this]
    simp [vals, byte]
  rw [hz1, Nat.mul_one]
  apply Array.toList_inj.1
  rw [h2]
theorem splice_front (n m : Nat) (bs : List Nat) (h : bs.length = n) : splice (vals (List.replicate (n + m) 0)) 0 (vals bs) = vals (bs ++ List.replicate m 0) := by
  subst h
  rw [splice, List.take_zero, List.nil_append, Nat.zero_add, length_vals, vals_append]
  congr 1
  simp [vals]
theorem owns_front {w w' : World} {g n m : Nat} {bs : List Nat} (hn : bs.length = n) (h : Own w' g (bs ++ List.replicate m 0)) (hg : w.heap.size ≤ g) (hm : n + m ≤ maxLen) :
    w'.ownsRow w.heap.size 5 1 (.slice (some ⟨g, 0, none⟩) n (n + m)) n (vals bs) := by
  subst hn
  refine ⟨by rw [length_vals]; omega, .inr ⟨g, _, _, rfl, hg, h, by omega, hm, by simp [vals], ?_⟩⟩
  rw [Nat.mul_one, vals_append, List.take_append_of_le_length (by rw [length_vals]; omega), List.take_of_length_le (by rw [length_vals]; omega)]
set_option maxHeartbeats 400000 in
theorem roomy_any (w : World) (ad : Option Addr) (len cap n : Nat) (bs : List Nat) (h : Row w ad len cap bs) (hL : len ≤ 140737488355328) (hn : n ≤ 16) :
    Calls Tryz.prog 117 #[.slice ad len cap, .int .i64 n] w (GivesRow w bs) := by
  have HB := Lib.hid h
  clear h
  have hmk := fun W => run_make_part W len (len + n) (by omega) (by omega)
  have hcast : ((len + n : Nat) : Int) = (len : Int) + (n : Int) := by omega
  rw [hcast] at hmk
  clear hcast
  have hO := own_new w (List.replicate (len + n) 0)
  have hZ : Below w.heap.size w (w.alloc (.cells (vals (List.replicate (len + n) 0)).toArray 5)) := (Below.refl _ _).alloc (Nat.le_refl _) _
  have HO := Lib.hid hO
  have HZ := Lib.hid hZ
  have HR := Lib.hid (HB.out.keep hZ (Nat.le_refl _))
  clear hO hZ
  go_enter Tryz.func117, Tryz.ntmps117
  go_wp2_with (with_reducible refine wpList_copy_splice rfl (.tmp 13) (.tmp 14) 97 97 rfl 5 Tryz.underlying97 size5 _ _ _ _ _ _ rfl rfl w.heap.size 0 (vals (List.replicate (len + n) 0)) 5 ?_ (vals bs) ?_ ?_ ?_ (vals_one bs) w.heap.size w ?_ (Nat.le_refl _) ?_)
  · exact HO.out
  · rw [length_vals, HB.out.len]; simp
  · intro hp
    rw [length_vals, HB.out.len] at hp
    exact HR.out.1.source hp
  · rw [length_vals, length_vals, HB.out.len]; simp
  · exact HZ.out
  · intro w2 HG2 hB2
    have R : Hid (Own w2 w.heap.size (bs ++ List.replicate n 0)) := by
      have h1 := HG2.out
      rw [splice_front _ _ _ HB.out.len] at h1
      exact h1
    clear HG2
    go_wp2
    go_ret
    exact gives_row HB.out.len (owns_front HB.out.len R.out (Nat.le_refl _) (by unfold maxLen; omega)) hB2
end Go.Proofs.YtmnjobiipfgpoaaGreat
namespace Go.Proofs.YtmnjobiipfgpoaaGreat
open Go.RowKit
open Go.VarMath hiding AllB
set_option linter.unusedVariables false

theorem low7 (v : Nat) (h : v < 18446744073709551616) : bits .and .u64 (v : Int) 127 = ((v % 128 : Nat) : Int) := by
  have := u64_and_nat v 127 h (by decide)
  rw [nat_mask7] at this
  exact this
theorem nat_or128 : ∀ x : Fin 256, x.val ||| 128 = x.val % 128 + 128 := by decide +kernel
theorem hi7 (x : Nat) (h : x < 256) : bits .or .u8 (x : Int) 128 = ((x % 128 + 128 : Nat) : Int) := by
  have := u8_or_nat x 128 h (by decide)
  rw [nat_or128 ⟨x, h⟩] at this
  exact this
/-- What stands before a round of Put's loop: of u's groups those of f more are still to come, the bytes ahead of them stand behind bs. -/
def PutAt (w : World) (bs : List Nat) (u : Nat) (v5 v6 : Value) (wr : World) : Prop :=
  ∃ (f v g cap n : Nat) (pre : List Nat), encU u = pre ++ gr f v ∧ pre.length + f = 9 ∧ v < 2 * 128 ^ f ∧ v < 18446744073709551616 ∧ AllB pre ∧ n = bs.length + pre.length ∧
    v6 = .int .u64 v ∧ v5 = .slice (some ⟨g, 0, none⟩) n cap ∧ wr.ownsRow w.heap.size 5 1 (.slice (some ⟨g, 0, none⟩) n cap) n (vals (bs ++ pre)) ∧ Below w.heap.size w wr
theorem putAt_step {w w' : World} {bs pre : List Nat} {u f v g cap n : Nat} (hu : encU u = pre ++ gr f v) (hf : pre.length + f = 9) (h2 : v < 2 * 128 ^ f) (h6 : v < 18446744073709551616) (ha : AllB pre) (hn : n = bs.length + pre.length) (hv : 127 < v)
    (hown : w'.ownsRow w.heap.size 5 1 (.slice (some ⟨g, 0, none⟩) (n + 1) cap) (n + 1) (vals (bs ++ (pre ++ [v % 128 + 128])))) (hb : Below w.heap.size w w') :
    PutAt w bs u (.slice (some ⟨g, 0, none⟩) (n + 1) cap) (.int .u64 ((v / 128 : Nat) : Int)) w' := by
  cases f with
  | zero => simp at h2; omega
  | succ f =>
    refine ⟨f, v / 128, g, cap, n + 1, pre ++ [v % 128 + 128], ?_, by simp; omega, ?_, by omega, ?_, by simp; omega, rfl, rfl, hown, hb⟩
    · rw [hu, gr_big _ _ (by omega), List.append_assoc]; rfl
    · rw [Nat.pow_succ] at h2; omega
    · exact all_append ha (fun x hx => by simp at hx; omega)
theorem putAt_start {w wr : World} {bs : List Nat} {u g cap n : Nat} (hu : u < 18446744073709551616) (hn : bs.length = n) (hown : wr.ownsRow w.heap.size 5 1 (.slice (some ⟨g, 0, none⟩) n cap) n (vals bs)) (hb : Below w.heap.size w wr) :
    PutAt w bs u (.slice (some ⟨g, 0, none⟩) n cap) (.int .u64 (u : Int)) wr :=
  ⟨9, u, g, cap, n, [], rfl, rfl, by rw [pow9]; omega, hu, (fun x hx => by cases hx), by simp [hn], rfl, rfl, by rw [List.append_nil]; exact hown, hb⟩
theorem put_end {pre bs : List Nat} {u f v : Nat} (hu : encU u = pre ++ gr f v) (hv : ¬ 127 < v) : bs ++ (pre ++ [v]) = bs ++ encU u := by
  rw [hu, gr_small _ _ (by omega)]
set_option maxHeartbeats 400000 in
theorem put_any (w : World) (ad : Option Addr) (len cap : Nat) (bs : List Nat) (n : Int) (h : Row w ad len cap bs) (hL : len ≤ 140737488355300) (h0 : -9223372036854775808 ≤ n) (h1 : n ≤ 9223372036854775807) :
    Calls Tryz.prog 113 #[.slice ad len cap, .int .i64 n] w (GivesRow w (bs ++ encN n)) := by
  have HB := Lib.hid h
  have hu := zig_lt h0 h1
  clear h
  go_enter Tryz.func113, Tryz.ntmps113
  go_wp2_with fail
  refine (roomy_any w ad len cap 10 bs HB.out (by omega) (by omega)).mono ?_
  rintro e w1 ⟨g, cp, rfl, hown, hb1⟩
  rw [HB.out.len] at hown ⊢
  have HO := Lib.hid hown
  have HB1 := Lib.hid hb1
  clear hown hb1
  go_wp2_with fail
  refine (unsigned_any n w1 h0 h1).mono ?_
  rintro e w' ⟨rfl, rfl⟩
  obtain ⟨u, hue⟩ : ∃ u, u = zig n := ⟨_, rfl⟩
  rw [← hue] at hu ⊢
  have HU := Lib.hid hue
  clear hue
  go_wp2
  go_loopw [5, 6] (fun v5 v6 wr => PutAt w bs u v5 v6 wr) (fun _ v6 _ => (intOf v6).toNat)
  case atStart => exact putAt_start hu HB.out.len HO.out HB1.out
  case round =>
    obtain ⟨f, v, g, cap', k, pre, hu', hf, h2, h6, ha, hn, rfl, rfl, hown, hbel⟩ := hrel
    have HU' := Lib.hid hu'
    have HF := Lib.hid hf
    have HN := Lib.hid hn
    have HO' := Lib.hid hown
    have HW := Lib.hid hbel
    have HA := Lib.hid ha
    have H2 := Lib.hid h2
    have hk : k ≤ 140737488355320 := by have := HB.out.len; omega
    clear hu' hf hn hown hbel ha h2
    have hand := low7 v h6
    obtain ⟨y, hy⟩ : ∃ y, y = v % 128 := ⟨_, rfl⟩
    rw [← hy] at hand
    have hy8 : y < 128 := by omega
    have hor := hi7 y (by omega)
    have hy2 : y % 128 + 128 = v % 128 + 128 := by omega
    rw [hy2] at hor
    have HY := Lib.hid hy
    clear hy hy2
    obtain ⟨z, hz⟩ : ∃ z, z = v % 128 + 128 := ⟨_, rfl⟩
    rw [← hz] at hor
    have hz8 : z < 256 := by omega
    have HZ := Lib.hid hz
    clear hz
    by_cases hv : 127 < v
    · have HW2 : Hid (Below w.heap.size w (wr.alloc (.cells #[.int .u8 (z : Int)] 5))) := HW.out.alloc HW.out.size _
      go_wp2_with (at_builtin; refine append_row rfl (.tmp 13) (.tmp 18) rfl w.heap.size k (bs ++ pre) [z] _ rfl (HO'.out.alloc _) (some_ne _ _ _) HW2.out.size _ _ _ rfl (row_byte wr z hz8) (by omega) w HW2.out ?_)
      intro g3 cp3 w3 ho3 hb3
      have HO3 := Lib.hid ho3
      have HB3 := Lib.hid hb3
      clear ho3 hb3
      go_wp2
      go_roundw
      case rel =>
        have h3 := HO3.out
        rw [HZ.out] at h3
        exact putAt_step HU'.out HF.out H2.out h6 HA.out HN.out hv h3 HB3.out
      case measure => simp [intOf]; omega
    · have HW2 : Hid (Below w.heap.size w (wr.alloc (.cells #[.int .u8 (v : Int)] 5))) := HW.out.alloc HW.out.size _
      have hv8 : v < 256 := by omega
      go_wp2_with (at_builtin; refine append_row rfl (.tmp 22) (.tmp 25) rfl w.heap.size k (bs ++ pre) [v] _ rfl (HO'.out.alloc _) (some_ne _ _ _) HW2.out.size _ _ _ rfl (row_byte wr v hv8) (by omega) w HW2.out ?_)
      intro g3 cp3 w3 ho3 hb3
      have HO3 := Lib.hid ho3
      have HB3 := Lib.hid hb3
      clear ho3 hb3
      go_wp2
      go_ret
      have h3 := HO3.out
      rw [put_end HU'.out hv, HU.out] at h3
      refine gives_row ?_ h3 HB3.out
      have := h3.1
      rw [length_vals] at this
      unfold encN; omega
theorem text_len (s : ByteArray) : ((s.size : Nat) : Int) = ((s.data.toList.map UInt8.toNat).length : Int) := by simp
def bytesS (s : ByteArray) : List Nat := s.data.toList.map UInt8.toNat
theorem length_bytesS (s : ByteArray) : (bytesS s).length = s.size := by simp [bytesS]
theorem strCells_vals (s : ByteArray) : Lib.strCells s = vals (bytesS s) := by simp [Lib.strCells, vals, bytesS, byte]
set_option maxHeartbeats 400000 in
theorem text_any (w : World) (ad : Option Addr) (len cap : Nat) (bs : List Nat) (s : ByteArray) (h : Row w ad len cap bs) (hL : len + s.size ≤ 140737488355300) :
    Calls Tryz.prog 102 #[.slice ad len cap, .string s] w (GivesRow w (bs ++ textB (bytesS s))) := by
  obtain ⟨i0, hi, hz0, hz1, hz2⟩ := info_parts info5
  have HB := Lib.hid h
  clear h
  go_enter Tryz.func102, Tryz.ntmps102
  go_wp2_with fail
  refine (put_any w ad len cap bs s.size HB.out (by omega) (by omega) (by omega)).mono ?_
  rintro e w1 ⟨g, cp, rfl, hown, hb1⟩
  have hel := enc_len (zig_lt (n := (s.size : Int)) (by omega) (by omega))
  have hl : (bs ++ encN (s.size : Int)).length ≤ len + 10 := by rw [List.length_append, HB.out.len]; unfold encN; omega
  obtain ⟨k, hk⟩ : ∃ k, k = (bs ++ encN (s.size : Int)).length := ⟨_, rfl⟩
  rw [← hk] at hown hl ⊢
  have HK := Lib.hid hk
  have HO := Lib.hid hown
  have HB1 := Lib.hid hb1
  clear hown hb1 hk hel
  go_wp2_with (at_builtin; refine Lib.wpList_append_own_string _ rfl (.tmp 8) (.tmp 9) 97 9 rfl w.heap.size 5 i0 Tryz.underlying97 Tryz.underlying9 hi hz0 hz1 hz2 _ k _ rfl HO.out s rfl (by unfold maxLen; omega) (by omega) HB1.out.size ?_)
  intro v2 w2 ho2 hgrow2 hn2
  have HB2 : Hid (Below w.heap.size w w2) := HB1.out.grown hgrow2 HB1.out.size (fun j hj => (HO.out.lt j hj).1)
  have hne : v2 ≠ .slice none 0 0 := hn2
  have HO2 : Hid (w2.ownsRow w.heap.size 5 1 v2 (k + s.size) (vals (bs ++ textB (bytesS s)))) := by
    have e : bs ++ textB (bytesS s) = (bs ++ encN (s.size : Int)) ++ bytesS s := by
      unfold textB encN
      rw [length_bytesS, zig_nat, List.append_assoc]
    rw [e, vals_append, ← strCells_vals]
    exact ho2
  clear ho2 hgrow2 hn2
  obtain ⟨g2, cp2, rfl⟩ : ∃ g cp, v2 = .slice (some ⟨g, 0, none⟩) (k + s.size) cp := by
    rcases HO2.out.2 with ⟨h, _⟩ | ⟨g, cp, cur, h, _⟩
    · exact absurd h hne
    · exact ⟨g, cp, h⟩
  clear hne
  go_wp2
  go_ret
  refine gives_row ?_ HO2.out HB2.out
  have := HO2.out.1
  rw [length_vals] at this
  omega
end Go.Proofs.YtmnjobiipfgpoaaGreat
namespace Go.Proofs.YtmnjobiipfgpoaaGreat
open Go.RowKit
open Go.VarMath hiding AllB
set_option linter.unusedVariables false

theorem zigr_pos (n : Int) (h0 : 0 ≤ n) (h1 : n ≤ 9223372036854775807) (a b : Int) (ha : a = n * 2) (hb : b = 0) : bits .xor .u64 a b = ((zig n : Nat) : Int) := by
  have h2 := zig_nonneg h0
  have h4 : a = ((zig n : Nat) : Int) := by omega
  have h5 := zig_lt (n := n) (by omega) h1
  rw [hb, h4, u64_keep _ h5]
/-- The number that the document's own Put writes, whatever its spelling. -/
theorem zigr (n : Int) (h0 : -9223372036854775808 ≤ n) (h1 : n ≤ 9223372036854775807) (a b : Int) (ha : a = n * 2 % 18446744073709551616) (hb : b = n / 9223372036854775808 % 18446744073709551616) : bits .xor .u64 a b = ((zig n : Nat) : Int) := by
  by_cases h : 0 ≤ n
  · exact zigr_pos n h h1 a b (by omega) (by omega)
  · exact zig_minus n (by omega) h0 a b ha (by omega)
set_option maxHeartbeats 400000 in
theorem refPut_any (w : World) (ad : Option Addr) (len cap : Nat) (bs : List Nat) (n : Int) (h : Row w ad len cap bs) (hL : len ≤ 140737488355300) (h0 : -9223372036854775808 ≤ n) (h1 : n ≤ 9223372036854775807) :
    Calls Tryz.prog 104 #[.slice ad len cap, .int .i64 n] w (GivesRow w (bs ++ encN n)) := by
  have HB := Lib.hid h
  have hu := zig_lt h0 h1
  clear h
  have HZ1 : Hid (Below w.heap.size w (w.alloc (.cells #[] 5))) := (Below.refl _ _).alloc (Nat.le_refl _) _
  go_enter Tryz.func104, Tryz.ntmps104
  go_wp2_with (at_builtin; refine append_row rfl (.tmp 7) (.tmp 8) rfl w.heap.size 0 [] _ _ rfl (own_empty w _ (Nat.le_refl _)) (some_ne _ _ _) HZ1.out.size _ _ _ rfl (HB.out.keep HZ1.out (Nat.le_refl _)) (by omega) w HZ1.out ?_)
  intro g cp w1 ho1 hb1
  have HO := Lib.hid (show w1.ownsRow w.heap.size 5 1 (.slice (some ⟨g, 0, none⟩) len cp) len (vals bs) by simpa using ho1)
  have HB1 := Lib.hid hb1
  clear ho1 hb1
  have hx : bits .xor .u64 (IntKind.u64.wrap (wrap64 (n * 2))) (IntKind.u64.wrap (n / 9223372036854775808)) = ((zig n : Nat) : Int) :=
    zigr n h0 h1 _ _ (by rw [wrap_u64']; unfold wrap64; omega) (by rw [wrap_u64'])
  obtain ⟨u, hue⟩ : ∃ u, u = zig n := ⟨_, rfl⟩
  rw [← hue] at hu hx
  have HU := Lib.hid hue
  clear hue
  go_wp2
  clear hx
  go_loopw [5, 6] (fun v5 v6 wr => PutAt w bs u v5 v6 wr) (fun _ v6 _ => (intOf v6).toNat)
  case atStart => exact putAt_start hu HB.out.len HO.out HB1.out
  case round =>
    obtain ⟨f, v, g, cap', k, pre, hu', hf, h2, h6, ha, hn, rfl, rfl, hown, hbel⟩ := hrel
    have HU' := Lib.hid hu'
    have HF := Lib.hid hf
    have HN := Lib.hid hn
    have HO' := Lib.hid hown
    have HW := Lib.hid hbel
    have HA := Lib.hid ha
    have H2 := Lib.hid h2
    have hk : k ≤ 140737488355320 := by have := HB.out.len; omega
    clear hu' hf hn hown hbel ha h2
    by_cases hv : 127 < v
    · obtain ⟨y, hy⟩ : ∃ y, y = v % 256 := ⟨_, rfl⟩
      have hwr : IntKind.u8.wrap (v : Int) = (y : Int) := by rw [wrap_u8']; omega
      have hor := hi7 y (by omega)
      have hy2 : y % 128 + 128 = v % 128 + 128 := by omega
      rw [hy2] at hor
      clear hy hy2
      obtain ⟨z, hz⟩ : ∃ z, z = v % 128 + 128 := ⟨_, rfl⟩
      rw [← hz] at hor
      have hz8 : z < 256 := by omega
      have HZ := Lib.hid hz
      clear hz
      have hge : decide ((128 : Int) ≤ (v : Int)) = true := by simp; omega
      have HW2 : Hid (Below w.heap.size w (wr.alloc (.cells #[.int .u8 (z : Int)] 5))) := HW.out.alloc HW.out.size _
      go_wp2_with (at_builtin; refine append_row rfl (.tmp 19) (.tmp 23) rfl w.heap.size k (bs ++ pre) [z] _ rfl (HO'.out.alloc _) (some_ne _ _ _) HW2.out.size _ _ _ rfl (row_byte wr z hz8) (by omega) w HW2.out ?_)
      intro g3 cp3 w3 ho3 hb3
      have HO3 := Lib.hid ho3
      have HB3 := Lib.hid hb3
      clear ho3 hb3
      go_wp2
      go_roundw
      case rel =>
        have h3 := HO3.out
        rw [HZ.out] at h3
        exact putAt_step HU'.out HF.out H2.out h6 HA.out HN.out hv h3 HB3.out
      case measure => simp [intOf]; omega
    · have hge : decide ((128 : Int) ≤ (v : Int)) = false := by simp; omega
      have hv8 : v < 256 := by omega
      have HW2 : Hid (Below w.heap.size w (wr.alloc (.cells #[.int .u8 (v : Int)] 5))) := HW.out.alloc HW.out.size _
      go_wp2_with (at_builtin; refine append_row rfl (.tmp 27) (.tmp 30) rfl w.heap.size k (bs ++ pre) [v] _ rfl (HO'.out.alloc _) (some_ne _ _ _) HW2.out.size _ _ _ rfl (row_byte wr v hv8) (by omega) w HW2.out ?_)
      intro g3 cp3 w3 ho3 hb3
      have HO3 := Lib.hid ho3
      have HB3 := Lib.hid hb3
      clear ho3 hb3
      go_wp2
      go_ret
      have h3 := HO3.out
      rw [put_end HU'.out hv, HU.out] at h3
      refine gives_row ?_ h3 HB3.out
      have := h3.1
      rw [length_vals] at this
      unfold encN; omega
set_option maxHeartbeats 400000 in
theorem refText_any (w : World) (ad : Option Addr) (len cap : Nat) (bs : List Nat) (s : ByteArray) (h : Row w ad len cap bs) (hL : len + s.size ≤ 140737488355300) :
    Calls Tryz.prog 85 #[.slice ad len cap, .string s] w (GivesRow w (bs ++ textB (bytesS s))) := by
  obtain ⟨i0, hi, hz0, hz1, hz2⟩ := info_parts info5
  have HB := Lib.hid h
  clear h
  go_enter Tryz.func85, Tryz.ntmps85
  go_wp2_with fail
  refine (refPut_any w ad len cap bs s.size HB.out (by omega) (by omega) (by omega)).mono ?_
  rintro e w1 ⟨g, cp, rfl, hown, hb1⟩
  have hel := enc_len (zig_lt (n := (s.size : Int)) (by omega) (by omega))
  have hl : (bs ++ encN (s.size : Int)).length ≤ len + 10 := by rw [List.length_append, HB.out.len]; unfold encN; omega
  obtain ⟨k, hk⟩ : ∃ k, k = (bs ++ encN (s.size : Int)).length := ⟨_, rfl⟩
  rw [← hk] at hown hl ⊢
  have HK := Lib.hid hk
  have HO := Lib.hid hown
  have HB1 := Lib.hid hb1
  clear hown hb1 hk hel
  go_wp2_with (at_builtin; refine Lib.wpList_append_own_string _ rfl (.tmp 8) (.tmp 9) 97 9 rfl w.heap.size 5 i0 Tryz.underlying97 Tryz.underlying9 hi hz0 hz1 hz2 _ k _ rfl HO.out s rfl (by unfold maxLen; omega) (by omega) HB1.out.size ?_)
  intro v2 w2 ho2 hgrow2 hn2
  have HB2 : Hid (Below w.heap.size w w2) := HB1.out.grown hgrow2 HB1.out.size (fun j hj => (HO.out.lt j hj).1)
  have hne : v2 ≠ .slice none 0 0 := hn2
  have HO2 : Hid (w2.ownsRow w.heap.size 5 1 v2 (k + s.size) (vals (bs ++ textB (bytesS s)))) := by
    have e : bs ++ textB (bytesS s) = (bs ++ encN (s.size : Int)) ++ bytesS s := by
      unfold textB encN
      rw [length_bytesS, zig_nat, List.append_assoc]
    rw [e, vals_append, ← strCells_vals]
    exact ho2
  clear ho2 hgrow2 hn2
  obtain ⟨g2, cp2, rfl⟩ : ∃ g cp, v2 = .slice (some ⟨g, 0, none⟩) (k + s.size) cp := by
    rcases HO2.out.2 with ⟨h, _⟩ | ⟨g, cp, cur, h, _⟩
    · exact absurd h hne
    · exact ⟨g, cp, h⟩
  clear hne
  go_wp2
  go_ret
  refine gives_row ?_ HO2.out HB2.out
  have := HO2.out.1
  rw [length_vals] at this
  omega
end Go.Proofs.YtmnjobiipfgpoaaGreat
namespace Go.Proofs.YtmnjobiipfgpoaaGreat
open Go.RowKit
open Go.VarMath hiding AllB
set_option linter.unusedVariables false

/-- What stands before round k of Long's loop. -/
def LongAt (w : World) (bs : List Nat) (n : Int) (k : Nat) (v5 : Value) (wr : World) : Prop :=
  ∃ (g cap m : Nat), m = bs.length + k ∧ v5 = .slice (some ⟨g, 0, none⟩) m cap ∧ wr.ownsRow w.heap.size 5 1 (.slice (some ⟨g, 0, none⟩) m cap) m (vals (bs ++ (longB n).take k)) ∧ Below w.heap.size w wr
theorem longAt_step {w w' : World} {bs : List Nat} {n : Int} {k m g cap z : Nat} (hk : k < 8) (hm : m = bs.length + k) (hz : z = low64 n / 256 ^ (7 - k) % 256)
    (hown : w'.ownsRow w.heap.size 5 1 (.slice (some ⟨g, 0, none⟩) (m + 1) cap) (m + 1) (vals (bs ++ ((longB n).take k ++ [z])))) (hb : Below w.heap.size w w') :
    LongAt w bs n (k + 1) (.slice (some ⟨g, 0, none⟩) (m + 1) cap) w' := by
  refine ⟨g, cap, m + 1, by omega, rfl, ?_, hb⟩
  have h := beB_take k 8 (low64 n) hk
  unfold longB at hown ⊢
  rw [h]
  have e : 8 - 1 - k = 7 - k := by omega
  rw [e, ← hz]
  exact hown
theorem refLong_shift (n : Int) (j : Nat) (hj : j < 8) : n / 2 ^ (8 * j) % 256 = ((low64 n / 256 ^ j % 256 : Nat) : Int) := by
  unfold low64
  rcases j with _ | _ | _ | _ | _ | _ | _ | _ | j
  all_goals first | (exfalso; omega) | (simp only [Nat.reduceMul, Nat.reduceAdd, Int.reducePow, Nat.reducePow]; omega)
set_option maxHeartbeats 400000 in
theorem refLong_any (w : World) (ad : Option Addr) (len cap : Nat) (bs : List Nat) (n : Int) (h : Row w ad len cap bs) (hL : len ≤ 140737488355300) (h0 : -9223372036854775808 ≤ n) (h1 : n ≤ 9223372036854775807) :
    Calls Tryz.prog 84 #[.slice ad len cap, .int .i64 n] w (GivesRow w (bs ++ longB n)) := by
  have HB := Lib.hid h
  clear h
  have HZ1 : Hid (Below w.heap.size w (w.alloc (.cells #[] 5))) := (Below.refl _ _).alloc (Nat.le_refl _) _
  go_enter Tryz.func84, Tryz.ntmps84
  go_wp2_with (at_builtin; refine append_row rfl (.tmp 7) (.tmp 8) rfl w.heap.size 0 [] _ _ rfl (own_empty w _ (Nat.le_refl _)) (some_ne _ _ _) HZ1.out.size _ _ _ rfl (HB.out.keep HZ1.out (Nat.le_refl _)) (by omega) w HZ1.out ?_)
  intro g cp w1 ho1 hb1
  have HO := Lib.hid (show w1.ownsRow w.heap.size 5 1 (.slice (some ⟨g, 0, none⟩) len cp) len (vals bs) by simpa using ho1)
  have HB1 := Lib.hid hb1
  clear ho1 hb1
  go_wp2
  go_loopw [5, 6] (fun v5 v6 wr => ∃ (k : Nat) (i : Int), k ≤ 8 ∧ i = 56 - 8 * (k : Int) ∧ v6 = .int .i64 i ∧ LongAt w bs n k v5 wr) (fun _ v6 _ => (8 + intOf v6).toNat)
  case atStart => exact ⟨0, _, by omega, by omega, rfl, g, cp, len, by rw [HB.out.len]; rfl, rfl, by simpa using HO.out, HB1.out⟩
  case round =>
    obtain ⟨k, i, hk, hi, rfl, g, cap', m, hm, rfl, hown, hbel⟩ := hrel
    have HM := Lib.hid hm
    have HO' := Lib.hid hown
    have HW := Lib.hid hbel
    have hm2 : m ≤ 140737488355308 := by have := HB.out.len; omega
    clear hm hown hbel
    by_cases hlt : k < 8
    · obtain ⟨z, hz⟩ : ∃ z, z = low64 n / 256 ^ (7 - k) % 256 := ⟨_, rfl⟩
      have hz8 : z < 256 := by omega
      obtain ⟨t, ht⟩ : ∃ t, t = 8 * (7 - k) := ⟨_, rfl⟩
      have hsh : n / 2 ^ t % 256 = (z : Int) := by rw [hz, ht]; exact refLong_shift _ _ (by omega)
      have hsh2 : IntKind.u8.wrap (n / 2 ^ t) = (z : Int) := by rw [wrap_u8', hsh]
      obtain rfl : i = (t : Int) := by omega
      have HI := Lib.hid hi
      have HZ := Lib.hid hz
      have ht2 : t ≤ 56 := by omega
      clear hz hsh hi ht
      have HW2 : Hid (Below w.heap.size w (wr.alloc (.cells #[.int .u8 (z : Int)] 5))) := HW.out.alloc HW.out.size _
      go_wp2_with (at_builtin; refine append_row rfl (.tmp 14) (.tmp 20) rfl w.heap.size m (bs ++ (longB n).take k) [z] _ rfl (HO'.out.alloc _) (some_ne _ _ _) HW2.out.size _ _ _ rfl (row_byte wr z hz8) (by omega) w HW2.out ?_)
      intro g3 cp3 w3 ho3 hb3
      have HO3 := Lib.hid ho3
      have HB3 := Lib.hid hb3
      clear ho3 hb3 hsh2
      go_wp2
      go_roundw
      case rel => exact ⟨k + 1, _, by omega, by have := HI.out; omega, rfl, longAt_step hlt HM.out HZ.out HO3.out HB3.out⟩
      case measure => simp [intOf]; omega
    · obtain rfl : k = 8 := by omega
      obtain rfl : i = -8 := by omega
      clear hi
      go_wp2
      go_ret
      have h3 := HO'.out
      rw [List.take_of_length_le (by rw [length_longB]; omega)] at h3
      refine gives_row ?_ h3 HW.out
      rw [HM.out, List.length_append, length_longB]
end Go.Proofs.YtmnjobiipfgpoaaGreat
namespace Go.Proofs.YtmnjobiipfgpoaaGreat
open Go.RowKit Go.OpenShut
set_option linter.unusedVariables false

theorem run_append_keep {P : Program} (w : World) (base : Nat) (t ty e : TypeId) (i : TypeInfo) (z : Value) (size bytes : Nat) (ht : P.underlying t = some (.slice e)) (hi : P.info? e = some i) (hz : i.zero = some z)
    (hsize : i.size = size) (hby : i.bytes = bytes) (hzs : z.cells.size = size) (hsz : 0 < size)
    (g cap : Nat) (n : Nat) (xs : List Value) (hown : w.ownsRow base e size (.slice (some ⟨g, 0, none⟩) n cap) n xs)
    (a : Addr) (m c : Nat) (news : List Value) (hl : news.length = m * size) (hnews : ∀ j u, news[j]? = some u → w.cell? (a.add j) = some u) (h1 : ∀ u ∈ news, u.oneCell' = true)
    (h63 : n + m ≤ maxLen) (hbytes : (n + m) * bytes ≤ 140737488355328) (hbase : base ≤ w.heap.size) :
    ∃ v' w', (Builtin.append_ #[t, t] ty #[.slice (some ⟨g, 0, none⟩) n cap, .slice (some a) m c]).run P w = .ok v' w' ∧ w'.ownsRow base e size v' (n + m) (xs ++ news) ∧ w.grownBy w' (some g) ∧
      v' ≠ .slice none 0 0 ∧ w'.ownsRow base e size (.slice (some ⟨g, 0, none⟩) n cap) n xs := by
  obtain ⟨v', w', hr, h2, h3, h4⟩ := run_append_own (P := P) w base t ty e i z size bytes ht hi hz hsize hby hzs hsz (.slice (some ⟨g, 0, none⟩) n cap) n xs hown a m c news hl hnews h1 h63 hbytes hbase
  have hne : v' ≠ .slice none 0 0 := fun h => by have := (h4.1 h).1; cases this
  refine ⟨v', w', hr, h2, h3, hne, ?_⟩
  subst hsize
  subst hby
  rcases hown.2 with ⟨h, _⟩ | ⟨g', cap', cur, h, hbg, hg, hnc, hcm, hcs, htake⟩
  · cases h
  · cases h
    refine ⟨hown.1, .inr ?_⟩
    by_cases hroom : n + m ≤ cap
    · have hfit : n * i.size + news.length ≤ cur.size := by rw [hl, hcs, ← Nat.add_mul]; exact Nat.mul_le_mul_right _ hroom
      have hr2 := run_append_room (P := P) w t ty e i ht hi g n cap cur hg a m c news hl hnews h1 hroom hfit
      rw [hr2] at hr
      cases hr
      refine ⟨g, cap, _, rfl, hbg, setRow_heap w g cur _ e _ hg, hnc, hcm, ?_, ?_⟩
      · simp only [List.size_toArray, List.length_append, List.length_take, List.length_drop, Array.length_toList]
        omega
      · rw [htake, List.append_assoc]
        rw [← hown.1]
        exact List.take_left
    · have holds : ∀ j u, xs[j]? = some u → w.cell? ((⟨g, 0, none⟩ : Addr).add j) = some u := hown.cells (g := g) rfl
      have hr2 := run_append_grow (P := P) w t ty e i z ht hi hz ⟨g, 0, none⟩ n cap xs hown.1 holds a m c news hl hnews (by omega) (by simp only [maxLen] at h63; omega) (growslice_fits (by omega) hbytes)
      rw [hr2] at hr
      cases hr
      have hlt : g < w.heap.size := (Array.getElem?_eq_some_iff.1 hg).1
      refine ⟨g, cap, cur, rfl, hbg, ?_, hnc, hcm, hcs, htake⟩
      exact (Below.heap_alloc w.drew _ g hlt).trans hg
end Go.Proofs.YtmnjobiipfgpoaaGreat
namespace Go.Proofs.YtmnjobiipfgpoaaGreat
open Go.RowKit Go.OpenShut
set_option linter.unusedVariables false

theorem row_news {w : World} {ad : Addr} {len cap : Nat} {ys : List Nat} (hr : Row w (some ad) len cap ys) : ∀ j u, (vals ys)[j]? = some u → w.cell? (ad.add j) = some u := by
  intro j u hj
  have hjl : j < ys.length := by
    have := (List.getElem?_eq_some_iff.1 hj).1
    rwa [length_vals] at this
  obtain ⟨a', ha', hs'⟩ := hr.1.source (by have := hr.1.length; omega)
  obtain rfl := Option.some.inj ha'
  exact hs' j u hj
theorem run_keep_any (w : World) (base n : Nat) (v : Value) (xs ys : List Nat) (ty : TypeId) (hown : w.ownsRow base 5 1 v n (vals xs)) (ad : Addr) (len cap' : Nat) (hr : Row w (some ad) len cap' ys) (hlen : 0 < len) (hn : n + len ≤ 140737488355328) (hbase : base ≤ w.heap.size) :
    ∃ g' cp w', (Builtin.append_ #[97, 97] ty #[v, .slice (some ad) len cap']).run Tryz.prog w = .ok (.slice (some ⟨g', 0, none⟩) (n + len) cp) w' ∧ w'.ownsRow base 5 1 (.slice (some ⟨g', 0, none⟩) (n + len) cp) (n + len) (vals (xs ++ ys)) ∧
      w'.ownsRow base 5 1 v n (vals xs) ∧ w.grownBy w' v.ownBlock := by
  obtain ⟨i0, hi, hz0, hz1, hz2⟩ := info_parts info5
  have hcount : (vals ys).length = len * 1 := by rw [length_vals, hr.1.length]; simp
  rcases hown.2 with ⟨rfl, rfl⟩ | ⟨g, cap, cur, rfl, _⟩
  · obtain ⟨v', w', hrun, h2, h3, h4⟩ := run_append_own (P := Tryz.prog) w base 97 ty 5 i0 (.int .u8 0) 1 1 Tryz.underlying97 hi hz0 hz1 hz2 rfl (by decide) (.slice none 0 0) 0 (vals xs) hown ad len cap' (vals ys) hcount (row_news hr) (vals_one ys) (by unfold maxLen; omega) (by omega) hbase
    rw [← vals_append] at h2
    rcases h2.2 with ⟨h', h0⟩ | ⟨g', cp, cur, rfl, _⟩
    · omega
    · exact ⟨g', cp, w', hrun, h2, ⟨hown.1, .inl ⟨rfl, rfl⟩⟩, h3⟩
  · obtain ⟨v', w', hrun, h2, h3, h4, h5⟩ := run_append_keep (P := Tryz.prog) w base 97 ty 5 i0 (.int .u8 0) 1 1 Tryz.underlying97 hi hz0 hz1 hz2 rfl (by decide) g cap n (vals xs) hown ad len cap' (vals ys) hcount (row_news hr) (vals_one ys) (by unfold maxLen; omega) (by omega) hbase
    rw [← vals_append] at h2
    rcases h2.2 with ⟨h', _⟩ | ⟨g', cp, cur, rfl, _⟩
    · exact absurd h' h4
    · exact ⟨g', cp, w', hrun, h2, h5, h3⟩
/-- The operation, behind a guard that says yes or with none, in a region that draws its order. -/
theorem held_append {w : World} {ops : Array Oper} {o : Oper} {a : Act} {K : Act → World → Prop} {Q : Exit → Act → World → Prop} {Z : Prop} [Decidable (Region.wanted o (yielded ops a.tmps) = true)] (hw : Region.wanted o (yielded ops a.tmps) = true) (s x : Operand)
    (ho : o.op = .call { callee := .builtin .append, args := #[s, x], argTypes := #[97, 97] })
    (base n : Nat) (xs ys : List Nat) (v : Value) (hs : a.eval s = v) (hown : w.ownsRow base 5 1 v n (vals xs)) (hbase : base ≤ w.heap.size)
    (ad : Addr) (len cap' : Nat) (hx : a.eval x = .slice (some ad) len cap') (hr : Row w (some ad) len cap' ys) (hlen : 0 < len) (hn : n + len ≤ 140737488355328)
    (w0 : World) (hb0 : Below base w0 w)
    (h : ∀ g' cp w', w'.ownsRow base 5 1 (.slice (some ⟨g', 0, none⟩) (n + len) cp) (n + len) (vals (xs ++ ys)) → w'.ownsRow base 5 1 v n (vals xs) → Below base w0 w' → K (a.put o.dst (.slice (some ⟨g', 0, none⟩) (n + len) cp)) w') :
    if Region.wanted o (yielded ops a.tmps) = true then Oper.wp Tryz.prog o a w K Q else Z := by
  rw [if_pos hw]
  obtain ⟨g', cp, w', hrun, h2, h3, h4⟩ := run_keep_any w base n v xs ys o.type hown ad len cap' hr hlen hn hbase
  have hb : Below base w0 w' := hb0.grown h4 hbase (fun k hk => (hown.lt k hk).1)
  unfold Oper.wp execOp
  simp only [ho, resolve, invoke, builtin, Sem.run_bind, Sem.run_pure, Result.andThen_ok, List.map_toArray, List.map_cons, List.map_nil, hs, hx, hrun]
  exact h g' cp w' h2 h3 hb
end Go.Proofs.YtmnjobiipfgpoaaGreat
namespace Go.Proofs.YtmnjobiipfgpoaaGreat
open Go.RowKit
open Go.VarMath hiding AllB
set_option linter.unusedVariables false

def In64 (n : Int) : Prop := -9223372036854775808 ≤ n ∧ n ≤ 9223372036854775807
/-- A slice of int64 whose first len numbers are zs. -/
structure Nums (w : World) (ad : Option Addr) (len : Nat) (zs : List Int) : Prop where
  length : zs.length = len
  all : ∀ n ∈ zs, In64 n
  cells : len = 0 ∨ ∃ b off, ad = some ⟨b, off, none⟩ ∧ ∀ i, i < len → w.cell? ⟨b, off + i, none⟩ = some (.int .i64 (zs.getD i 0))
theorem Nums.keep {w w' : World} {ad : Option Addr} {len : Nat} {zs : List Int} (h : Nums w ad len zs) {B : Nat} (hb : Below B w w') (hB : w.heap.size ≤ B) : Nums w' ad len zs := by
  refine ⟨h.length, h.all, ?_⟩
  rcases h.cells with h0 | ⟨b, off, e, hc⟩
  · exact .inl h0
  · refine .inr ⟨b, off, e, fun i hi => ?_⟩
    have := hc i hi
    rw [hb.cell (p := ⟨b, off + i, none⟩) (by have := World.block_lt_of_cell? w _ this; exact Nat.lt_of_lt_of_le this hB)]
    exact this
theorem IsRow.nums {w : World} {a : Option Addr} {len cap : Nat} {zs : List Int} (h : IsRow .i64 w a len cap zs) : Nums w a len (zs.take len) ∧ len ≤ cap := by
  rcases h with ⟨rfl, rfl, rfl, rfl⟩ | ⟨x, rfl, hl, hm, hz, hc, hw⟩
  · exact ⟨⟨rfl, (fun x hx => by cases hx), .inl rfl⟩, Nat.le_refl _⟩
  · refine ⟨⟨by rw [List.length_take]; omega, ?_, ?_⟩, hl⟩
    · intro n hn
      have := bounds_i64 (hw n (List.mem_of_mem_take hn))
      exact ⟨by omega, by omega⟩
    · by_cases h0 : len = 0
      · exact .inl h0
      · obtain ⟨b, off, spot⟩ := x
        have h1 := hc 0 (by omega)
        have hs : spot = none := by simpa [Addr.add] using World.cell?_spot h1
        subst hs
        refine .inr ⟨b, off, rfl, fun i hi => ?_⟩
        have h2 := hc i (by omega)
        rw [add_at] at h2
        rw [h2]
        have e : (zs.take len).getD i 0 = zs.getD i 0 := by rw [List.getD_eq_getElem?_getD, List.getElem?_take, if_pos hi, ← List.getD_eq_getElem?_getD]
        rw [e]
end Go.Proofs.YtmnjobiipfgpoaaGreat
namespace Go.Proofs.YtmnjobiipfgpoaaGreat
open Go.RowKit
open Go.BatMath hiding AllB getD_lt take_all

set_option linter.unusedVariables false

section
variable {w : World} {k : Nat} {b0 b1 b2 b3 : Int} {b4 : Bool} {b5 : Int} {v : Value}
theorem BoxAt.s0 (h : BoxAt w k b0 b1 b2 b3 b4 b5 v) (n : Int) : BoxAt (w.setCell ⟨k, 0, none⟩ (.int .i64 n)) k n b1 b2 b3 b4 b5 v := box_set h 0 _
theorem BoxAt.s1 (h : BoxAt w k b0 b1 b2 b3 b4 b5 v) (n : Int) : BoxAt (w.setCell ⟨k, 1, none⟩ (.int .i64 n)) k b0 n b2 b3 b4 b5 v := box_set h 1 _
theorem BoxAt.s2 (h : BoxAt w k b0 b1 b2 b3 b4 b5 v) (n : Int) : BoxAt (w.setCell ⟨k, 2, none⟩ (.int .i64 n)) k b0 b1 n b3 b4 b5 v := box_set h 2 _
theorem BoxAt.s3 (h : BoxAt w k b0 b1 b2 b3 b4 b5 v) (n : Int) : BoxAt (w.setCell ⟨k, 3, none⟩ (.int .i64 n)) k b0 b1 b2 n b4 b5 v := box_set h 3 _
theorem BoxAt.s4 (h : BoxAt w k b0 b1 b2 b3 b4 b5 v) (n : Bool) : BoxAt (w.setCell ⟨k, 4, none⟩ (.bool n)) k b0 b1 b2 b3 n b5 v := box_set h 4 _
theorem BoxAt.s5 (h : BoxAt w k b0 b1 b2 b3 b4 b5 v) (n : Int) : BoxAt (w.setCell ⟨k, 5, none⟩ (.int .i64 n)) k b0 b1 b2 b3 b4 n v := box_set h 5 _
theorem BoxAt.s6 (h : BoxAt w k b0 b1 b2 b3 b4 b5 v) (u : Value) : BoxAt (w.setCell ⟨k, 6, none⟩ u) k b0 b1 b2 b3 b4 b5 u := box_set h 6 _
theorem BoxAt.off (h : BoxAt w k b0 b1 b2 b3 b4 b5 v) {j i : Nat} (hj : j ≠ k) (u : Value) : BoxAt (w.setCell ⟨j, i, none⟩ u) k b0 b1 b2 b3 b4 b5 v := box_off h hj u
theorem BoxAt.drew (h : BoxAt w k b0 b1 b2 b3 b4 b5 v) : BoxAt w.drew k b0 b1 b2 b3 b4 b5 v := h
end
theorem Byt.get {w : World} {ad : Option Addr} {len cap : Nat} {bs : List Nat} (h : Byt w ad len cap bs) (hp : 0 < len) : ∃ b off, ad = some ⟨b, off, none⟩ ∧ ∀ i, i < len → w.cell? ⟨b, off + i, none⟩ = some (.int .u8 (bs.getD i 0 : Nat)) := by
  rcases h.cells with h0 | h1
  · omega
  · exact h1
end Go.Proofs.YtmnjobiipfgpoaaGreat
namespace Go.Proofs.YtmnjobiipfgpoaaGreat
open Go.RowKit
open Go.BatMath hiding AllB getD_lt take_all
set_option linter.unusedVariables false

def recVals (l : List Rc) : List Value := l.flatMap fun r => [.string r.key, .string r.val]
theorem recVals_len : ∀ l : List Rc, (recVals l).length = l.length * 2
  | [] => rfl
  | r :: l => by rw [recVals, List.flatMap_cons, List.length_append]; have := recVals_len l; unfold recVals at this; rw [this]; simp; omega
theorem recVals_app (a b : List Rc) : recVals (a ++ b) = recVals a ++ recVals b := by simp [recVals]
theorem recVals_at : ∀ (l : List Rc) (i : Nat) (r : Rc), l[i]? = some r → (recVals l)[i * 2]? = some (.string r.key) ∧ (recVals l)[i * 2 + 1]? = some (.string r.val)
  | [], i, r, h => by cases h
  | x :: l, 0, r, h => by
    cases h
    exact ⟨rfl, rfl⟩
  | x :: l, i + 1, r, h => by
    have ih := recVals_at l i r h
    have e : recVals (x :: l) = .string x.key :: .string x.val :: recVals l := rfl
    rw [e, show (i + 1) * 2 = i * 2 + 1 + 1 by omega]
    exact ih
theorem recVals_one (l : List Rc) : ∀ u ∈ recVals l, u.oneCell' = true := by
  intro u hu
  obtain ⟨r, _, h⟩ := List.mem_flatMap.1 hu
  rcases List.mem_cons.1 h with rfl | h
  · rfl
  · rcases List.mem_cons.1 h with rfl | h
    · rfl
    · cases h
def OwnRecs (w : World) (base : Nat) (v : Value) (l : List Rc) : Prop := w.ownsRow base 60 2 v l.length (recVals l)
theorem ownRecs_nil (w : World) (base : Nat) : OwnRecs w base (.slice none 0 0) [] := World.ownsRow_nil w base 60 2
theorem OwnRecs.on {w w' : World} {base : Nat} {v : Value} {l : List Rc} (h : OwnRecs w base v l) (hb : Below w.heap.size w w') : OwnRecs w' base v l := by
  refine ⟨h.1, ?_⟩
  rcases h.2 with hn | ⟨g, cap, cur, rfl, hbg, hh, r⟩
  · exact .inl hn
  · exact .inr ⟨g, cap, cur, rfl, hbg, (hb.block g (lt_of_block hh)).trans hh, r⟩
/-- A cell of a block below the row is written. -/
theorem OwnRecs.set {w : World} {base k j : Nat} {u v : Value} {l : List Rc} (h : OwnRecs w base v l) (hk : k < base) : OwnRecs (w.setCell ⟨k, j, none⟩ u) base v l := by
  refine ⟨h.1, ?_⟩
  rcases h.2 with hn | ⟨g, cap, cur, rfl, hbg, hh, r⟩
  · exact .inl hn
  · exact .inr ⟨g, cap, cur, rfl, hbg, box_off hh (by omega) u, r⟩
theorem OwnRecs.at {w : World} {base : Nat} {v : Value} {l : List Rc} (h : OwnRecs w base v l) : ∃ ad cap, v = .slice ad l.length cap ∧ RecsAt w ad l.length cap l ∧ (∀ a, ad = some a → base ≤ a.block) := by
  rcases h.2 with ⟨hn, h0⟩ | ⟨g, cap, cur, rfl, hbg, hh, hc, _, _, ht⟩
  · have hl := List.eq_nil_of_length_eq_zero h0
    subst hl
    exact ⟨none, 0, hn, recsAt_nil w, fun a h => by cases h⟩
  · refine ⟨_, _, rfl, ⟨rfl, hc, (fun h => by cases h), .inr ⟨g, 0, rfl, lt_of_block hh, fun i r hi => ?_⟩⟩, fun a h => by cases h; exact hbg⟩
    have hil : i < l.length := (List.getElem?_eq_some_iff.1 hi).1
    obtain ⟨h1, h2⟩ := recVals_at l i r hi
    rw [← ht, List.getElem?_take, if_pos (by omega)] at h1 h2
    rw [Nat.zero_add]
    refine ⟨?_, ?_⟩
    · rw [cell_of_row w g _ _ _ _ hh]; simpa using h1
    · rw [cell_of_row w g _ _ _ _ hh]; simpa using h2
theorem infoRec : (Tryz.prog.info? 60).map (fun i => (i.zero, i.size, i.bytes)) = some (some (.agg #[.string ⟨#[]⟩, .string ⟨#[]⟩]), 2, 32) := by kernel_rfl
/-- What a block of records reads as, record by record. -/
def RecNews (w : World) (a : Addr) (l : List Rc) : Prop := ∀ j u, (recVals l)[j]? = some u → w.cell? (a.add j) = some u
theorem recNews_lit (w : World) (k s : ByteArray) (g : Nat) (hg : g = w.heap.size) : RecNews (w.alloc (.cells #[.string k, .string s] 60)) ⟨g, 0, none⟩ [⟨k, s⟩] := by
  subst hg
  intro j u hj
  rw [add_at, Nat.zero_add]
  have hh : (w.alloc (.cells #[.string k, .string s] 60)).heap[w.heap.size]? = some (.cells #[.string k, .string s] 60 (0, 0)) := heap_alloc_new w _
  rw [cell_of_row _ _ _ _ _ _ hh]
  simpa [recVals] using hj
theorem run_recs_append (w : World) (base : Nat) (v : Value) (l m : List Rc) (ty : Nat) (hown : OwnRecs w base v l) (ad : Addr) (cap : Nat) (hr : RecNews w ad m) (hn : l.length + m.length ≤ 1000000) (hbase : base ≤ w.heap.size) :
    ∃ v' w', (Builtin.append_ #[28, 28] ty #[v, .slice (some ad) m.length cap]).run Tryz.prog w = .ok v' w' ∧ OwnRecs w' base v' (l ++ m) ∧ w.grownBy w' v.ownBlock := by
  obtain ⟨i0, hi, hz0, hz1, hz2⟩ := info_parts infoRec
  obtain ⟨v', w', hrun, h2, h3, _⟩ := run_append_own (P := Tryz.prog) w base 28 ty 60 i0 (.agg #[.string ⟨#[]⟩, .string ⟨#[]⟩]) 2 32 Tryz.underlying28 hi hz0 hz1 hz2 rfl (by decide) v l.length (recVals l) hown ad m.length cap (recVals m) (recVals_len m) hr (recVals_one m) (by unfold maxLen; omega) (by omega) hbase
  refine ⟨v', w', hrun, ?_, h3⟩
  unfold OwnRecs
  rw [recVals_app, List.length_append]
  exact h2
theorem list_recs {w : World} {ops : Array Oper} {rest : List Oper} {o : Oper} {a : Act} {Q : Exit → Act → World → Prop} (hw : Region.wanted o (yielded ops a.tmps) = true) (s x : Operand)
    (ho : o.op = .call { callee := .builtin .append, args := #[s, x], argTypes := #[28, 28] })
    (base : Nat) (l m : List Rc) (v : Value) (hs : a.eval s = v) (hown : OwnRecs w base v l) (hbase : base ≤ w.heap.size)
    (ad : Addr) (n cap : Nat) (hnm : m.length = n) (hx : a.eval x = .slice (some ad) n cap) (hr : RecNews w ad m) (hn : l.length + n ≤ 1000000)
    (h : ∀ v' w', OwnRecs w' base v' (l ++ m) → w.grownBy w' v.ownBlock → wpList Tryz.prog ops Q rest (a.put o.dst v') w') :
    wpList Tryz.prog ops Q (o :: rest) a w := by
  subst hnm
  refine BigFrame.wpList_want hw fun K hK => ?_
  obtain ⟨v', w', hrun, h2, h3⟩ := run_recs_append w base v l m o.type hown ad cap hr hn hbase
  unfold Oper.wp execOp
  simp only [ho, resolve, invoke, builtin, Sem.run_bind, Sem.run_pure, Result.andThen_ok, List.map_toArray, List.map_cons, List.map_nil, hs, hx, hrun]
  exact hK _ _ (h v' w' h2 h3)
theorem BoxAt.grown {w w' : World} {k base : Nat} {b0 b1 b2 b3 : Int} {b4 : Bool} {b5 : Int} {u v : Value} {l : List Rc} (h : BoxAt w k b0 b1 b2 b3 b4 b5 u) (ho : OwnRecs w base v l) (hk : k < base) (hg : w.grownBy w' v.ownBlock) : BoxAt w' k b0 b1 b2 b3 b4 b5 u := by
  unfold BoxAt at *
  rw [hg.block k (lt_of_block h) (fun e => by have := (ho.lt k e.symm).1; omega)]
  exact h
theorem Below.recs {w0 w w' : World} {base B : Nat} {v : Value} {l : List Rc} (h : Below B w0 w) (ho : OwnRecs w base v l) (hB : B ≤ base) (hs : B ≤ w.heap.size) (hg : w.grownBy w' v.ownBlock) : Below B w0 w' :=
  h.grown hg hs (fun k hk => by have := (ho.lt k hk).1; omega)
/-- A cell of another block than the records' is written. -/
theorem RecsAt.put {w : World} {base j len cap : Nat} {ad : Option Addr} {l : List Rc} {u : Value} (h : RecsAt w ad len cap l) (hb : ∀ a, ad = some a → base < a.block) : RecsAt (w.setCell ⟨base, j, none⟩ u) ad len cap l := by
  refine ⟨h.length, h.fits, h.room, ?_⟩
  rcases h.cells with h0 | ⟨b, off, e, hlt, hc⟩
  · exact .inl h0
  · have hne : b ≠ base := by have := hb _ e; simp only at this; omega
    have hx : ∀ i, (w.setCell ⟨base, j, none⟩ u).cell? ⟨b, i, none⟩ = w.cell? ⟨b, i, none⟩ := fun i => World.cell?_of_block (a := ⟨b, i, none⟩) (by
      show (w.heap.modify base _)[b]? = _
      rw [Array.getElem?_modify, if_neg (Ne.symm hne)])
    refine .inr ⟨b, off, e, by simpa using hlt, fun i r hi => ?_⟩
    rw [hx, hx]
    exact hc i r hi
end Go.Proofs.YtmnjobiipfgpoaaGreat
namespace Go.Proofs.YtmnjobiipfgpoaaGreat
open Go.RowKit
open Go.SeqMath
open Go.BatMath hiding AllB getD_lt take_all
set_option linter.unusedVariables false

theorem RowAt.set {α : Type} {K : Kind α} {w : World} {k j len cap : Nat} {ad : Option Addr} {l : List α} {u : Value} (h : RowAt K w ad len cap l) (hb : len = 0 ∨ ∀ a, ad = some a → a.block ≠ k) : RowAt K (w.setCell ⟨k, j, none⟩ u) ad len cap l := by
  refine ⟨h.length, h.fits, h.room, ?_⟩
  rcases h.cells with h0 | ⟨b, off, e, hlt, hc⟩
  · exact .inl h0
  · rcases hb with h0 | hb
    · exact .inl h0
    have hne : b ≠ k := hb _ e
    refine .inr ⟨b, off, e, by simpa using hlt, fun i x hi m v hm => ?_⟩
    rw [World.cell?_of_block (a := ⟨b, off + (i * K.size + m), none⟩) (w := w) (by
      show (w.heap.modify k _)[b]? = _
      rw [Array.getElem?_modify, if_neg (Ne.symm hne)])]
    exact hc i x hi m v hm
def recK : Kind Rc := ⟨fun r => [.string r.key, .string r.val], 2, 60, 28⟩
theorem recK_ok : recK.Ok 32 where
  und := Tryz.underlying28
  info := by
    obtain ⟨i, hi, hz, hs, hb⟩ := info_parts infoRec
    exact ⟨i, _, hi, hz, hs, hb, rfl⟩
  len := fun _ => rfl
  pos := by decide
  one := fun r u hu => by
    simp only [recK, List.mem_cons, List.not_mem_nil, or_false] at hu
    rcases hu with rfl | rfl <;> rfl
  few := by decide
theorem recsAt_row {w : World} {ad : Option Addr} {len cap : Nat} {l : List Rc} : RecsAt w ad len cap l ↔ RowAt recK w ad len cap l := by
  constructor
  · intro h
    refine ⟨h.length, h.fits, h.room, ?_⟩
    rcases h.cells with h0 | ⟨b, off, e, hlt, hc⟩
    · exact .inl h0
    · refine .inr ⟨b, off, e, hlt, fun i x hi j u hj => ?_⟩
      obtain ⟨h1, h2⟩ := hc i x hi
      rcases j with _ | _ | j
      · cases hj; exact h1
      · cases hj; exact h2
      · simp [recK] at hj
  · intro h
    refine ⟨h.length, h.fits, h.room, ?_⟩
    rcases h.cells with h0 | ⟨b, off, e, hlt, hc⟩
    · exact .inl h0
    · exact .inr ⟨b, off, e, hlt, fun i x hi => ⟨hc i x hi 0 _ rfl, hc i x hi 1 _ rfl⟩⟩
end Go.Proofs.YtmnjobiipfgpoaaGreat
namespace Go.Proofs.YtmnjobiipfgpoaaGreat
open Go.RowKit
open Go.SeqMath
open Go.BatMath
set_option linter.unusedVariables false

theorem bel_drewN {B : Nat} {a w : World} (h : Below B a w) (n : Nat) : Below B a (w.drewN n) := h.trans ⟨rfl, rfl, rfl, Nat.le_refl _, fun _ _ => rfl⟩
def SaysB (r : Bool) (w : World) (e : Ending) (w' : World) : Prop := e = .returned (.bool r) ∧ Below w.heap.size w w'
theorem saysB_mk {r s : Bool} {w w' : World} (h : s = r) (hb : Below w.heap.size w w') : SaysB r w (.returned (.bool s)) w' := ⟨by rw [h], hb⟩
/-- What stands before round j of the loop over two lists of records. -/
def SameAt (w : World) (l m : List Rc) (v : Value) (wr : World) : Prop := ∃ j : Nat, j ≤ l.length ∧ v = .int .i64 j ∧ l.take j = m.take j ∧ Below w.heap.size w wr
theorem ba_toList_inj {s t : ByteArray} (h : s.toList = t.toList) : s = t := by
  rw [ByteArray.toList_eq, ByteArray.toList_eq] at h
  cases s; cases t
  simp only at h
  rw [Array.toList_inj.1 h]
theorem ba_ne {s t : ByteArray} (h : s ≠ t) : (s.toList == t.toList) = false := by
  rw [beq_eq_false_iff_ne]
  exact fun e => h (ba_toList_inj e)
theorem RecsAt.at {w W : World} {ad : Option Addr} {len cap : Nat} {l : List Rc} (h : RecsAt w ad len cap l) (hb : Below w.heap.size w W) (j : Nat) (hj : j < len) :
    ∃ bk off r, ad = some ⟨bk, off, none⟩ ∧ bk < w.heap.size ∧ l[j]? = some r ∧ W.cell? ⟨bk, off + j * 2, none⟩ = some (.string r.key) ∧ W.cell? ⟨bk, off + j * 2 + 1, none⟩ = some (.string r.val) := by
  have hl := h.length
  have hjl : j < l.length := by omega
  rcases h.cells with h0 | ⟨bk, off, e, hlt, hc⟩
  · omega
  · have hi : l[j]? = some (l[j]'hjl) := List.getElem?_eq_getElem hjl
    obtain ⟨h1, h2⟩ := hc j _ hi
    exact ⟨bk, off, _, e, hlt, hi, (hb.cell (p := ⟨bk, _, none⟩) hlt).trans h1, (hb.cell (p := ⟨bk, _, none⟩) hlt).trans h2⟩
theorem take_same {l m : List Rc} {j : Nat} {r : Rc} (h : l.take j = m.take j) (hl : l[j]? = some r) (hm : m[j]? = some r) : l.take (j + 1) = m.take (j + 1) := by
  obtain ⟨h1, e1⟩ := List.getElem?_eq_some_iff.1 hl
  obtain ⟨h2, e2⟩ := List.getElem?_eq_some_iff.1 hm
  rw [List.take_succ_eq_append_getElem h1, List.take_succ_eq_append_getElem h2, h, e1, e2]
set_option maxRecDepth 100000 in
set_option maxHeartbeats 1000000 in
theorem refRecs_any (w : World) (a1 a2 : Option Addr) (n1 n2 c1 c2 : Nat) (l1 l2 : List Rc) (h1 : RecsAt w a1 n1 c1 l1) (h2 : RecsAt w a2 n2 c2 l2) (hL : n1 ≤ 140737488355328) (r : Bool) (hr : r = true ↔ l1 = l2) :
    Calls Tryz.prog 51 #[.slice a1 n1 c1, .slice a2 n2 c2] w (SaysB r w) := by
  have q1 := h1.length
  have q2 := h2.length
  have H1 := Lib.hid h1
  have H2 := Lib.hid h2
  have HR := Lib.hid hr
  have Q1 := Lib.hid q1
  have Q2 := Lib.hid q2
  clear h1 h2 hr q1 q2
  by_cases hn : n1 = n2
  · subst hn
    go_enter Tryz.func51, Tryz.ntmps51
    go_wp2_with fail
    go_loopw [13] (fun v13 wr => SameAt w l1 l2 v13 wr) (fun v13 _ => n1 - (intOf v13).toNat)
    case atStart => exact ⟨0, Nat.zero_le _, rfl, rfl, Below.refl _ _⟩
    case round =>
      obtain ⟨j, hj, rfl, htk, hbel⟩ := hrel
      have HBEL := Lib.hid hbel
      have HTK := Lib.hid htk
      rw [Q1.out] at hj
      clear hbel htk
      by_cases hlt : j < n1
      · obtain ⟨b1, o1, r1, rfl, hb1, hi1, hk1, hv1⟩ := H1.out.at HBEL.out j hlt
        obtain ⟨b2, o2, r2, rfl, hb2, hi2, hk2, hv2⟩ := H2.out.at HBEL.out j hlt
        have HI1 := Lib.hid hi1
        have HI2 := Lib.hid hi2
        clear hi1 hi2
        by_cases he : r1 = r2
        · subst he
          obtain ⟨k1, v1⟩ := r1
          simp only at hk1 hv1 hk2 hv2
          have HLE : Hid (j + 1 ≤ l1.length) := by show _ ≤ _; rw [Q1.out]; exact hlt
          have HT2 := Lib.hid (take_same HTK.out HI1.out HI2.out)
          go_wp2_with fail
          go_quiet (fail)
          go_wp2
          go_roundw
          case rel => exact ⟨j + 1, HLE.out, by go_num, HT2.out, bel_drewN HBEL.out _⟩
          case measure => simp [intOf]; omega
        · have HE : Hid (r1 ≠ r2) := he
          obtain ⟨k1, v1⟩ := r1
          obtain ⟨k2, v2⟩ := r2
          simp only at hk1 hv1 hk2 hv2
          have hfin : Hid (false = r) := by
            show false = r
            cases r
            · rfl
            · have e := HR.out.1 rfl
              have a := HI1.out
              rw [e, HI2.out] at a
              exact absurd (Option.some.inj a).symm HE.out
          by_cases hk : k1 = k2
          · subst hk
            have hv : v1 ≠ v2 := fun e => he (by rw [e])
            have hvv := ba_ne hv
            clear he hv
            go_wp2_with fail
            go_quiet (fail)
            go_wp2
            go_ret
            exact saysB_mk hfin.out (bel_drewN HBEL.out _)
          · have hkk := ba_ne hk
            clear he hk
            go_wp2_with fail
            go_quiet (fail)
            go_wp2
            go_ret
            exact saysB_mk hfin.out (bel_drewN HBEL.out _)
      · obtain rfl : j = n1 := by omega
        have hfin : Hid (true = r) := by
          show true = r
          have := HTK.out
          rw [List.take_of_length_le (by rw [Q1.out]; exact Nat.le_refl _), List.take_of_length_le (by rw [Q2.out]; exact Nat.le_refl _)] at this
          exact (HR.out.2 this).symm
        go_wp2
        go_ret
        exact saysB_mk hfin.out HBEL.out
  · have hn1 : ((n1 : Int) != (n2 : Int)) = true := by simp; omega
    have hfin : Hid (false = r) := by
      show false = r
      cases r
      · rfl
      · have e := HR.out.1 rfl
        exact absurd (by rw [← Q1.out, ← Q2.out, e]) hn
    go_enter Tryz.func51, Tryz.ntmps51
    go_wp2
    go_ret
    exact saysB_mk hfin.out (Below.refl _ _)
set_option maxRecDepth 100000 in
set_option maxHeartbeats 1000000 in
theorem refSame_any (w : World) (x y : Bat) (ad1 ad2 : Option Addr) (n1 n2 c1 c2 : Nat) (h1 : RecsAt w ad1 n1 c1 x.recs) (h2 : RecsAt w ad2 n2 c2 y.recs) (hL : n1 ≤ 140737488355328) (r : Bool) (hr : r = true ↔ x = y) :
    Calls Tryz.prog 33 #[.agg #[.int .i64 x.base, .int .i64 x.prod, .int .i64 x.epoch, .int .i64 x.seq, .bool x.txn, .int .i64 x.marker, .slice ad1 n1 c1], .agg #[.int .i64 y.base, .int .i64 y.prod, .int .i64 y.epoch, .int .i64 y.seq, .bool y.txn, .int .i64 y.marker, .slice ad2 n2 c2]] w (SaysB r w) := by
  have HF : Hid (x ≠ y → false = r) := by
    intro h
    cases r
    · rfl
    · exact absurd (hr.1 rfl) h
  obtain ⟨a0, a1, a2, a3, a4, a5, l1⟩ := x
  obtain ⟨b0, b1, b2, b3, b4, b5, l2⟩ := y
  simp only at h1 h2 ⊢
  have H1 := Lib.hid h1
  have H2 := Lib.hid h2
  have HR := Lib.hid hr
  have HBB : ∀ {p q r s t u v p' q' r' s' t' u' v' : Value}, Hid (Below w.heap.size w ((w.alloc (.cells #[p, q, r, s, t, u, v] 30)).alloc (.cells #[p', q', r', s', t', u', v'] 30))) := ((Below.refl _ _).alloc (Nat.le_refl _) _).alloc (by simp) _
  clear h1 h2 hr
  by_cases h0 : a0 = b0
  · subst h0
    by_cases h1 : a1 = b1
    · subst h1
      by_cases h2 : a2 = b2
      · subst h2
        by_cases h3 : a3 = b3
        · subst h3
          by_cases h4 : a4 = b4
          · subst h4
            by_cases h5 : a5 = b5
            · subst h5
              have hrr : Hid (r = true ↔ l1 = l2) := by
                show r = true ↔ l1 = l2
                rw [HR.out]
                exact ⟨fun h => by have := congrArg Bat.recs h; exact this, fun h => by rw [h]⟩
              cases a4
              all_goals
                go_enter Tryz.func33, Tryz.ntmps33
                go_wp2_with fail
                refine (refRecs_any _ _ _ _ _ _ _ l1 l2 (H1.out.keep (HBB.out)) (H2.out.keep (HBB.out)) hL r hrr.out).mono ?_
                rintro e w1 ⟨rfl, hb⟩
                have HB1 := Lib.hid (HBB.out.trans (hb.mono HBB.out.size))
                clear hb
                go_wp2
                go_ret
                exact saysB_mk rfl HB1.out
            · have e5 : (a5 == b5) = false := by simpa using h5
              have hfin : Hid (false = r) := HF.out (fun h => h5 (by have := congrArg Bat.marker h; exact this))
              clear h5
              cases a4
              all_goals
                go_enter Tryz.func33, Tryz.ntmps33
                go_wp2
                go_ret
                exact saysB_mk hfin.out HBB.out
          · have hfin : Hid (false = r) := HF.out (fun h => h4 (by have := congrArg Bat.txn h; exact this))
            cases a4
            · cases b4
              · exact absurd rfl h4
              · go_enter Tryz.func33, Tryz.ntmps33
                go_wp2
                go_ret
                exact saysB_mk hfin.out HBB.out
            · cases b4
              · go_enter Tryz.func33, Tryz.ntmps33
                go_wp2
                go_ret
                exact saysB_mk hfin.out HBB.out
              · exact absurd rfl h4
        · have e3 : (a3 == b3) = false := by simpa using h3
          have hfin : Hid (false = r) := HF.out (fun h => h3 (by have := congrArg Bat.seq h; exact this))
          clear h3
          go_enter Tryz.func33, Tryz.ntmps33
          go_wp2
          go_ret
          exact saysB_mk hfin.out HBB.out
      · have e2 : (a2 == b2) = false := by simpa using h2
        have hfin : Hid (false = r) := HF.out (fun h => h2 (by have := congrArg Bat.epoch h; exact this))
        clear h2
        go_enter Tryz.func33, Tryz.ntmps33
        go_wp2
        go_ret
        exact saysB_mk hfin.out HBB.out
    · have e1 : (a1 == b1) = false := by simpa using h1
      have hfin : Hid (false = r) := HF.out (fun h => h1 (by have := congrArg Bat.prod h; exact this))
      clear h1
      go_enter Tryz.func33, Tryz.ntmps33
      go_wp2
      go_ret
      exact saysB_mk hfin.out HBB.out
  · have e0 : (a0 == b0) = false := by simpa using h0
    have hfin : Hid (false = r) := HF.out (fun h => h0 (by have := congrArg Bat.base h; exact this))
    clear h0
    go_enter Tryz.func33, Tryz.ntmps33
    go_wp2
    go_ret
    exact saysB_mk hfin.out HBB.out
end Go.Proofs.YtmnjobiipfgpoaaGreat
