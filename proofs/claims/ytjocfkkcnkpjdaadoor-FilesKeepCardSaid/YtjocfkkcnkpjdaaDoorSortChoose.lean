/- The library's sort.Slice with a 'less' that may make memory: its choice of a pivot, whole. -/
import Derived.Test.YtjocfkkcnkpjdaaDoorSortPivot
namespace Go.Proofs.YtjocfkkcnkpjdaaDoor
open Go.RowKit Go.Sort
set_option linter.unusedVariables false

section
variable {α : Type} [Inhabited α] {lt : α → α → Bool} {g : Nat} {lb : Array Value} {sf : Nat} {sb : Array Value} {blk b0 B : Nat} {I : Array α → World → Prop} {W w' : World}
def hintOf (s : Nat) : Hint := if s = 0 then .increasing else if s = 12 then .decreasing else .unknown
def PEnds (I : Array α → World → Prop) (d : Array α) (r : Nat × Hint) (W : World) (e : Ending) (w' : World) : Prop := e = .returned (.tuple #[.int .i64 (r.1 : Int), .int .i64 (hintCode r.2)]) ∧ I d w' ∧ Below W.heap.size W w'
omit [Inhabited α] in
theorem pends {d : Array α} {r : Nat × Hint} {p : Nat} {s : Nat} (hr : r = (p, hintOf s)) {z : Int} (hz : z = hintCode (hintOf s)) (hi : I d w') (hb : Below W.heap.size W w') : PEnds I d r W (.returned (.tuple #[.int .i64 (p : Int), .int .i64 z])) w' := by
  subst hr
  exact ⟨by rw [hz], hi, hb⟩
theorem hint0 : (1 : Int) = hintCode (hintOf 0) := rfl
theorem hint12 : (2 : Int) = hintCode (hintOf 12) := rfl
theorem hintx {s : Nat} (h0 : s ≠ 0) (h12 : s ≠ 12) : (0 : Int) = hintCode (hintOf s) := by unfold hintOf; rw [if_neg h0, if_neg h12]; rfl
theorem counted_below {w w1 w2 : World} {kc : Nat} (h1 : Below w.heap.size w w1) (hg : w1.grownBy w2 (some kc)) (hk : w.heap.size ≤ kc) : Below w.heap.size w w2 := ⟨hg.os.trans h1.os, hg.tape.trans h1.tape, hg.output.trans h1.output, Nat.le_trans h1.size hg.size, fun j hj => (hg.block j (Nat.lt_of_lt_of_le hj h1.size) fun e => by have := Option.some.inj e; omega).trans (h1.block j hj)⟩
set_option maxHeartbeats 8000000 in
set_option maxRecDepth 100000 in
theorem choosePivot_any (S : SortOps lt g lb sf sb blk b0 I) (d : Array α) (w : World) (h : I d w) (a b : Nat) (hab : a < b) (hb : b ≤ d.size) :
    Calls Tryd.prog 76 #[lessSwap g lb sf sb, .int .i64 (a : Int), .int .i64 (b : Int)] w (PEnds I d (choosePivot lt d a b) w) := by
  have hd := (S.row d w h).2
  have hold := (S.old d w h).1
  obtain ⟨B0, hB0⟩ : ∃ B, B = w.heap.size := ⟨_, rfl⟩
  obtain ⟨N, hN⟩ : ∃ N, d.size = N := ⟨_, rfl⟩
  rw [hN] at hb hd
  have HI0 : Hid (∀ W, Below w.heap.size w W → I d W) := fun W hW => S.on d w W h hW
  have HBLK := Lib.hid (S.row d w h).1
  have HN := Lib.hid hN
  obtain ⟨l, hl⟩ : ∃ l, l = b - a := ⟨_, rfl⟩
  have hlI : (b : Int) - (a : Int) = (l : Int) := by omega
  obtain ⟨i, hi⟩ : ∃ i, i = a + l / 4 * 1 := ⟨_, rfl⟩
  obtain ⟨j, hj⟩ : ∃ j, j = a + l / 4 * 2 := ⟨_, rfl⟩
  obtain ⟨k, hk⟩ : ∃ k, k = a + l / 4 * 3 := ⟨_, rfl⟩
  have hiI : (a : Int) + (l : Int) / 4 = (i : Int) := by omega
  have hjI : (a : Int) + (l : Int) / 4 * 2 = (j : Int) := by omega
  have hkI : (a : Int) + (l : Int) / 4 * 3 = (k : Int) := by omega
  have HP : Hid (choosePivot lt d a b = ((if l ≥ 8 then (if l ≥ 50 then (let ri := medianAdjacent lt d i 0; let rj := medianAdjacent lt d j ri.2; let rk := medianAdjacent lt d k rj.2; median lt d ri.1 rj.1 rk.1 rk.2) else median lt d i j k 0) else (j, 0)).1, hintOf (if l ≥ 8 then (if l ≥ 50 then (let ri := medianAdjacent lt d i 0; let rj := medianAdjacent lt d j ri.2; let rk := medianAdjacent lt d k rj.2; median lt d ri.1 rj.1 rk.1 rk.2) else median lt d i j k 0) else (j, 0)).2)) := by
    show _ = _
    unfold choosePivot hintOf
    rw [hi, hj, hk, hl]
  have h8i : 8 ≤ l → 1 ≤ i ∧ i + 1 < N ∧ 1 ≤ j ∧ j + 1 < N ∧ 1 ≤ k ∧ k + 1 < N := by omega
  have hjN : j < N := by omega
  clear hN hl hi hj hk h
  unfold lessSwap
  go_enter Tryd.func76, Tryd.ntmps76
  by_cases h8 : 8 ≤ l
  · have hd8 : decide (8 ≤ (l : Int)) = true := decide_eq_true (by omega)
    obtain ⟨i1, i2, j1, j2, k1, k2⟩ := h8i h8
    by_cases h50 : 50 ≤ l
    · have hd50 : decide (50 ≤ (l : Int)) = true := decide_eq_true (by omega)
      go_upto_if 32 with (fail)
      obtain ⟨w1, hw1⟩ : ∃ x, x = (w.alloc (.cells #[.func (.func g) #[] lb, .func (.func sf) #[] sb] 89)).alloc (.cells #[.int .i64 0] 3) := ⟨_, rfl⟩
      have hbe1 : Below w.heap.size w (w.alloc (.cells #[.func (.func g) #[] lb, .func (.func sf) #[] sb] 89)) := (Below.refl _ w).alloc (Nat.le_refl _) _
      have hbe2 : Below (w.alloc (.cells #[.func (.func g) #[] lb, .func (.func sf) #[] sb] 89)).heap.size (w.alloc (.cells #[.func (.func g) #[] lb, .func (.func sf) #[] sb] 89)) w1 := by rw [hw1]; exact (Below.refl _ _).alloc (Nat.le_refl _) _
      have HBE1 := Lib.hid (hbe1.trans (hbe2.mono hbe1.size))
      have HB1 : Hid (SBox w1 w.heap.size g lb sf sb blk) := SBox.on ⟨heap_alloc_new w _, by have := HBLK.out; omega⟩ hbe2
      obtain ⟨kc, hkc⟩ : ∃ k, k = w.heap.size + 1 := ⟨_, rfl⟩
      have HC1 : Hid (Cnt w1 kc ((0 : Nat) : Int)) := by
        show Cnt _ _ _
        have e : (w.alloc (.cells #[.func (.func g) #[] lb, .func (.func sf) #[] sb] 89)).heap.size = kc := by rw [hkc]; simp
        rw [hw1, ← e]
        exact heap_alloc_new _ _
      have hk0 : b0 ≤ kc := by omega
      have hk1 : w.heap.size ≤ kc := by omega
      have hne : B0 ≠ kc := by omega
      have HI1 := Lib.hid (HI0.out w1 HBE1.out)
      rw [← hw1, ← hkc, ← hB0]
      rw [← hB0] at HB1
      have c0 := HB1.out.c0
      have c1 := HB1.out.c1
      clear hw1 hkc hbe1 hbe2 hB0
      obtain ⟨ra, hr2⟩ : ∃ r, medianAdjacent lt d i 0 = r := ⟨_, rfl⟩
      have hin2 := median_in lt d (i - 1) i (i + 1) 0 N (by omega) (by omega) (by omega)
      change (medianAdjacent lt d i 0).1 < N ∧ (medianAdjacent lt d i 0).2 ≤ 0 + 3 at hin2
      rw [hr2] at hin2
      obtain ⟨p2, s2⟩ := ra
      simp only at hin2
      go_wp2_with fail
      refine (medianAdjacent_any S d w1 HI1.out i kc 0 (by omega) (by rw [HN.out]; omega) HC1.out hk0 (by omega)).mono ?_
      rintro e w2 ⟨rfl, hi2, hc2, hg2⟩
      rw [hr2]
      rw [hr2] at hc2
      simp only at hc2
      have HR2 := Lib.hid hr2
      have HI2 := Lib.hid hi2
      have HC2 := Lib.hid hc2
      have HB2 := Lib.hid (HB1.out.counted hne hg2)
      have HBE2 := Lib.hid (counted_below HBE1.out hg2 hk1)
      clear hi2 hc2 hg2 hr2 c0 c1
      have c0 := HB2.out.c0
      have c1 := HB2.out.c1
      obtain ⟨rb, hr3⟩ : ∃ r, medianAdjacent lt d j s2 = r := ⟨_, rfl⟩
      have hin3 := median_in lt d (j - 1) j (j + 1) s2 N (by omega) (by omega) (by omega)
      change (medianAdjacent lt d j s2).1 < N ∧ (medianAdjacent lt d j s2).2 ≤ s2 + 3 at hin3
      rw [hr3] at hin3
      obtain ⟨p3, s3⟩ := rb
      simp only at hin3
      go_wp2_with fail
      refine (medianAdjacent_any S d w2 HI2.out j kc s2 (by omega) (by rw [HN.out]; omega) HC2.out hk0 (by omega)).mono ?_
      rintro e w3 ⟨rfl, hi3, hc3, hg3⟩
      rw [hr3]
      rw [hr3] at hc3
      simp only at hc3
      have HR3 := Lib.hid hr3
      have HI3 := Lib.hid hi3
      have HC3 := Lib.hid hc3
      have HB3 := Lib.hid (HB2.out.counted hne hg3)
      have HBE3 := Lib.hid (counted_below HBE2.out hg3 hk1)
      clear hi3 hc3 hg3 hr3 c0 c1
      have c0 := HB3.out.c0
      have c1 := HB3.out.c1
      obtain ⟨rc, hr4⟩ : ∃ r, medianAdjacent lt d k s3 = r := ⟨_, rfl⟩
      have hin4 := median_in lt d (k - 1) k (k + 1) s3 N (by omega) (by omega) (by omega)
      change (medianAdjacent lt d k s3).1 < N ∧ (medianAdjacent lt d k s3).2 ≤ s3 + 3 at hin4
      rw [hr4] at hin4
      obtain ⟨p4, s4⟩ := rc
      simp only at hin4
      go_wp2_with fail
      refine (medianAdjacent_any S d w3 HI3.out k kc s3 (by omega) (by rw [HN.out]; omega) HC3.out hk0 (by omega)).mono ?_
      rintro e w4 ⟨rfl, hi4, hc4, hg4⟩
      rw [hr4]
      rw [hr4] at hc4
      simp only at hc4
      have HR4 := Lib.hid hr4
      have HI4 := Lib.hid hi4
      have HC4 := Lib.hid hc4
      have HB4 := Lib.hid (HB3.out.counted hne hg4)
      have HBE4 := Lib.hid (counted_below HBE3.out hg4 hk1)
      clear hi4 hc4 hg4 hr4 c0 c1
      have c0 := HB4.out.c0
      have c1 := HB4.out.c1
      obtain ⟨rr, hr5⟩ : ∃ r, median lt d p2 p3 p4 s4 = r := ⟨_, rfl⟩
      obtain ⟨p5, s5⟩ := rr
      go_wp2_with fail
      refine (median_any S d w4 HI4.out p2 p3 p4 kc s4 (by rw [HN.out]; omega) (by rw [HN.out]; omega) (by rw [HN.out]; omega) HC4.out hk0 (by omega)).mono ?_
      rintro e w5 ⟨rfl, hi5, hc5, hg5⟩
      rw [hr5]
      rw [hr5] at hc5
      simp only at hc5
      have HR5 := Lib.hid hr5
      have HI5 := Lib.hid hi5
      have HC5 := Lib.hid hc5
      have HBE5 := Lib.hid (counted_below HBE4.out hg5 hk1)
      clear hi5 hc5 hg5 hr5 c0 c1
      have HC := HC5
      clear HC5
      have HPP : Hid (choosePivot lt d a b = (p5, hintOf s5)) := by
        show _ = _
        rw [HP.out, if_pos (by omega), if_pos (by omega)]
        (try simp only)
        rw [HR2.out]
        (try simp only)
        rw [HR3.out]
        (try simp only)
        rw [HR4.out]
        (try simp only)
        rw [HR5.out]
      by_cases hs0 : s5 = 0
      · rw [hs0] at HPP HC
        have k0 := HC.out.c0
        rw [show ((0 : Nat) : Int) = 0 from rfl] at k0
        clear hs0
        go_wp2
        go_ret2
        exact pends HPP.out hint0 HI5.out HBE5.out
      · by_cases hs12 : s5 = 12
        · rw [hs12] at HPP HC
          have k0 := HC.out.c0
          rw [show ((12 : Nat) : Int) = 12 from rfl] at k0
          clear hs0 hs12
          go_wp2
          go_ret2
          exact pends HPP.out hint12 HI5.out HBE5.out
        · have k0 := HC.out.c0
          have e0 : ((s5 : Int) == 0) = false := beq_false_of_ne (by omega)
          have e12 : ((s5 : Int) == 12) = false := beq_false_of_ne (by omega)
          have HX := Lib.hid (hintx hs0 hs12)
          clear hs0 hs12
          go_wp2
          go_ret2
          exact pends HPP.out HX.out HI5.out HBE5.out
    · have hd50 : decide (50 ≤ (l : Int)) = false := decide_eq_false (by omega)
      go_upto_if 32 with (fail)
      obtain ⟨w1, hw1⟩ : ∃ x, x = (w.alloc (.cells #[.func (.func g) #[] lb, .func (.func sf) #[] sb] 89)).alloc (.cells #[.int .i64 0] 3) := ⟨_, rfl⟩
      have hbe1 : Below w.heap.size w (w.alloc (.cells #[.func (.func g) #[] lb, .func (.func sf) #[] sb] 89)) := (Below.refl _ w).alloc (Nat.le_refl _) _
      have hbe2 : Below (w.alloc (.cells #[.func (.func g) #[] lb, .func (.func sf) #[] sb] 89)).heap.size (w.alloc (.cells #[.func (.func g) #[] lb, .func (.func sf) #[] sb] 89)) w1 := by rw [hw1]; exact (Below.refl _ _).alloc (Nat.le_refl _) _
      have HBE1 := Lib.hid (hbe1.trans (hbe2.mono hbe1.size))
      have HB1 : Hid (SBox w1 w.heap.size g lb sf sb blk) := SBox.on ⟨heap_alloc_new w _, by have := HBLK.out; omega⟩ hbe2
      obtain ⟨kc, hkc⟩ : ∃ k, k = w.heap.size + 1 := ⟨_, rfl⟩
      have HC1 : Hid (Cnt w1 kc ((0 : Nat) : Int)) := by
        show Cnt _ _ _
        have e : (w.alloc (.cells #[.func (.func g) #[] lb, .func (.func sf) #[] sb] 89)).heap.size = kc := by rw [hkc]; simp
        rw [hw1, ← e]
        exact heap_alloc_new _ _
      have hk0 : b0 ≤ kc := by omega
      have hk1 : w.heap.size ≤ kc := by omega
      have hne : B0 ≠ kc := by omega
      have HI1 := Lib.hid (HI0.out w1 HBE1.out)
      rw [← hw1, ← hkc, ← hB0]
      rw [← hB0] at HB1
      have c0 := HB1.out.c0
      have c1 := HB1.out.c1
      clear hw1 hkc hbe1 hbe2 hB0
      obtain ⟨rr, hr2⟩ : ∃ r, median lt d i j k 0 = r := ⟨_, rfl⟩
      obtain ⟨p2, s2⟩ := rr
      go_wp2_with fail
      refine (median_any S d w1 HI1.out i j k kc 0 (by rw [HN.out]; omega) (by rw [HN.out]; omega) (by rw [HN.out]; omega) HC1.out hk0 (by omega)).mono ?_
      rintro e w2 ⟨rfl, hi2, hc2, hg2⟩
      rw [hr2]
      rw [hr2] at hc2
      simp only at hc2
      have HR2 := Lib.hid hr2
      have HI2 := Lib.hid hi2
      have HC2 := Lib.hid hc2
      have HBE2 := Lib.hid (counted_below HBE1.out hg2 hk1)
      clear hi2 hc2 hg2 hr2 c0 c1
      have HC := HC2
      clear HC2
      have HPP : Hid (choosePivot lt d a b = (p2, hintOf s2)) := by
        show _ = _
        rw [HP.out, if_pos (by omega), if_neg (by omega), HR2.out]
      by_cases hs0 : s2 = 0
      · rw [hs0] at HPP HC
        have k0 := HC.out.c0
        rw [show ((0 : Nat) : Int) = 0 from rfl] at k0
        clear hs0
        go_wp2
        go_ret2
        exact pends HPP.out hint0 HI2.out HBE2.out
      · by_cases hs12 : s2 = 12
        · rw [hs12] at HPP HC
          have k0 := HC.out.c0
          rw [show ((12 : Nat) : Int) = 12 from rfl] at k0
          clear hs0 hs12
          go_wp2
          go_ret2
          exact pends HPP.out hint12 HI2.out HBE2.out
        · have k0 := HC.out.c0
          have e0 : ((s2 : Int) == 0) = false := beq_false_of_ne (by omega)
          have e12 : ((s2 : Int) == 12) = false := beq_false_of_ne (by omega)
          have HX := Lib.hid (hintx hs0 hs12)
          clear hs0 hs12
          go_wp2
          go_ret2
          exact pends HPP.out HX.out HI2.out HBE2.out
  · have hd8 : decide (8 ≤ (l : Int)) = false := decide_eq_false (by omega)
    go_upto_if 32 with (fail)
    obtain ⟨w1, hw1⟩ : ∃ x, x = (w.alloc (.cells #[.func (.func g) #[] lb, .func (.func sf) #[] sb] 89)).alloc (.cells #[.int .i64 0] 3) := ⟨_, rfl⟩
    have hbe1 : Below w.heap.size w (w.alloc (.cells #[.func (.func g) #[] lb, .func (.func sf) #[] sb] 89)) := (Below.refl _ w).alloc (Nat.le_refl _) _
    have hbe2 : Below (w.alloc (.cells #[.func (.func g) #[] lb, .func (.func sf) #[] sb] 89)).heap.size (w.alloc (.cells #[.func (.func g) #[] lb, .func (.func sf) #[] sb] 89)) w1 := by rw [hw1]; exact (Below.refl _ _).alloc (Nat.le_refl _) _
    have HBE1 := Lib.hid (hbe1.trans (hbe2.mono hbe1.size))
    have HB1 : Hid (SBox w1 w.heap.size g lb sf sb blk) := SBox.on ⟨heap_alloc_new w _, by have := HBLK.out; omega⟩ hbe2
    obtain ⟨kc, hkc⟩ : ∃ k, k = w.heap.size + 1 := ⟨_, rfl⟩
    have HC1 : Hid (Cnt w1 kc ((0 : Nat) : Int)) := by
      show Cnt _ _ _
      have e : (w.alloc (.cells #[.func (.func g) #[] lb, .func (.func sf) #[] sb] 89)).heap.size = kc := by rw [hkc]; simp
      rw [hw1, ← e]
      exact heap_alloc_new _ _
    have hk0 : b0 ≤ kc := by omega
    have hk1 : w.heap.size ≤ kc := by omega
    have hne : B0 ≠ kc := by omega
    have HI1 := Lib.hid (HI0.out w1 HBE1.out)
    rw [← hw1, ← hkc, ← hB0]
    rw [← hB0] at HB1
    have c0 := HB1.out.c0
    have c1 := HB1.out.c1
    clear hw1 hkc hbe1 hbe2 hB0
    have HC := HC1
    clear HC1
    have HPP : Hid (choosePivot lt d a b = (j, hintOf 0)) := by
      show _ = _
      rw [HP.out, if_neg (by omega)]
    have k0 := HC.out.c0
    rw [show ((0 : Nat) : Int) = 0 from rfl] at k0
    go_wp2
    go_ret2
    exact pends HPP.out hint0 HI1.out HBE1.out
end
end Go.Proofs.YtjocfkkcnkpjdaaDoor
