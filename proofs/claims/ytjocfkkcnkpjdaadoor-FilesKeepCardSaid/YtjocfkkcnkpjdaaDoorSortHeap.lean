/- The library's sort.Slice with a 'less' that may make memory: its heap sort. -/
import Derived.Test.YtjocfkkcnkpjdaaDoorSortOps
import Derived.Sort.WalkB3
namespace Go.Proofs.YtjocfkkcnkpjdaaDoor
open Go.RowKit Go.Sort
set_option linter.unusedVariables false

section
variable {α : Type} [Inhabited α] {lt : α → α → Bool} {g : Nat} {lb : Array Value} {sf : Nat} {sb : Array Value} {blk b0 B : Nat} {I : Array α → World → Prop} {W w' : World}
def childOf (lt : α → α → Bool) (hi first root : Nat) (d : Array α) : Nat := if 2 * root + 1 + 1 < hi && lt d[first + (2 * root + 1)]! d[first + (2 * root + 1) + 1]! then 2 * root + 2 else 2 * root + 1
theorem sift_end (hi first root : Nat) (d : Array α) (h : hi ≤ 2 * root + 1) : siftDown lt hi first root d = d := by
  rw [siftDown]
  rw [dif_pos h]
theorem sift_step (hi first root : Nat) (d : Array α) (h : ¬ hi ≤ 2 * root + 1) : siftDown lt hi first root d = if lt d[first + root]! d[first + childOf lt hi first root d]! = false then d else siftDown lt hi first (childOf lt hi first root d) (swp d (first + root) (first + childOf lt hi first root d)) := by
  conv => lhs; rw [siftDown]
  rw [dif_neg h]
  unfold childOf
  by_cases hc : (2 * root + 1 + 1 < hi && lt d[first + (2 * root + 1)]! d[first + (2 * root + 1) + 1]!) = true
  · rw [if_pos hc]
    simp only [hc, if_true]
    have h2 : 2 * root + 2 < hi := by simp at hc; omega
    rw [dif_pos h2]
    cases lt d[first + root]! d[first + (2 * root + 2)]! <;> simp
  · rw [if_neg hc]
    rw [Bool.not_eq_true] at hc
    simp only [hc, Bool.false_eq_true, if_false]
    cases lt d[first + root]! d[first + (2 * root + 1)]! <;> simp
set_option maxHeartbeats 8000000 in
set_option maxRecDepth 100000 in
theorem siftDown_any (S : SortOps lt g lb sf sb blk b0 I) (d : Array α) (w : World) (h : I d w) (lo hi first : Nat) (hlo : lo ≤ hi) (hb : first + hi ≤ d.size) :
    Calls Tryd.prog 83 #[lessSwap g lb sf sb, .int .i64 (lo : Int), .int .i64 (hi : Int), .int .i64 (first : Int)] w (SEnds I blk (siftDown lt hi first lo d) w) := by
  have hd := (S.row d w h).2
  have eg := S.enters
  obtain ⟨N, hN⟩ : ∃ N, d.size = N := ⟨_, rfl⟩
  rw [hN] at hb hd
  have HB1 : Hid (SBox (w.alloc (.cells #[.func (.func g) #[] lb, .func (.func sf) #[] sb] 89)) w.heap.size g lb sf sb blk) := ⟨heap_alloc_new w _, by have := (S.row d w h).1; omega⟩
  have HI1 : Hid (I d (w.alloc (.cells #[.func (.func g) #[] lb, .func (.func sf) #[] sb] 89))) := S.on d w _ h ((Below.refl _ w).alloc (Nat.le_refl _) _)
  have HG1 : Hid (w.grownBy (w.alloc (.cells #[.func (.func g) #[] lb, .func (.func sf) #[] sb] 89)) (some blk)) := grow_alloc (grow_refl w _) _
  have HN := Lib.hid hN
  clear h hN
  unfold lessSwap
  go_enter Tryd.func83, Tryd.ntmps83
  go_wp2
  obtain ⟨k, hk⟩ : ∃ k, k = w.heap.size := ⟨_, rfl⟩
  rw [← hk]
  rw [← hk] at HB1
  clear hk
  go_loopw [8] (fun v8 wr => ∃ (r : Nat) (dk : Array α), v8 = .int .i64 (r : Int) ∧ r ≤ hi ∧ Hid (dk.size = N) ∧ Hid (I dk wr) ∧ Hid (w.grownBy wr (some blk)) ∧ Hid (SBox wr k g lb sf sb blk) ∧ Hid (siftDown lt hi first r dk = siftDown lt hi first lo d)) (fun v8 _ => hi - (intOf v8).toNat)
  case atStart => exact ⟨lo, d, rfl, hlo, HN.out, HI1.out, HG1.out, HB1.out, rfl⟩
  case round =>
    obtain ⟨r, dk, rfl, hrh, HS, HI, HG, HB, HO⟩ := hrel
    obtain ⟨w1, hw1⟩ : ∃ x : World, x = wr := ⟨_, rfl⟩
    subst hw1
    have c0 := HB.out.c0
    by_cases hend : hi ≤ 2 * r + 1
    · have hde : decide ((hi : Int) ≤ 2 * (r : Int) + 1) = true := decide_eq_true (by omega)
      have HE0 := Lib.hid (sift_end (lt := lt) hi first r dk hend)
      go_wp2
      go_end0
      have e : siftDown lt hi first lo d = dk := by rw [← HO.out, HE0.out]
      exact ⟨rfl, by rw [e]; exact HI.out, HG.out⟩
    · have hde : decide ((hi : Int) ≤ 2 * (r : Int) + 1) = false := decide_eq_false (by omega)
      obtain ⟨c, hc⟩ : ∃ c, childOf lt hi first r dk = c := ⟨_, rfl⟩
      have hst := sift_step (lt := lt) hi first r dk hend
      rw [hc] at hst
      have HST := Lib.hid hst
      have hdN : dk.size = N := HS.out
      unfold childOf at hc
      clear hst
      by_cases hc1 : 2 * r + 1 + 1 < hi
      · have hdc : decide (2 * (r : Int) + 1 + 1 < (hi : Int)) = true := decide_eq_true (by omega)
        obtain ⟨q1, hq1⟩ : ∃ q, lt dk[first + (2 * r + 1)]! dk[first + (2 * r + 1) + 1]! = q := ⟨_, rfl⟩
        have hl1 := S.less dk w1 (first + (2 * r + 1)) (first + (2 * r + 1) + 1) HI.out (by omega) (by omega)
        rw [show ((first + (2 * r + 1) + 1 : Nat) : Int) = (first : Int) + (2 * (r : Int) + 1) + 1 by omega] at hl1
        rw [show ((first + (2 * r + 1) : Nat) : Int) = (first : Int) + (2 * (r : Int) + 1) by omega] at hl1
        rw [hq1] at hl1
        have HL1 := Lib.hid hl1
        clear hl1
        have HDN := Lib.hid hdN
        clear hdN
        cases q1
        · have hcc : c = 2 * r + 1 := by rw [← hc, hq1]; simp
          subst hcc
          clear hc hq1
          go_wp2_with fail
          refine HL1.out.mono ?_
          rintro e w3 ⟨rfl, hb2⟩
          have HE2 := Lib.hid hb2
          clear hb2
          have HI3 := Lib.hid (S.on dk w1 w3 HI.out HE2.out)
          have HG3 := Lib.hid (grow_below HG.out HE2.out)
          have HB3 := Lib.hid (HB.out.on HE2.out)
          have d0 := HB3.out.c0
          clear c0
          obtain ⟨q2, hq2⟩ : ∃ q, lt dk[first + r]! dk[first + (2 * r + 1)]! = q := ⟨_, rfl⟩
          have hdN := HDN.out
          have hl3 := S.less dk w3 (first + r) (first + (2 * r + 1)) HI3.out (by omega) (by omega)
          rw [show ((first + r : Nat) : Int) = (first : Int) + (r : Int) by omega] at hl3
          rw [show ((first + (2 * r + 1) : Nat) : Int) = (first : Int) + (2 * (r : Int) + 1) by omega] at hl3
          rw [hq2] at hl3
          have HL3 := Lib.hid hl3
          clear hl3
          clear hdN
          cases q2
          · skip
            have hs2 := HST.out
            rw [if_pos hq2] at hs2
            have HS2 := Lib.hid hs2
            clear hs2 hq2
            go_wp2_with fail
            refine HL3.out.mono ?_
            rintro e w5 ⟨rfl, hb4⟩
            have HE4 := Lib.hid hb4
            clear hb4
            go_wp2
            go_end0
            have e : siftDown lt hi first lo d = dk := by rw [← HO.out, HS2.out]
            exact ⟨rfl, by rw [e]; exact S.on dk w3 w5 HI3.out HE4.out, grow_below HG3.out HE4.out⟩
          · skip
            have hs2 := HST.out
            rw [if_neg (by rw [hq2]; decide)] at hs2
            have HS2 := Lib.hid hs2
            clear hs2 hq2
            go_wp2_with fail
            refine HL3.out.mono ?_
            rintro e w5 ⟨rfl, hb5⟩
            have HE5 := Lib.hid hb5
            clear hb5
            have HI5 := S.on dk w3 w5 HI3.out HE5.out
            have HB5 := (HB3.out).on HE5.out
            obtain ⟨w6, hrun, hi6, hg6⟩ := S.swap dk w5 (first + r) (first + (2 * r + 1)) HI5 (by rw [HDN.out]; omega) (by rw [HDN.out]; omega)
            rw [show ((first + r : Nat) : Int) = (first : Int) + (r : Int) by omega, show ((first + (2 * r + 1) : Nat) : Int) = (first : Int) + (2 * (r : Int) + 1) by omega] at hrun
            have HI6 := Lib.hid hi6
            have HG6 := Lib.hid (grow_trans (grow_below HG3.out HE5.out) hg6)
            have HB6 := Lib.hid (HB5.grown hg6)
            have d1 := HB5.c1
            clear hi6 hg6 HI5 HB5
            go_wp2
            go_roundw
            case rel => exact ⟨2 * r + 1, swp dk (first + r) (first + (2 * r + 1)), by go_num, by omega, by show _ = _; rw [size_swp]; exact HDN.out, HI6.out, HG6.out, HB6.out, by show _ = _; rw [← HS2.out]; exact HO.out⟩
            case measure => simp [intOf]; omega
        · have hcc : c = 2 * r + 2 := by rw [← hc, hq1]; simp [hc1]
          subst hcc
          clear hc hq1
          go_wp2_with fail
          refine HL1.out.mono ?_
          rintro e w3 ⟨rfl, hb2⟩
          have HE2 := Lib.hid hb2
          clear hb2
          have HI3 := Lib.hid (S.on dk w1 w3 HI.out HE2.out)
          have HG3 := Lib.hid (grow_below HG.out HE2.out)
          have HB3 := Lib.hid (HB.out.on HE2.out)
          have d0 := HB3.out.c0
          clear c0
          obtain ⟨q2, hq2⟩ : ∃ q, lt dk[first + r]! dk[first + (2 * r + 2)]! = q := ⟨_, rfl⟩
          have hdN := HDN.out
          have hl6 := S.less dk w3 (first + r) (first + (2 * r + 2)) HI3.out (by omega) (by omega)
          rw [show ((first + r : Nat) : Int) = (first : Int) + (r : Int) by omega] at hl6
          rw [show ((first + (2 * r + 2) : Nat) : Int) = (first : Int) + (2 * (r : Int) + 1 + 1) by omega] at hl6
          rw [hq2] at hl6
          have HL6 := Lib.hid hl6
          clear hl6
          clear hdN
          cases q2
          · skip
            have hs2 := HST.out
            rw [if_pos hq2] at hs2
            have HS2 := Lib.hid hs2
            clear hs2 hq2
            go_wp2_with fail
            refine HL6.out.mono ?_
            rintro e w5 ⟨rfl, hb7⟩
            have HE7 := Lib.hid hb7
            clear hb7
            go_wp2
            go_end0
            have e : siftDown lt hi first lo d = dk := by rw [← HO.out, HS2.out]
            exact ⟨rfl, by rw [e]; exact S.on dk w3 w5 HI3.out HE7.out, grow_below HG3.out HE7.out⟩
          · skip
            have hs2 := HST.out
            rw [if_neg (by rw [hq2]; decide)] at hs2
            have HS2 := Lib.hid hs2
            clear hs2 hq2
            go_wp2_with fail
            refine HL6.out.mono ?_
            rintro e w5 ⟨rfl, hb8⟩
            have HE8 := Lib.hid hb8
            clear hb8
            have HI5 := S.on dk w3 w5 HI3.out HE8.out
            have HB5 := (HB3.out).on HE8.out
            obtain ⟨w6, hrun, hi6, hg6⟩ := S.swap dk w5 (first + r) (first + (2 * r + 2)) HI5 (by rw [HDN.out]; omega) (by rw [HDN.out]; omega)
            rw [show ((first + r : Nat) : Int) = (first : Int) + (r : Int) by omega, show ((first + (2 * r + 2) : Nat) : Int) = (first : Int) + (2 * (r : Int) + 1 + 1) by omega] at hrun
            have HI6 := Lib.hid hi6
            have HG6 := Lib.hid (grow_trans (grow_below HG3.out HE8.out) hg6)
            have HB6 := Lib.hid (HB5.grown hg6)
            have d1 := HB5.c1
            clear hi6 hg6 HI5 HB5
            go_wp2
            go_roundw
            case rel => exact ⟨2 * r + 2, swp dk (first + r) (first + (2 * r + 2)), by go_num, by omega, by show _ = _; rw [size_swp]; exact HDN.out, HI6.out, HG6.out, HB6.out, by show _ = _; rw [← HS2.out]; exact HO.out⟩
            case measure => simp [intOf]; omega
      · have hdc : decide (2 * (r : Int) + 1 + 1 < (hi : Int)) = false := decide_eq_false (by omega)
        have hcc : c = 2 * r + 1 := by rw [← hc]; simp [hc1]
        subst hcc
        have HDN := Lib.hid hdN
        clear hc hdN
        obtain ⟨q2, hq2⟩ : ∃ q, lt dk[first + r]! dk[first + (2 * r + 1)]! = q := ⟨_, rfl⟩
        have hdN := HDN.out
        have hl9 := S.less dk w1 (first + r) (first + (2 * r + 1)) HI.out (by omega) (by omega)
        rw [show ((first + r : Nat) : Int) = (first : Int) + (r : Int) by omega] at hl9
        rw [show ((first + (2 * r + 1) : Nat) : Int) = (first : Int) + (2 * (r : Int) + 1) by omega] at hl9
        rw [hq2] at hl9
        have HL9 := Lib.hid hl9
        clear hl9
        clear hdN
        cases q2
        · skip
          have hs2 := HST.out
          rw [if_pos hq2] at hs2
          have HS2 := Lib.hid hs2
          clear hs2 hq2
          go_wp2_with fail
          refine HL9.out.mono ?_
          rintro e w5 ⟨rfl, hb10⟩
          have HE10 := Lib.hid hb10
          clear hb10
          go_wp2
          go_end0
          have e : siftDown lt hi first lo d = dk := by rw [← HO.out, HS2.out]
          exact ⟨rfl, by rw [e]; exact S.on dk w1 w5 HI.out HE10.out, grow_below HG.out HE10.out⟩
        · skip
          have hs2 := HST.out
          rw [if_neg (by rw [hq2]; decide)] at hs2
          have HS2 := Lib.hid hs2
          clear hs2 hq2
          go_wp2_with fail
          refine HL9.out.mono ?_
          rintro e w5 ⟨rfl, hb11⟩
          have HE11 := Lib.hid hb11
          clear hb11
          have HI5 := S.on dk w1 w5 HI.out HE11.out
          have HB5 := (HB.out).on HE11.out
          obtain ⟨w6, hrun, hi6, hg6⟩ := S.swap dk w5 (first + r) (first + (2 * r + 1)) HI5 (by rw [HDN.out]; omega) (by rw [HDN.out]; omega)
          rw [show ((first + r : Nat) : Int) = (first : Int) + (r : Int) by omega, show ((first + (2 * r + 1) : Nat) : Int) = (first : Int) + (2 * (r : Int) + 1) by omega] at hrun
          have HI6 := Lib.hid hi6
          have HG6 := Lib.hid (grow_trans (grow_below HG.out HE11.out) hg6)
          have HB6 := Lib.hid (HB5.grown hg6)
          have d1 := HB5.c1
          clear hi6 hg6 HI5 HB5
          go_wp2
          go_roundw
          case rel => exact ⟨2 * r + 1, swp dk (first + r) (first + (2 * r + 1)), by go_num, by omega, by show _ = _; rw [size_swp]; exact HDN.out, HI6.out, HG6.out, HB6.out, by show _ = _; rw [← HS2.out]; exact HO.out⟩
          case measure => simp [intOf]; omega
set_option maxHeartbeats 8000000 in
set_option maxRecDepth 100000 in
theorem heapSort_any (S : SortOps lt g lb sf sb blk b0 I) (d : Array α) (w : World) (h : I d w) (a b : Nat) (hab : a ≤ b) (hb : b ≤ d.size) :
    Calls Tryd.prog 74 #[lessSwap g lb sf sb, .int .i64 (a : Int), .int .i64 (b : Int)] w (SEnds I blk (heapSort lt d a b) w) := by
  have hd := (S.row d w h).2
  have eg := S.enters
  obtain ⟨N, hN⟩ : ∃ N, d.size = N := ⟨_, rfl⟩
  rw [hN] at hb hd
  have HB1 : Hid (SBox (w.alloc (.cells #[.func (.func g) #[] lb, .func (.func sf) #[] sb] 89)) w.heap.size g lb sf sb blk) := ⟨heap_alloc_new w _, by have := (S.row d w h).1; omega⟩
  have HI1 : Hid (I d (w.alloc (.cells #[.func (.func g) #[] lb, .func (.func sf) #[] sb] 89))) := S.on d w _ h ((Below.refl _ w).alloc (Nat.le_refl _) _)
  have HG1 : Hid (w.grownBy (w.alloc (.cells #[.func (.func g) #[] lb, .func (.func sf) #[] sb] 89)) (some blk)) := grow_alloc (grow_refl w _) _
  have HN := Lib.hid hN
  have hq : ((b : Int) - (a : Int) - 1).tdiv 2 = ((((b - a - 1) / 2 : Nat) : Int)) ∨ (b = a ∧ ((b : Int) - (a : Int) - 1).tdiv 2 = 0) := by
    by_cases e : b = a
    · right
      exact ⟨e, by subst e; simp⟩
    · left
      rw [show (b : Int) - (a : Int) - 1 = ((b - a - 1 : Nat) : Int) by omega]
      exact Int.ofNat_tdiv _ _ |>.symm
  have hq2 : ((b : Int) - (a : Int) - 1).tdiv 2 = ((((b - a - 1) / 2 : Nat) : Int)) := by
    rcases hq with h1 | ⟨h1, h2⟩
    · exact h1
    · rw [h2, h1]; simp
  clear h hN hq
  unfold lessSwap
  go_enter Tryd.func74, Tryd.ntmps74
  go_wp2
  obtain ⟨k, hk⟩ : ∃ k, k = w.heap.size := ⟨_, rfl⟩
  rw [← hk]
  rw [← hk] at HB1
  clear hk hq2
  obtain ⟨M, hM⟩ : ∃ M, M = (b - a - 1) / 2 + 1 := ⟨_, rfl⟩
  have hMI : (((b - a - 1 : Nat) : Int)) / 2 = (M : Int) - 1 := by omega
  rw [hMI]
  have hMb : M ≤ b - a + 1 := by omega
  have hhi : (b : Int) - (a : Int) = ((b - a : Nat) : Int) := by omega
  have hHI := Lib.hid hhi
  rw [hhi]
  obtain ⟨hi, hhi2⟩ : ∃ hi, hi = b - a := ⟨_, rfl⟩
  have hbi : b = a + hi := by omega
  rw [← hhi2]
  have HM := Lib.hid hM
  have HH2 := Lib.hid hhi2
  rw [← hhi2] at hMb
  have hahi : a + hi ≤ N := by omega
  clear hMI hhi hHI hM hhi2 hbi
  go_loopw [9] (fun v9 wr => ∃ (n : Nat) (dk : Array α), v9 = .int .i64 ((n : Int) - 1) ∧ n ≤ M ∧ Hid (dk.size = N) ∧ Hid (I dk wr) ∧ Hid (w.grownBy wr (some blk)) ∧ Hid (SBox wr k g lb sf sb blk) ∧ Hid (heapBuild lt hi a n dk = heapBuild lt hi a M d)) (fun v9 _ => (intOf v9 + 1).toNat)
  case atStart => exact ⟨M, d, rfl, Nat.le_refl _, HN.out, HI1.out, HG1.out, HB1.out, rfl⟩
  case round =>
    obtain ⟨n, dk, rfl, hnM, HS, HI, HG, HB, HO⟩ := hrel
    obtain ⟨w1, hw1⟩ : ∃ x : World, x = wr := ⟨_, rfl⟩
    subst hw1
    have c0 := HB.out.c0
    have c1 := HB.out.c1
    by_cases hn0 : n = 0
    · subst hn0
      rw [show ((0 : Nat) : Int) - 1 = -1 from rfl]
      have hE : heapBuild lt hi a 0 dk = dk := rfl
      have HE0 := Lib.hid hE
      clear hE
      go_wp2
      go_loopw [10] (fun v10 wr => ∃ (m : Nat) (dj : Array α), v10 = .int .i64 ((m : Int) - 1) ∧ m ≤ hi ∧ Hid (dj.size = N) ∧ Hid (I dj wr) ∧ Hid (w.grownBy wr (some blk)) ∧ Hid (SBox wr k g lb sf sb blk) ∧ Hid (heapPop lt a m dj = heapPop lt a hi dk)) (fun v10 _ => (intOf v10 + 1).toNat)
      case atStart => exact ⟨hi, dk, rfl, Nat.le_refl _, HS.out, HI.out, HG.out, HB.out, rfl⟩
      case round =>
        obtain ⟨m, dj, rfl, hmh, HSJ, HIJ, HGJ, HBJ, HOJ⟩ := hrel
        obtain ⟨w2, hw2⟩ : ∃ x : World, x = wr := ⟨_, rfl⟩
        subst hw2
        have d0 := HBJ.out.c0
        have d1 := HBJ.out.c1
        clear c0 c1
        by_cases hm0 : m = 0
        · subst hm0
          go_wp2
          go_end0
          have e : heapSort lt d a b = dj := by
            unfold heapSort
            rw [← HH2.out, ← show M = (hi - 1) / 2 + 1 by rw [HM.out, HH2.out], ← HO.out, HE0.out, ← HOJ.out]
            rfl
          exact ⟨rfl, by rw [e]; exact HIJ.out, HGJ.out⟩
        · have hdm : decide (0 ≤ (m : Int) - 1) = true := decide_eq_true (by omega)
          obtain ⟨p, rfl⟩ : ∃ p, m = p + 1 := ⟨m - 1, by omega⟩
          rw [show ((p + 1 : Nat) : Int) - 1 = (p : Int) by omega] at hdm ⊢
          obtain ⟨w3, hrun, hi3, hg3⟩ := S.swap dj w2 a (a + p) HIJ.out (by rw [HSJ.out]; omega) (by rw [HSJ.out]; omega)
          rw [show ((a + p : Nat) : Int) = (a : Int) + (p : Int) by omega] at hrun
          have HI3 := Lib.hid hi3
          have HG3 := Lib.hid (grow_trans HGJ.out hg3)
          have HB3 := Lib.hid (HBJ.out.grown hg3)
          have f0 := HB3.out.c0
          have f1 := HB3.out.c1
          have HS3 : Hid ((swp dj a (a + p)).size = N) := by show _ = _; rw [size_swp]; exact HSJ.out
          clear hi3 hg3
          go_wp2_with fail
          refine (siftDown_any S (swp dj a (a + p)) w3 HI3.out 0 p a (Nat.zero_le _) (by rw [HS3.out]; omega)).mono ?_
          rintro e w4 ⟨rfl, hi4, hg4⟩
          have HI4 := Lib.hid hi4
          have HG4 := Lib.hid (grow_trans HG3.out hg4)
          have HB4 := Lib.hid (HB3.out.grown hg4)
          clear hi4 hg4
          go_wp2
          go_roundw
          case rel => exact ⟨p, siftDown lt p a 0 (swp dj a (a + p)), by go_num, by omega, by show _ = _; rw [size_siftDown lt p a p 0 _ (by omega)]; exact HS3.out, HI4.out, HG4.out, HB4.out, by show _ = _; rw [← HOJ.out]; rfl⟩
          case measure => first | (simp [intOf]; done) | (simp [intOf]; omega)
    · have hdn : decide (0 ≤ (n : Int) - 1) = true := decide_eq_true (by omega)
      obtain ⟨p, rfl⟩ : ∃ p, n = p + 1 := ⟨n - 1, by omega⟩
      rw [show ((p + 1 : Nat) : Int) - 1 = (p : Int) by omega] at hdn ⊢
      go_wp2_with fail
      refine (siftDown_any S dk w1 HI.out p hi a (by omega) (by rw [HS.out]; omega)).mono ?_
      rintro e w4 ⟨rfl, hi4, hg4⟩
      have HI4 := Lib.hid hi4
      have HG4 := Lib.hid (grow_trans HG.out hg4)
      have HB4 := Lib.hid (HB.out.grown hg4)
      clear hi4 hg4
      go_wp2
      go_roundw
      case rel => exact ⟨p, siftDown lt hi a p dk, by go_num, by omega, by show _ = _; rw [size_siftDown lt hi a hi p _ (by omega)]; exact HS.out, HI4.out, HG4.out, HB4.out, by show _ = _; rw [← HO.out]; rfl⟩
      case measure => first | (simp [intOf]; done) | (simp [intOf]; omega)
end
end Go.Proofs.YtjocfkkcnkpjdaaDoor
