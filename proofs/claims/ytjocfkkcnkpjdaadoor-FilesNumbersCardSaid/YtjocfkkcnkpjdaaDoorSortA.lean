/- The library's sort.Slice with a 'less' that may make memory: what is asked of 'less' and of 'swap', told by a predicate on worlds; its insertion sort. The library's sort.Slice with a 'less' that may make memory: its heap sort. The library's sort.Slice with a 'less' that may make memory: its choice of a pivot. The library's sort.Slice with a 'less' that may make memory: its choice of a pivot, whole. -/
import Derived.Test.YtjocfkkcnkpjdaaDoorGrow
import Derived.Sort.WalkA
import Derived.BigGuard
import Derived.Lib.Hide
import Derived.Sort.WalkB3
import Derived.Sort.Walk13
import Derived.Laws.ResultCell
/-! The library's sort.Slice with a 'less' that may make memory: what is asked of 'less' and of 'swap', told by a predicate on worlds; its insertion sort. -/
namespace Go.Proofs.YtjocfkkcnkpjdaaDoor
open Go.RowKit Go.Sort
set_option linter.unusedVariables false

/-- I d W: in the world W what is sorted holds d. -/
structure SortOps {α : Type} [Inhabited α] (lt : α → α → Bool) (g : Nat) (lb : Array Value) (sf : Nat) (sb : Array Value) (blk b0 : Nat) (I : Array α → World → Prop) : Prop where
  enters : ∀ args w, (callFunc g args).run Tryd.prog w = .ok (.enter g args) w
  less : ∀ (d : Array α) W (i j : Nat), I d W → i < d.size → j < d.size → Calls Tryd.prog g (#[.int .i64 (i : Int), .int .i64 (j : Int)] ++ lb) W fun e w' => e = .returned (.bool (lt d[i]! d[j]!)) ∧ Below W.heap.size W w'
  swap : ∀ (d : Array α) W (i j : Nat), I d W → i < d.size → j < d.size → ∃ w', (callFunc sf (#[.int .i64 (i : Int), .int .i64 (j : Int)] ++ sb)).run Tryd.prog W = .ok (.value (.tuple #[])) w' ∧ I (swp d i j) w' ∧ W.grownBy w' (some blk)
  on : ∀ (d : Array α) W w', I d W → Below W.heap.size W w' → I d w'
  row : ∀ (d : Array α) W, I d W → blk < W.heap.size ∧ d.size ≤ 1000000
  off : ∀ (d : Array α) W w' (k : Nat), I d W → W.grownBy w' (some k) → b0 ≤ k → I d w'
  old : ∀ (d : Array α) W, I d W → b0 ≤ W.heap.size ∧ blk < b0
/-- The pair of functions, as a value. -/
def lessSwap (g : Nat) (lb : Array Value) (sf : Nat) (sb : Array Value) : Value := .agg #[.func (.func g) #[] lb, .func (.func sf) #[] sb]
/-- The same in a box of a function's own. -/
def SBox (W : World) (B g : Nat) (lb : Array Value) (sf : Nat) (sb : Array Value) (blk : Nat) : Prop := W.heap[B]? = some (.cells #[.func (.func g) #[] lb, .func (.func sf) #[] sb] 89 (0, 0)) ∧ B ≠ blk
section
variable {α : Type} [Inhabited α] {lt : α → α → Bool} {g : Nat} {lb : Array Value} {sf : Nat} {sb : Array Value} {blk b0 B : Nat} {I : Array α → World → Prop} {W w' : World}
theorem SBox.c0 (h : SBox W B g lb sf sb blk) : W.cell? ⟨B, 0, none⟩ = some (.func (.func g) #[] lb) := by rw [cell_of_row _ _ 0 _ _ _ h.1]; rfl
theorem SBox.c1 (h : SBox W B g lb sf sb blk) : W.cell? ⟨B, 1, none⟩ = some (.func (.func sf) #[] sb) := by rw [cell_of_row _ _ 1 _ _ _ h.1]; rfl
theorem SBox.old (h : SBox W B g lb sf sb blk) : B < W.heap.size := lt_of_block h.1
theorem SBox.on (h : SBox W B g lb sf sb blk) (hb : Below W.heap.size W w') : SBox w' B g lb sf sb blk := ⟨(hb.block B h.old).trans h.1, h.2⟩
theorem SBox.grown (h : SBox W B g lb sf sb blk) (hg : W.grownBy w' (some blk)) : SBox w' B g lb sf sb blk := ⟨(hg.block B h.old fun e => h.2 (Option.some.inj e)).trans h.1, h.2⟩
/-- What each of them gives. -/
def SEnds (I : Array α → World → Prop) (blk : Nat) (d : Array α) (W : World) (e : Ending) (w' : World) : Prop := e = .returned (.tuple #[]) ∧ I d w' ∧ W.grownBy w' (some blk)
theorem ins_size (lt : α → α → Bool) (a : Nat) : ∀ (j : Nat) (d : Array α), (insInner lt a j d).size = d.size
  | 0, d => by rw [insInner]
  | j + 1, d => by
    rw [insInner]
    split
    · rw [ins_size lt a j, size_swp]
    · rfl
set_option maxHeartbeats 4000000 in
set_option maxRecDepth 100000 in
theorem insertion_any (S : SortOps lt g lb sf sb blk b0 I) (d : Array α) (w : World) (h : I d w) (a b : Nat) (hab : a ≤ b) (hb : b ≤ d.size) :
    Calls Tryd.prog 73 #[lessSwap g lb sf sb, .int .i64 (a : Int), .int .i64 (b : Int)] w (SEnds I blk (Sort.insertionSort lt d a b) w) := by
  have hd := (S.row d w h).2
  have eg := S.enters
  obtain ⟨N, hN⟩ : ∃ N, d.size = N := ⟨_, rfl⟩
  rw [hN] at hb hd
  have HB1 : Hid (SBox (w.alloc (.cells #[.func (.func g) #[] lb, .func (.func sf) #[] sb] 89)) w.heap.size g lb sf sb blk) := ⟨heap_alloc_new w _, by have := (S.row d w h).1; omega⟩
  have HI1 : Hid (I d (w.alloc (.cells #[.func (.func g) #[] lb, .func (.func sf) #[] sb] 89))) := S.on d w _ h ((Below.refl _ w).alloc (Nat.le_refl _) _)
  have HG1 : Hid (w.grownBy (w.alloc (.cells #[.func (.func g) #[] lb, .func (.func sf) #[] sb] 89)) (some blk)) := grow_alloc (grow_refl w _) _
  have HN := Lib.hid hN
  clear h hN
  unfold lessSwap
  go_enter Tryd.func73, Tryd.ntmps73
  go_wp2
  obtain ⟨k, hk⟩ : ∃ k, k = w.heap.size := ⟨_, rfl⟩
  rw [← hk]
  rw [← hk] at HB1
  clear hk
  go_loopw [6] (fun vi wr => ∃ (i : Nat) (dk : Array α), vi = .int .i64 (i : Int) ∧ a < i ∧ i ≤ b + 1 ∧ Hid (dk.size = N) ∧ Hid (I dk wr) ∧ Hid (w.grownBy wr (some blk)) ∧ Hid (SBox wr k g lb sf sb blk) ∧ Hid (insOuter lt a b i dk = insOuter lt a b (a + 1) d)) (fun vi _ => b + 1 - (intOf vi).toNat)
  case atStart => exact ⟨a + 1, d, by go_num, by omega, by omega, HN.out, HI1.out, HG1.out, HB1.out, rfl⟩
  case round =>
    obtain ⟨i, dk, rfl, hai, hib, HS, HI, HG, HB, HO⟩ := hrel
    obtain ⟨w1, hw1⟩ : ∃ x : World, x = wr := ⟨_, rfl⟩
    subst hw1
    by_cases hib2 : i < b
    · have hdi : decide ((i : Int) < (b : Int)) = true := decide_eq_true (by omega)
      go_wp2
      go_loopw [7] (fun vj wr => ∃ (j : Nat) (dj : Array α), vj = .int .i64 (j : Int) ∧ a ≤ j ∧ j ≤ i ∧ Hid (dj.size = N) ∧ Hid (I dj wr) ∧ Hid (w.grownBy wr (some blk)) ∧ Hid (SBox wr k g lb sf sb blk) ∧ Hid (insInner lt a j dj = insInner lt a i dk)) (fun vj _ => (intOf vj).toNat)
      case atStart => exact ⟨i, dk, rfl, by omega, Nat.le_refl _, HS.out, HI.out, HG.out, HB.out, rfl⟩
      case round =>
        obtain ⟨j, dj, rfl, haj, hji, HSJ, HIJ, HGJ, HBJ, HOJ⟩ := hrel
        obtain ⟨w2, hw2⟩ : ∃ x : World, x = wr := ⟨_, rfl⟩
        subst hw2
        have c0 := HBJ.out.c0
        by_cases hja : a < j
        · have hdj : decide ((a : Int) < (j : Int)) = true := decide_eq_true (by omega)
          have hjN : j < dj.size := by rw [HSJ.out]; omega
          have hl0 := S.less dj w2 j (j - 1) HIJ.out hjN (by omega)
          rw [show (((j - 1 : Nat) : Int)) = (j : Int) - 1 by omega] at hl0
          obtain ⟨q, hq⟩ : ∃ q, lt dj[j]! dj[j - 1]! = q := ⟨_, rfl⟩
          rw [hq] at hl0
          have HL := Lib.hid hl0
          clear hl0
          cases q
          · have HST := Lib.hid (insInner_stop lt a j dj (.inr hq))
            clear hq
            go_wp2_with fail
            refine HL.out.mono ?_
            rintro e w3 ⟨rfl, hb3⟩
            have HE := Lib.hid hb3
            clear hb3 HL
            go_wp2
            go_roundw
            case rel =>
              have hb3 := HE.out
              exact ⟨i + 1, dj, by go_num, by omega, by omega, HSJ.out, S.on dj w2 w3 HIJ.out hb3, grow_below HGJ.out hb3, HBJ.out.on hb3, by show _ = _; rw [← HO.out, insOuter_go lt a b i dk hib2, ← HOJ.out, HST.out]⟩
            case measure => simp [intOf]; omega
          · have HST := Lib.hid (insInner_go lt a j dj hja hq)
            clear hq
            go_wp2_with fail
            refine HL.out.mono ?_
            rintro e w3 ⟨rfl, hb3⟩
            have HE := Lib.hid hb3
            clear hb3 HL
            have hb3 := HE.out
            have HI3 := S.on dj w2 w3 HIJ.out hb3
            have HB3 := HBJ.out.on hb3
            obtain ⟨w4, hrun, hi4, hg4⟩ := S.swap dj w3 j (j - 1) HI3 hjN (by omega)
            rw [show (((j - 1 : Nat) : Int)) = (j : Int) - 1 by omega] at hrun
            have HI4 := Lib.hid hi4
            have HG4 := Lib.hid (grow_trans (grow_below HGJ.out hb3) hg4)
            have HB4 := Lib.hid (HB3.grown hg4)
            have c1 := HB3.c1
            clear hi4 hg4 hb3 HI3 HB3
            go_wp2
            go_roundw
            case rel =>
              exact ⟨j - 1, swp dj j (j - 1), by go_num, by omega, by omega, by show _ = _; rw [size_swp]; exact HSJ.out, HI4.out, HG4.out, HB4.out, by show _ = _; rw [← HST.out]; exact HOJ.out⟩
            case measure => simp [intOf]; omega
        · have hdj : decide ((a : Int) < (j : Int)) = false := decide_eq_false (by omega)
          have HST := Lib.hid (insInner_stop lt a j dj (.inl (by omega)))
          go_wp2
          go_roundw
          case rel =>
            exact ⟨i + 1, dj, by go_num, by omega, by omega, HSJ.out, HIJ.out, HGJ.out, HBJ.out, by show _ = _; rw [← HO.out, insOuter_go lt a b i dk hib2, ← HOJ.out, HST.out]⟩
          case measure => simp [intOf]; omega
    · have hdi : decide ((i : Int) < (b : Int)) = false := decide_eq_false (by omega)
      go_wp2
      go_end0
      have e : Sort.insertionSort lt d a b = dk := by unfold Sort.insertionSort; rw [← HO.out, insOuter_stop lt a b i dk hib2]
      exact ⟨rfl, by rw [e]; exact HI.out, HG.out⟩
end
end Go.Proofs.YtjocfkkcnkpjdaaDoor

/-! The library's sort.Slice with a 'less' that may make memory: its heap sort. -/
namespace Go.Proofs.YtjocfkkcnkpjdaaDoor
open Go.RowKit Go.Sort
set_option linter.unusedVariables false

section
variable {α : Type} [Inhabited α] {lt : α → α → Bool} {g : Nat} {lb : Array Value} {sf : Nat} {sb : Array Value} {blk b0 B : Nat} {I : Array α → World → Prop} {W w' : World}
def childOf (lt : α → α → Bool) (hi first root : Nat) (d : Array α) : Nat := if 2 * root + 1 + 1 < hi && lt d[first + (2 * root + 1)]! d[first + (2 * root + 1) + 1]! then 2 * root + 2 else 2 * root + 1
theorem sift_end (hi first root : Nat) (d : Array α) (h : hi ≤ 2 * root + 1) : siftDown lt hi first root d = d := by
  rw [siftDown]
  rw [dif_pos h]
theorem sift_step (hi first root : Nat) (d : Array α) (h : ¬ hi ≤ 2 * root + 1) : siftDown lt hi first root d = if lt d[first + root]! d[first + childOf lt hi first root d]! = false then d else siftDown lt hi first (childOf lt hi first root d) (swp d (first + root) (first + childOf lt hi first root d)) := by
  conv => lhs; rw [siftDown]
  rw [dif_neg h]
  unfold childOf
  by_cases hc : (2 * root + 1 + 1 < hi && lt d[first + (2 * root + 1)]! d[first + (2 * root + 1) + 1]!) = true
  · rw [if_pos hc]
    simp only [hc, if_true]
    have h2 : 2 * root + 2 < hi := by simp at hc; omega
    rw [dif_pos h2]
    cases lt d[first + root]! d[first + (2 * root + 2)]! <;> simp
  · rw [if_neg hc]
    rw [Bool.not_eq_true] at hc
    simp only [hc, Bool.false_eq_true, if_false]
    cases lt d[first + root]! d[first + (2 * root + 1)]! <;> simp
set_option maxHeartbeats 8000000 in
set_option maxRecDepth 100000 in
theorem siftDown_any (S : SortOps lt g lb sf sb blk b0 I) (d : Array α) (w : World) (h : I d w) (lo hi first : Nat) (hlo : lo ≤ hi) (hb : first + hi ≤ d.size) :
    Calls Tryd.prog 83 #[lessSwap g lb sf sb, .int .i64 (lo : Int), .int .i64 (hi : Int), .int .i64 (first : Int)] w (SEnds I blk (siftDown lt hi first lo d) w) := by
  have hd := (S.row d w h).2
  have eg := S.enters
  obtain ⟨N, hN⟩ : ∃ N, d.size = N := ⟨_, rfl⟩
  rw [hN] at hb hd
  have HB1 : Hid (SBox (w.alloc (.cells #[.func (.func g) #[] lb, .func (.func sf) #[] sb] 89)) w.heap.size g lb sf sb blk) := ⟨heap_alloc_new w _, by have := (S.row d w h).1; omega⟩
  have HI1 : Hid (I d (w.alloc (.cells #[.func (.func g) #[] lb, .func (.func sf) #[] sb] 89))) := S.on d w _ h ((Below.refl _ w).alloc (Nat.le_refl _) _)
  have HG1 : Hid (w.grownBy (w.alloc (.cells #[.func (.func g) #[] lb, .func (.func sf) #[] sb] 89)) (some blk)) := grow_alloc (grow_refl w _) _
  have HN := Lib.hid hN
  clear h hN
  unfold lessSwap
  go_enter Tryd.func83, Tryd.ntmps83
  go_wp2
  obtain ⟨k, hk⟩ : ∃ k, k = w.heap.size := ⟨_, rfl⟩
  rw [← hk]
  rw [← hk] at HB1
  clear hk
  go_loopw [8] (fun v8 wr => ∃ (r : Nat) (dk : Array α), v8 = .int .i64 (r : Int) ∧ r ≤ hi ∧ Hid (dk.size = N) ∧ Hid (I dk wr) ∧ Hid (w.grownBy wr (some blk)) ∧ Hid (SBox wr k g lb sf sb blk) ∧ Hid (siftDown lt hi first r dk = siftDown lt hi first lo d)) (fun v8 _ => hi - (intOf v8).toNat)
  case atStart => exact ⟨lo, d, rfl, hlo, HN.out, HI1.out, HG1.out, HB1.out, rfl⟩
  case round =>
    obtain ⟨r, dk, rfl, hrh, HS, HI, HG, HB, HO⟩ := hrel
    obtain ⟨w1, hw1⟩ : ∃ x : World, x = wr := ⟨_, rfl⟩
    subst hw1
    have c0 := HB.out.c0
    by_cases hend : hi ≤ 2 * r + 1
    · have hde : decide ((hi : Int) ≤ 2 * (r : Int) + 1) = true := decide_eq_true (by omega)
      have HE0 := Lib.hid (sift_end (lt := lt) hi first r dk hend)
      go_wp2
      go_end0
      have e : siftDown lt hi first lo d = dk := by rw [← HO.out, HE0.out]
      exact ⟨rfl, by rw [e]; exact HI.out, HG.out⟩
    · have hde : decide ((hi : Int) ≤ 2 * (r : Int) + 1) = false := decide_eq_false (by omega)
      obtain ⟨c, hc⟩ : ∃ c, childOf lt hi first r dk = c := ⟨_, rfl⟩
      have hst := sift_step (lt := lt) hi first r dk hend
      rw [hc] at hst
      have HST := Lib.hid hst
      have hdN : dk.size = N := HS.out
      unfold childOf at hc
      clear hst
      by_cases hc1 : 2 * r + 1 + 1 < hi
      · have hdc : decide (2 * (r : Int) + 1 + 1 < (hi : Int)) = true := decide_eq_true (by omega)
        obtain ⟨q1, hq1⟩ : ∃ q, lt dk[first + (2 * r + 1)]! dk[first + (2 * r + 1) + 1]! = q := ⟨_, rfl⟩
        have hl1 := S.less dk w1 (first + (2 * r + 1)) (first + (2 * r + 1) + 1) HI.out (by omega) (by omega)
        rw [show ((first + (2 * r + 1) + 1 : Nat) : Int) = (first : Int) + (2 * (r : Int) + 1) + 1 by omega] at hl1
        rw [show ((first + (2 * r + 1) : Nat) : Int) = (first : Int) + (2 * (r : Int) + 1) by omega] at hl1
        rw [hq1] at hl1
        have HL1 := Lib.hid hl1
        clear hl1
        have HDN := Lib.hid hdN
        clear hdN
        cases q1
        · have hcc : c = 2 * r + 1 := by rw [← hc, hq1]; simp
          subst hcc
          clear hc hq1
          go_wp2_with fail
          refine HL1.out.mono ?_
          rintro e w3 ⟨rfl, hb2⟩
          have HE2 := Lib.hid hb2
          clear hb2
          have HI3 := Lib.hid (S.on dk w1 w3 HI.out HE2.out)
          have HG3 := Lib.hid (grow_below HG.out HE2.out)
          have HB3 := Lib.hid (HB.out.on HE2.out)
          have d0 := HB3.out.c0
          clear c0
          obtain ⟨q2, hq2⟩ : ∃ q, lt dk[first + r]! dk[first + (2 * r + 1)]! = q := ⟨_, rfl⟩
          have hdN := HDN.out
          have hl3 := S.less dk w3 (first + r) (first + (2 * r + 1)) HI3.out (by omega) (by omega)
          rw [show ((first + r : Nat) : Int) = (first : Int) + (r : Int) by omega] at hl3
          rw [show ((first + (2 * r + 1) : Nat) : Int) = (first : Int) + (2 * (r : Int) + 1) by omega] at hl3
          rw [hq2] at hl3
          have HL3 := Lib.hid hl3
          clear hl3
          clear hdN
          cases q2
          · skip
            have hs2 := HST.out
            rw [if_pos hq2] at hs2
            have HS2 := Lib.hid hs2
            clear hs2 hq2
            go_wp2_with fail
            refine HL3.out.mono ?_
            rintro e w5 ⟨rfl, hb4⟩
            have HE4 := Lib.hid hb4
            clear hb4
            go_wp2
            go_end0
            have e : siftDown lt hi first lo d = dk := by rw [← HO.out, HS2.out]
            exact ⟨rfl, by rw [e]; exact S.on dk w3 w5 HI3.out HE4.out, grow_below HG3.out HE4.out⟩
          · skip
            have hs2 := HST.out
            rw [if_neg (by rw [hq2]; decide)] at hs2
            have HS2 := Lib.hid hs2
            clear hs2 hq2
            go_wp2_with fail
            refine HL3.out.mono ?_
            rintro e w5 ⟨rfl, hb5⟩
            have HE5 := Lib.hid hb5
            clear hb5
            have HI5 := S.on dk w3 w5 HI3.out HE5.out
            have HB5 := (HB3.out).on HE5.out
            obtain ⟨w6, hrun, hi6, hg6⟩ := S.swap dk w5 (first + r) (first + (2 * r + 1)) HI5 (by rw [HDN.out]; omega) (by rw [HDN.out]; omega)
            rw [show ((first + r : Nat) : Int) = (first : Int) + (r : Int) by omega, show ((first + (2 * r + 1) : Nat) : Int) = (first : Int) + (2 * (r : Int) + 1) by omega] at hrun
            have HI6 := Lib.hid hi6
            have HG6 := Lib.hid (grow_trans (grow_below HG3.out HE5.out) hg6)
            have HB6 := Lib.hid (HB5.grown hg6)
            have d1 := HB5.c1
            clear hi6 hg6 HI5 HB5
            go_wp2
            go_roundw
            case rel => exact ⟨2 * r + 1, swp dk (first + r) (first + (2 * r + 1)), by go_num, by omega, by show _ = _; rw [size_swp]; exact HDN.out, HI6.out, HG6.out, HB6.out, by show _ = _; rw [← HS2.out]; exact HO.out⟩
            case measure => simp [intOf]; omega
        · have hcc : c = 2 * r + 2 := by rw [← hc, hq1]; simp [hc1]
          subst hcc
          clear hc hq1
          go_wp2_with fail
          refine HL1.out.mono ?_
          rintro e w3 ⟨rfl, hb2⟩
          have HE2 := Lib.hid hb2
          clear hb2
          have HI3 := Lib.hid (S.on dk w1 w3 HI.out HE2.out)
          have HG3 := Lib.hid (grow_below HG.out HE2.out)
          have HB3 := Lib.hid (HB.out.on HE2.out)
          have d0 := HB3.out.c0
          clear c0
          obtain ⟨q2, hq2⟩ : ∃ q, lt dk[first + r]! dk[first + (2 * r + 2)]! = q := ⟨_, rfl⟩
          have hdN := HDN.out
          have hl6 := S.less dk w3 (first + r) (first + (2 * r + 2)) HI3.out (by omega) (by omega)
          rw [show ((first + r : Nat) : Int) = (first : Int) + (r : Int) by omega] at hl6
          rw [show ((first + (2 * r + 2) : Nat) : Int) = (first : Int) + (2 * (r : Int) + 1 + 1) by omega] at hl6
          rw [hq2] at hl6
          have HL6 := Lib.hid hl6
          clear hl6
          clear hdN
          cases q2
          · skip
            have hs2 := HST.out
            rw [if_pos hq2] at hs2
            have HS2 := Lib.hid hs2
            clear hs2 hq2
            go_wp2_with fail
            refine HL6.out.mono ?_
            rintro e w5 ⟨rfl, hb7⟩
            have HE7 := Lib.hid hb7
            clear hb7
            go_wp2
            go_end0
            have e : siftDown lt hi first lo d = dk := by rw [← HO.out, HS2.out]
            exact ⟨rfl, by rw [e]; exact S.on dk w3 w5 HI3.out HE7.out, grow_below HG3.out HE7.out⟩
          · skip
            have hs2 := HST.out
            rw [if_neg (by rw [hq2]; decide)] at hs2
            have HS2 := Lib.hid hs2
            clear hs2 hq2
            go_wp2_with fail
            refine HL6.out.mono ?_
            rintro e w5 ⟨rfl, hb8⟩
            have HE8 := Lib.hid hb8
            clear hb8
            have HI5 := S.on dk w3 w5 HI3.out HE8.out
            have HB5 := (HB3.out).on HE8.out
            obtain ⟨w6, hrun, hi6, hg6⟩ := S.swap dk w5 (first + r) (first + (2 * r + 2)) HI5 (by rw [HDN.out]; omega) (by rw [HDN.out]; omega)
            rw [show ((first + r : Nat) : Int) = (first : Int) + (r : Int) by omega, show ((first + (2 * r + 2) : Nat) : Int) = (first : Int) + (2 * (r : Int) + 1 + 1) by omega] at hrun
            have HI6 := Lib.hid hi6
            have HG6 := Lib.hid (grow_trans (grow_below HG3.out HE8.out) hg6)
            have HB6 := Lib.hid (HB5.grown hg6)
            have d1 := HB5.c1
            clear hi6 hg6 HI5 HB5
            go_wp2
            go_roundw
            case rel => exact ⟨2 * r + 2, swp dk (first + r) (first + (2 * r + 2)), by go_num, by omega, by show _ = _; rw [size_swp]; exact HDN.out, HI6.out, HG6.out, HB6.out, by show _ = _; rw [← HS2.out]; exact HO.out⟩
            case measure => simp [intOf]; omega
      · have hdc : decide (2 * (r : Int) + 1 + 1 < (hi : Int)) = false := decide_eq_false (by omega)
        have hcc : c = 2 * r + 1 := by rw [← hc]; simp [hc1]
        subst hcc
        have HDN := Lib.hid hdN
        clear hc hdN
        obtain ⟨q2, hq2⟩ : ∃ q, lt dk[first + r]! dk[first + (2 * r + 1)]! = q := ⟨_, rfl⟩
        have hdN := HDN.out
        have hl9 := S.less dk w1 (first + r) (first + (2 * r + 1)) HI.out (by omega) (by omega)
        rw [show ((first + r : Nat) : Int) = (first : Int) + (r : Int) by omega] at hl9
        rw [show ((first + (2 * r + 1) : Nat) : Int) = (first : Int) + (2 * (r : Int) + 1) by omega] at hl9
        rw [hq2] at hl9
        have HL9 := Lib.hid hl9
        clear hl9
        clear hdN
        cases q2
        · skip
          have hs2 := HST.out
          rw [if_pos hq2] at hs2
          have HS2 := Lib.hid hs2
          clear hs2 hq2
          go_wp2_with fail
          refine HL9.out.mono ?_
          rintro e w5 ⟨rfl, hb10⟩
          have HE10 := Lib.hid hb10
          clear hb10
          go_wp2
          go_end0
          have e : siftDown lt hi first lo d = dk := by rw [← HO.out, HS2.out]
          exact ⟨rfl, by rw [e]; exact S.on dk w1 w5 HI.out HE10.out, grow_below HG.out HE10.out⟩
        · skip
          have hs2 := HST.out
          rw [if_neg (by rw [hq2]; decide)] at hs2
          have HS2 := Lib.hid hs2
          clear hs2 hq2
          go_wp2_with fail
          refine HL9.out.mono ?_
          rintro e w5 ⟨rfl, hb11⟩
          have HE11 := Lib.hid hb11
          clear hb11
          have HI5 := S.on dk w1 w5 HI.out HE11.out
          have HB5 := (HB.out).on HE11.out
          obtain ⟨w6, hrun, hi6, hg6⟩ := S.swap dk w5 (first + r) (first + (2 * r + 1)) HI5 (by rw [HDN.out]; omega) (by rw [HDN.out]; omega)
          rw [show ((first + r : Nat) : Int) = (first : Int) + (r : Int) by omega, show ((first + (2 * r + 1) : Nat) : Int) = (first : Int) + (2 * (r : Int) + 1) by omega] at hrun
          have HI6 := Lib.hid hi6
          have HG6 := Lib.hid (grow_trans (grow_below HG.out HE11.out) hg6)
          have HB6 := Lib.hid (HB5.grown hg6)
          have d1 := HB5.c1
          clear hi6 hg6 HI5 HB5
          go_wp2
          go_roundw
          case rel => exact ⟨2 * r + 1, swp dk (first + r) (first + (2 * r + 1)), by go_num, by omega, by show _ = _; rw [size_swp]; exact HDN.out, HI6.out, HG6.out, HB6.out, by show _ = _; rw [← HS2.out]; exact HO.out⟩
          case measure => simp [intOf]; omega
set_option maxHeartbeats 8000000 in
set_option maxRecDepth 100000 in
theorem heapSort_any (S : SortOps lt g lb sf sb blk b0 I) (d : Array α) (w : World) (h : I d w) (a b : Nat) (hab : a ≤ b) (hb : b ≤ d.size) :
    Calls Tryd.prog 74 #[lessSwap g lb sf sb, .int .i64 (a : Int), .int .i64 (b : Int)] w (SEnds I blk (heapSort lt d a b) w) := by
  have hd := (S.row d w h).2
  have eg := S.enters
  obtain ⟨N, hN⟩ : ∃ N, d.size = N := ⟨_, rfl⟩
  rw [hN] at hb hd
  have HB1 : Hid (SBox (w.alloc (.cells #[.func (.func g) #[] lb, .func (.func sf) #[] sb] 89)) w.heap.size g lb sf sb blk) := ⟨heap_alloc_new w _, by have := (S.row d w h).1; omega⟩
  have HI1 : Hid (I d (w.alloc (.cells #[.func (.func g) #[] lb, .func (.func sf) #[] sb] 89))) := S.on d w _ h ((Below.refl _ w).alloc (Nat.le_refl _) _)
  have HG1 : Hid (w.grownBy (w.alloc (.cells #[.func (.func g) #[] lb, .func (.func sf) #[] sb] 89)) (some blk)) := grow_alloc (grow_refl w _) _
  have HN := Lib.hid hN
  have hq : ((b : Int) - (a : Int) - 1).tdiv 2 = ((((b - a - 1) / 2 : Nat) : Int)) ∨ (b = a ∧ ((b : Int) - (a : Int) - 1).tdiv 2 = 0) := by
    by_cases e : b = a
    · right
      exact ⟨e, by subst e; simp⟩
    · left
      rw [show (b : Int) - (a : Int) - 1 = ((b - a - 1 : Nat) : Int) by omega]
      exact Int.ofNat_tdiv _ _ |>.symm
  have hq2 : ((b : Int) - (a : Int) - 1).tdiv 2 = ((((b - a - 1) / 2 : Nat) : Int)) := by
    rcases hq with h1 | ⟨h1, h2⟩
    · exact h1
    · rw [h2, h1]; simp
  clear h hN hq
  unfold lessSwap
  go_enter Tryd.func74, Tryd.ntmps74
  go_wp2
  obtain ⟨k, hk⟩ : ∃ k, k = w.heap.size := ⟨_, rfl⟩
  rw [← hk]
  rw [← hk] at HB1
  clear hk hq2
  obtain ⟨M, hM⟩ : ∃ M, M = (b - a - 1) / 2 + 1 := ⟨_, rfl⟩
  have hMI : (((b - a - 1 : Nat) : Int)) / 2 = (M : Int) - 1 := by omega
  rw [hMI]
  have hMb : M ≤ b - a + 1 := by omega
  have hhi : (b : Int) - (a : Int) = ((b - a : Nat) : Int) := by omega
  have hHI := Lib.hid hhi
  rw [hhi]
  obtain ⟨hi, hhi2⟩ : ∃ hi, hi = b - a := ⟨_, rfl⟩
  have hbi : b = a + hi := by omega
  rw [← hhi2]
  have HM := Lib.hid hM
  have HH2 := Lib.hid hhi2
  rw [← hhi2] at hMb
  have hahi : a + hi ≤ N := by omega
  clear hMI hhi hHI hM hhi2 hbi
  go_loopw [9] (fun v9 wr => ∃ (n : Nat) (dk : Array α), v9 = .int .i64 ((n : Int) - 1) ∧ n ≤ M ∧ Hid (dk.size = N) ∧ Hid (I dk wr) ∧ Hid (w.grownBy wr (some blk)) ∧ Hid (SBox wr k g lb sf sb blk) ∧ Hid (heapBuild lt hi a n dk = heapBuild lt hi a M d)) (fun v9 _ => (intOf v9 + 1).toNat)
  case atStart => exact ⟨M, d, rfl, Nat.le_refl _, HN.out, HI1.out, HG1.out, HB1.out, rfl⟩
  case round =>
    obtain ⟨n, dk, rfl, hnM, HS, HI, HG, HB, HO⟩ := hrel
    obtain ⟨w1, hw1⟩ : ∃ x : World, x = wr := ⟨_, rfl⟩
    subst hw1
    have c0 := HB.out.c0
    have c1 := HB.out.c1
    by_cases hn0 : n = 0
    · subst hn0
      rw [show ((0 : Nat) : Int) - 1 = -1 from rfl]
      have hE : heapBuild lt hi a 0 dk = dk := rfl
      have HE0 := Lib.hid hE
      clear hE
      go_wp2
      go_loopw [10] (fun v10 wr => ∃ (m : Nat) (dj : Array α), v10 = .int .i64 ((m : Int) - 1) ∧ m ≤ hi ∧ Hid (dj.size = N) ∧ Hid (I dj wr) ∧ Hid (w.grownBy wr (some blk)) ∧ Hid (SBox wr k g lb sf sb blk) ∧ Hid (heapPop lt a m dj = heapPop lt a hi dk)) (fun v10 _ => (intOf v10 + 1).toNat)
      case atStart => exact ⟨hi, dk, rfl, Nat.le_refl _, HS.out, HI.out, HG.out, HB.out, rfl⟩
      case round =>
        obtain ⟨m, dj, rfl, hmh, HSJ, HIJ, HGJ, HBJ, HOJ⟩ := hrel
        obtain ⟨w2, hw2⟩ : ∃ x : World, x = wr := ⟨_, rfl⟩
        subst hw2
        have d0 := HBJ.out.c0
        have d1 := HBJ.out.c1
        clear c0 c1
        by_cases hm0 : m = 0
        · subst hm0
          go_wp2
          go_end0
          have e : heapSort lt d a b = dj := by
            unfold heapSort
            rw [← HH2.out, ← show M = (hi - 1) / 2 + 1 by rw [HM.out, HH2.out], ← HO.out, HE0.out, ← HOJ.out]
            rfl
          exact ⟨rfl, by rw [e]; exact HIJ.out, HGJ.out⟩
        · have hdm : decide (0 ≤ (m : Int) - 1) = true := decide_eq_true (by omega)
          obtain ⟨p, rfl⟩ : ∃ p, m = p + 1 := ⟨m - 1, by omega⟩
          rw [show ((p + 1 : Nat) : Int) - 1 = (p : Int) by omega] at hdm ⊢
          obtain ⟨w3, hrun, hi3, hg3⟩ := S.swap dj w2 a (a + p) HIJ.out (by rw [HSJ.out]; omega) (by rw [HSJ.out]; omega)
          rw [show ((a + p : Nat) : Int) = (a : Int) + (p : Int) by omega] at hrun
          have HI3 := Lib.hid hi3
          have HG3 := Lib.hid (grow_trans HGJ.out hg3)
          have HB3 := Lib.hid (HBJ.out.grown hg3)
          have f0 := HB3.out.c0
          have f1 := HB3.out.c1
          have HS3 : Hid ((swp dj a (a + p)).size = N) := by show _ = _; rw [size_swp]; exact HSJ.out
          clear hi3 hg3
          go_wp2_with fail
          refine (siftDown_any S (swp dj a (a + p)) w3 HI3.out 0 p a (Nat.zero_le _) (by rw [HS3.out]; omega)).mono ?_
          rintro e w4 ⟨rfl, hi4, hg4⟩
          have HI4 := Lib.hid hi4
          have HG4 := Lib.hid (grow_trans HG3.out hg4)
          have HB4 := Lib.hid (HB3.out.grown hg4)
          clear hi4 hg4
          go_wp2
          go_roundw
          case rel => exact ⟨p, siftDown lt p a 0 (swp dj a (a + p)), by go_num, by omega, by show _ = _; rw [size_siftDown lt p a p 0 _ (by omega)]; exact HS3.out, HI4.out, HG4.out, HB4.out, by show _ = _; rw [← HOJ.out]; rfl⟩
          case measure => first | (simp [intOf]; done) | (simp [intOf]; omega)
    · have hdn : decide (0 ≤ (n : Int) - 1) = true := decide_eq_true (by omega)
      obtain ⟨p, rfl⟩ : ∃ p, n = p + 1 := ⟨n - 1, by omega⟩
      rw [show ((p + 1 : Nat) : Int) - 1 = (p : Int) by omega] at hdn ⊢
      go_wp2_with fail
      refine (siftDown_any S dk w1 HI.out p hi a (by omega) (by rw [HS.out]; omega)).mono ?_
      rintro e w4 ⟨rfl, hi4, hg4⟩
      have HI4 := Lib.hid hi4
      have HG4 := Lib.hid (grow_trans HG.out hg4)
      have HB4 := Lib.hid (HB.out.grown hg4)
      clear hi4 hg4
      go_wp2
      go_roundw
      case rel => exact ⟨p, siftDown lt hi a p dk, by go_num, by omega, by show _ = _; rw [size_siftDown lt hi a hi p _ (by omega)]; exact HS.out, HI4.out, HG4.out, HB4.out, by show _ = _; rw [← HO.out]; rfl⟩
      case measure => first | (simp [intOf]; done) | (simp [intOf]; omega)
end
end Go.Proofs.YtjocfkkcnkpjdaaDoor

/-! The library's sort.Slice with a 'less' that may make memory: its choice of a pivot. -/
namespace Go.Proofs.YtjocfkkcnkpjdaaDoor
open Go.RowKit Go.Sort
set_option linter.unusedVariables false

/-- A counter in a block of its own. -/
def Cnt (W : World) (k : Nat) (n : Int) : Prop := W.heap[k]? = some (.cells #[.int .i64 n] 3 (0, 0))
section
variable {W w' : World} {k : Nat} {n : Int}
theorem Cnt.c0 (h : Cnt W k n) : W.cell? ⟨k, 0, none⟩ = some (.int .i64 n) := by rw [cell_of_row _ _ 0 _ _ _ h]; rfl
theorem Cnt.free (h : Cnt W k n) : W.frozen? ⟨k, 0, none⟩ = false := frozen_of_row W k 0 _ _ h
theorem Cnt.old (h : Cnt W k n) : k < W.heap.size := lt_of_block h
theorem Cnt.on (h : Cnt W k n) (hb : Below W.heap.size W w') : Cnt w' k n := (hb.block k h.old).trans h
theorem Cnt.set (h : Cnt W k n) (m : Int) : Cnt (W.setCell ⟨k, 0, none⟩ (.int .i64 m)) k m := box_set h 0 _
end
section
variable {α : Type} [Inhabited α] {lt : α → α → Bool} {g : Nat} {lb : Array Value} {sf : Nat} {sb : Array Value} {blk b0 B : Nat} {I : Array α → World → Prop} {W w' : World}
theorem SBox.counted {k : Nat} (h : SBox W B g lb sf sb blk) (hk : B ≠ k) (hg : W.grownBy w' (some k)) : SBox w' B g lb sf sb blk := ⟨(hg.block B h.old fun e => hk (Option.some.inj e)).trans h.1, h.2⟩
def O2Ends (I : Array α → World → Prop) (d : Array α) (kc : Nat) (r : Nat × Nat × Nat) (W : World) (e : Ending) (w' : World) : Prop := e = .returned (.tuple #[.int .i64 (r.1 : Int), .int .i64 (r.2.1 : Int)]) ∧ I d w' ∧ Cnt w' kc (r.2.2 : Int) ∧ W.grownBy w' (some kc)
def MEnds (I : Array α → World → Prop) (d : Array α) (kc : Nat) (r : Nat × Nat) (W : World) (e : Ending) (w' : World) : Prop := e = .returned (.int .i64 (r.1 : Int)) ∧ I d w' ∧ Cnt w' kc (r.2 : Int) ∧ W.grownBy w' (some kc)
set_option maxHeartbeats 4000000 in
set_option maxRecDepth 100000 in
theorem order2_any (S : SortOps lt g lb sf sb blk b0 I) (d : Array α) (w : World) (h : I d w) (a b kc s : Nat) (ha : a < d.size) (hb : b < d.size) (hc : Cnt w kc (s : Int)) (hkc : b0 ≤ kc) (hs : s ≤ 1000) :
    Calls Tryd.prog 88 #[lessSwap g lb sf sb, .int .i64 (a : Int), .int .i64 (b : Int), .pointer (some ⟨kc, 0, none⟩)] w (O2Ends I d kc (order2 lt d a b s) w) := by
  have eg := S.enters
  have hb1 : Below w.heap.size w (w.alloc (.cells #[.func (.func g) #[] lb, .func (.func sf) #[] sb] 89)) := (Below.refl _ w).alloc (Nat.le_refl _) _
  have HB1 : Hid (SBox (w.alloc (.cells #[.func (.func g) #[] lb, .func (.func sf) #[] sb] 89)) w.heap.size g lb sf sb blk) := ⟨heap_alloc_new w _, by have := (S.row d w h).1; omega⟩
  have hI1 : I d (w.alloc (.cells #[.func (.func g) #[] lb, .func (.func sf) #[] sb] 89)) := S.on d w _ h hb1
  have HBE1 := Lib.hid hb1
  have HC1 := Lib.hid (hc.on hb1)
  obtain ⟨q, hq⟩ : ∃ q, lt d[b]! d[a]! = q := ⟨_, rfl⟩
  have hl := S.less d _ b a hI1 hb ha
  rw [hq] at hl
  have HL := Lib.hid hl
  have HI1 := Lib.hid hI1
  have c0 := HB1.out.c0
  clear hl hI1 hb1 h hc ha hb
  unfold lessSwap
  cases q
  · have HR : Hid (order2 lt d a b s = (a, b, s)) := by show _ = _; unfold order2; rw [if_neg (by rw [hq]; decide)]
    clear hq
    go_enter Tryd.func88, Tryd.ntmps88
    go_wp2_with fail
    refine HL.out.mono ?_
    rintro e w3 ⟨rfl, hb3⟩
    have HE := Lib.hid hb3
    clear hb3 HL c0
    go_wp2
    go_ret2
    exact ⟨by rw [HR.out]; rfl, S.on d _ w3 HI1.out HE.out, by rw [HR.out]; exact HC1.out.on HE.out, grow_below (grow_below (grow_refl w _) HBE1.out) HE.out⟩
  · have HR : Hid (order2 lt d a b s = (b, a, s + 1)) := by show _ = _; unfold order2; rw [if_pos hq]
    clear hq
    go_enter Tryd.func88, Tryd.ntmps88
    go_wp2_with fail
    refine HL.out.mono ?_
    rintro e w3 ⟨rfl, hb3⟩
    have HE := Lib.hid hb3
    have HC3 := Lib.hid (HC1.out.on hb3)
    have c3 := HC3.out.c0
    have f3 := HC3.out.free
    clear hb3 HL c0
    go_wp2
    go_ret2
    have hg : w3.grownBy (w3.setCell ⟨kc, 0, none⟩ (.int .i64 ((s : Int) + 1))) (some kc) := grow_set (grow_refl w3 _) 0 _
    exact ⟨by rw [HR.out]; rfl, S.off d w3 _ kc (S.on d _ w3 HI1.out HE.out) hg hkc, by rw [HR.out]; exact HC3.out.set _, grow_trans (grow_below (grow_below (grow_refl w _) HBE1.out) HE.out) hg⟩
theorem order2_in (lt : α → α → Bool) (d : Array α) (a b s N : Nat) (ha : a < N) (hb : b < N) : (order2 lt d a b s).1 < N ∧ (order2 lt d a b s).2.1 < N ∧ (order2 lt d a b s).2.2 ≤ s + 1 := by
  unfold order2
  split <;> simp only <;> omega
theorem median_in (lt : α → α → Bool) (d : Array α) (a b c s N : Nat) (ha : a < N) (hb : b < N) (hc : c < N) : (median lt d a b c s).1 < N ∧ (median lt d a b c s).2 ≤ s + 3 := by
  unfold median
  obtain ⟨h1, h2, h3⟩ := order2_in lt d a b s N ha hb
  obtain ⟨h4, h5, h6⟩ := order2_in lt d (order2 lt d a b s).2.1 c (order2 lt d a b s).2.2 N h2 hc
  obtain ⟨h7, h8, h9⟩ := order2_in lt d (order2 lt d a b s).1 (order2 lt d (order2 lt d a b s).2.1 c (order2 lt d a b s).2.2).1 (order2 lt d (order2 lt d a b s).2.1 c (order2 lt d a b s).2.2).2.2 N h1 h4
  simp only
  omega
set_option maxHeartbeats 4000000 in
set_option maxRecDepth 100000 in
theorem median_any (S : SortOps lt g lb sf sb blk b0 I) (d : Array α) (w : World) (h : I d w) (a b c kc s : Nat) (ha : a < d.size) (hb : b < d.size) (hc : c < d.size) (hn : Cnt w kc (s : Int)) (hkc : b0 ≤ kc) (hs : s ≤ 900) :
    Calls Tryd.prog 87 #[lessSwap g lb sf sb, .int .i64 (a : Int), .int .i64 (b : Int), .int .i64 (c : Int), .pointer (some ⟨kc, 0, none⟩)] w (MEnds I d kc (median lt d a b c s) w) := by
  have hb1 : Below w.heap.size w (w.alloc (.cells #[.func (.func g) #[] lb, .func (.func sf) #[] sb] 89)) := (Below.refl _ w).alloc (Nat.le_refl _) _
  have HB1 : Hid (SBox (w.alloc (.cells #[.func (.func g) #[] lb, .func (.func sf) #[] sb] 89)) w.heap.size g lb sf sb blk) := ⟨heap_alloc_new w _, by have := (S.row d w h).1; omega⟩
  have hI1 : I d (w.alloc (.cells #[.func (.func g) #[] lb, .func (.func sf) #[] sb] 89)) := S.on d w _ h hb1
  have hne : w.heap.size ≠ kc := by have := hn.old; omega
  have HBE1 := Lib.hid hb1
  have HC1 := Lib.hid (hn.on hb1)
  obtain ⟨r1, hr1⟩ : ∃ r, order2 lt d a b s = r := ⟨_, rfl⟩
  obtain ⟨p1, q1, s1⟩ := r1
  obtain ⟨h1, h2, h3⟩ := order2_in lt d a b s d.size ha hb
  rw [hr1] at h1 h2 h3
  simp only at h1 h2 h3
  obtain ⟨r2, hr2⟩ : ∃ r, order2 lt d q1 c s1 = r := ⟨_, rfl⟩
  obtain ⟨p2, q2, s2⟩ := r2
  obtain ⟨h4, h5, h6⟩ := order2_in lt d q1 c s1 d.size h2 hc
  rw [hr2] at h4 h5 h6
  simp only at h4 h5 h6
  obtain ⟨r3, hr3⟩ : ∃ r, order2 lt d p1 p2 s2 = r := ⟨_, rfl⟩
  obtain ⟨p3, q3, s3⟩ := r3
  have HR : Hid (median lt d a b c s = (q3, s3)) := by
    show _ = _
    unfold median
    simp only
    rw [hr1]
    simp only
    rw [hr2]
    simp only
    rw [hr3]
  have HR1 := Lib.hid hr1
  have HR2 := Lib.hid hr2
  have HR3 := Lib.hid hr3
  have HI1 := Lib.hid hI1
  have c0 := HB1.out.c0
  have c1 := HB1.out.c1
  clear hr1 hr2 hr3 hI1 hb1 h hn
  go_enter Tryd.func87, Tryd.ntmps87
  unfold lessSwap
  go_wp2_with fail
  refine (order2_any S d _ HI1.out a b kc s (by omega) (by omega) HC1.out hkc (by omega)).mono ?_
  rintro e w2 ⟨rfl, hi2, hc2, hg2⟩
  rw [HR1.out]
  rw [HR1.out] at hc2
  simp only at hc2
  have HI2 := Lib.hid hi2
  have HC2 := Lib.hid hc2
  have HB2 := Lib.hid (HB1.out.counted hne hg2)
  have HG2 : Hid (w.grownBy w2 (some kc)) := grow_trans (grow_below (grow_refl w _) HBE1.out) hg2
  clear hi2 hc2 hg2 c0 c1
  have c0 := HB2.out.c0
  have c1 := HB2.out.c1
  go_wp2_with fail
  refine (order2_any S d _ HI2.out q1 c kc s1 (by omega) (by omega) HC2.out hkc (by omega)).mono ?_
  rintro e w3 ⟨rfl, hi3, hc3, hg3⟩
  rw [HR2.out]
  rw [HR2.out] at hc3
  simp only at hc3
  have HI3 := Lib.hid hi3
  have HC3 := Lib.hid hc3
  have HB3 := Lib.hid (HB2.out.counted hne hg3)
  have HG3 : Hid (w.grownBy w3 (some kc)) := grow_trans HG2.out hg3
  clear hi3 hc3 hg3 c0 c1
  have c0 := HB3.out.c0
  have c1 := HB3.out.c1
  go_wp2_with fail
  refine (order2_any S d _ HI3.out p1 p2 kc s2 (by omega) (by omega) HC3.out hkc (by omega)).mono ?_
  rintro e w4 ⟨rfl, hi4, hc4, hg4⟩
  rw [HR3.out]
  rw [HR3.out] at hc4
  simp only at hc4
  have HI4 := Lib.hid hi4
  have HC4 := Lib.hid hc4
  have HB4 := Lib.hid (HB3.out.counted hne hg4)
  have HG4 : Hid (w.grownBy w4 (some kc)) := grow_trans HG3.out hg4
  clear hi4 hc4 hg4 c0 c1
  have c0 := HB4.out.c0
  have c1 := HB4.out.c1
  go_wp2
  go_ret
  exact ⟨by rw [HR.out]; rfl, HI4.out, by rw [HR.out]; exact HC4.out, HG4.out⟩
set_option maxHeartbeats 4000000 in
set_option maxRecDepth 100000 in
theorem medianAdjacent_any (S : SortOps lt g lb sf sb blk b0 I) (d : Array α) (w : World) (h : I d w) (a kc s : Nat) (ha1 : 1 ≤ a) (ha : a + 1 < d.size) (hn : Cnt w kc (s : Int)) (hkc : b0 ≤ kc) (hs : s ≤ 900) :
    Calls Tryd.prog 86 #[lessSwap g lb sf sb, .int .i64 (a : Int), .pointer (some ⟨kc, 0, none⟩)] w (MEnds I d kc (medianAdjacent lt d a s) w) := by
  have hb1 : Below w.heap.size w (w.alloc (.cells #[.func (.func g) #[] lb, .func (.func sf) #[] sb] 89)) := (Below.refl _ w).alloc (Nat.le_refl _) _
  have HB1 : Hid (SBox (w.alloc (.cells #[.func (.func g) #[] lb, .func (.func sf) #[] sb] 89)) w.heap.size g lb sf sb blk) := ⟨heap_alloc_new w _, by have := (S.row d w h).1; omega⟩
  have hI1 : I d (w.alloc (.cells #[.func (.func g) #[] lb, .func (.func sf) #[] sb] 89)) := S.on d w _ h hb1
  have hd := (S.row d w h).2
  have HBE1 := Lib.hid hb1
  have HC1 := Lib.hid (hn.on hb1)
  have HI1 := Lib.hid hI1
  have c0 := HB1.out.c0
  have c1 := HB1.out.c1
  have HM := Lib.hid (median_any S d _ hI1 (a - 1) a (a + 1) kc s (by omega) (by omega) ha (hn.on hb1) hkc hs)
  have e1 : ((a - 1 : Nat) : Int) = (a : Int) - 1 := by omega
  have e2 : ((a + 1 : Nat) : Int) = (a : Int) + 1 := by omega
  rw [e1, e2] at HM
  clear hI1 hb1 h hn e1 e2
  go_enter Tryd.func86, Tryd.ntmps86
  unfold lessSwap
  go_wp2_with fail
  refine HM.out.mono ?_
  rintro e w2 ⟨rfl, hi2, hc2, hg2⟩
  have HI2 := Lib.hid hi2
  have HC2 := Lib.hid hc2
  have HG2 := Lib.hid (grow_trans (grow_below (grow_refl w _) HBE1.out) hg2)
  clear hi2 hc2 hg2 HM c0 c1
  go_wp2
  go_ret
  exact ⟨rfl, HI2.out, HC2.out, HG2.out⟩
end
end Go.Proofs.YtjocfkkcnkpjdaaDoor

/-! The library's sort.Slice with a 'less' that may make memory: its choice of a pivot, whole. -/
namespace Go.Proofs.YtjocfkkcnkpjdaaDoor
open Go.RowKit Go.Sort
set_option linter.unusedVariables false

section
variable {α : Type} [Inhabited α] {lt : α → α → Bool} {g : Nat} {lb : Array Value} {sf : Nat} {sb : Array Value} {blk b0 B : Nat} {I : Array α → World → Prop} {W w' : World}
def hintOf (s : Nat) : Hint := if s = 0 then .increasing else if s = 12 then .decreasing else .unknown
def PEnds (I : Array α → World → Prop) (d : Array α) (r : Nat × Hint) (W : World) (e : Ending) (w' : World) : Prop := e = .returned (.tuple #[.int .i64 (r.1 : Int), .int .i64 (hintCode r.2)]) ∧ I d w' ∧ Below W.heap.size W w'
omit [Inhabited α] in
theorem pends {d : Array α} {r : Nat × Hint} {p : Nat} {s : Nat} (hr : r = (p, hintOf s)) {z : Int} (hz : z = hintCode (hintOf s)) (hi : I d w') (hb : Below W.heap.size W w') : PEnds I d r W (.returned (.tuple #[.int .i64 (p : Int), .int .i64 z])) w' := by
  subst hr
  exact ⟨by rw [hz], hi, hb⟩
theorem hint0 : (1 : Int) = hintCode (hintOf 0) := rfl
theorem hint12 : (2 : Int) = hintCode (hintOf 12) := rfl
theorem hintx {s : Nat} (h0 : s ≠ 0) (h12 : s ≠ 12) : (0 : Int) = hintCode (hintOf s) := by unfold hintOf; rw [if_neg h0, if_neg h12]; rfl
theorem counted_below {w w1 w2 : World} {kc : Nat} (h1 : Below w.heap.size w w1) (hg : w1.grownBy w2 (some kc)) (hk : w.heap.size ≤ kc) : Below w.heap.size w w2 := ⟨hg.os.trans h1.os, hg.tape.trans h1.tape, hg.output.trans h1.output, Nat.le_trans h1.size hg.size, fun j hj => (hg.block j (Nat.lt_of_lt_of_le hj h1.size) fun e => by have := Option.some.inj e; omega).trans (h1.block j hj)⟩
set_option maxHeartbeats 8000000 in
set_option maxRecDepth 100000 in
theorem choosePivot_any (S : SortOps lt g lb sf sb blk b0 I) (d : Array α) (w : World) (h : I d w) (a b : Nat) (hab : a < b) (hb : b ≤ d.size) :
    Calls Tryd.prog 76 #[lessSwap g lb sf sb, .int .i64 (a : Int), .int .i64 (b : Int)] w (PEnds I d (choosePivot lt d a b) w) := by
  have hd := (S.row d w h).2
  have hold := (S.old d w h).1
  obtain ⟨B0, hB0⟩ : ∃ B, B = w.heap.size := ⟨_, rfl⟩
  obtain ⟨N, hN⟩ : ∃ N, d.size = N := ⟨_, rfl⟩
  rw [hN] at hb hd
  have HI0 : Hid (∀ W, Below w.heap.size w W → I d W) := fun W hW => S.on d w W h hW
  have HBLK := Lib.hid (S.row d w h).1
  have HN := Lib.hid hN
  obtain ⟨l, hl⟩ : ∃ l, l = b - a := ⟨_, rfl⟩
  have hlI : (b : Int) - (a : Int) = (l : Int) := by omega
  obtain ⟨i, hi⟩ : ∃ i, i = a + l / 4 * 1 := ⟨_, rfl⟩
  obtain ⟨j, hj⟩ : ∃ j, j = a + l / 4 * 2 := ⟨_, rfl⟩
  obtain ⟨k, hk⟩ : ∃ k, k = a + l / 4 * 3 := ⟨_, rfl⟩
  have hiI : (a : Int) + (l : Int) / 4 = (i : Int) := by omega
  have hjI : (a : Int) + (l : Int) / 4 * 2 = (j : Int) := by omega
  have hkI : (a : Int) + (l : Int) / 4 * 3 = (k : Int) := by omega
  have HP : Hid (choosePivot lt d a b = ((if l ≥ 8 then (if l ≥ 50 then (let ri := medianAdjacent lt d i 0; let rj := medianAdjacent lt d j ri.2; let rk := medianAdjacent lt d k rj.2; median lt d ri.1 rj.1 rk.1 rk.2) else median lt d i j k 0) else (j, 0)).1, hintOf (if l ≥ 8 then (if l ≥ 50 then (let ri := medianAdjacent lt d i 0; let rj := medianAdjacent lt d j ri.2; let rk := medianAdjacent lt d k rj.2; median lt d ri.1 rj.1 rk.1 rk.2) else median lt d i j k 0) else (j, 0)).2)) := by
    show _ = _
    unfold choosePivot hintOf
    rw [hi, hj, hk, hl]
  have h8i : 8 ≤ l → 1 ≤ i ∧ i + 1 < N ∧ 1 ≤ j ∧ j + 1 < N ∧ 1 ≤ k ∧ k + 1 < N := by omega
  have hjN : j < N := by omega
  clear hN hl hi hj hk h
  unfold lessSwap
  go_enter Tryd.func76, Tryd.ntmps76
  by_cases h8 : 8 ≤ l
  · have hd8 : decide (8 ≤ (l : Int)) = true := decide_eq_true (by omega)
    obtain ⟨i1, i2, j1, j2, k1, k2⟩ := h8i h8
    by_cases h50 : 50 ≤ l
    · have hd50 : decide (50 ≤ (l : Int)) = true := decide_eq_true (by omega)
      go_upto_if 32 with (fail)
      obtain ⟨w1, hw1⟩ : ∃ x, x = (w.alloc (.cells #[.func (.func g) #[] lb, .func (.func sf) #[] sb] 89)).alloc (.cells #[.int .i64 0] 3) := ⟨_, rfl⟩
      have hbe1 : Below w.heap.size w (w.alloc (.cells #[.func (.func g) #[] lb, .func (.func sf) #[] sb] 89)) := (Below.refl _ w).alloc (Nat.le_refl _) _
      have hbe2 : Below (w.alloc (.cells #[.func (.func g) #[] lb, .func (.func sf) #[] sb] 89)).heap.size (w.alloc (.cells #[.func (.func g) #[] lb, .func (.func sf) #[] sb] 89)) w1 := by rw [hw1]; exact (Below.refl _ _).alloc (Nat.le_refl _) _
      have HBE1 := Lib.hid (hbe1.trans (hbe2.mono hbe1.size))
      have HB1 : Hid (SBox w1 w.heap.size g lb sf sb blk) := SBox.on ⟨heap_alloc_new w _, by have := HBLK.out; omega⟩ hbe2
      obtain ⟨kc, hkc⟩ : ∃ k, k = w.heap.size + 1 := ⟨_, rfl⟩
      have HC1 : Hid (Cnt w1 kc ((0 : Nat) : Int)) := by
        show Cnt _ _ _
        have e : (w.alloc (.cells #[.func (.func g) #[] lb, .func (.func sf) #[] sb] 89)).heap.size = kc := by rw [hkc]; simp
        rw [hw1, ← e]
        exact heap_alloc_new _ _
      have hk0 : b0 ≤ kc := by omega
      have hk1 : w.heap.size ≤ kc := by omega
      have hne : B0 ≠ kc := by omega
      have HI1 := Lib.hid (HI0.out w1 HBE1.out)
      rw [← hw1, ← hkc, ← hB0]
      rw [← hB0] at HB1
      have c0 := HB1.out.c0
      have c1 := HB1.out.c1
      clear hw1 hkc hbe1 hbe2 hB0
      obtain ⟨ra, hr2⟩ : ∃ r, medianAdjacent lt d i 0 = r := ⟨_, rfl⟩
      have hin2 := median_in lt d (i - 1) i (i + 1) 0 N (by omega) (by omega) (by omega)
      change (medianAdjacent lt d i 0).1 < N ∧ (medianAdjacent lt d i 0).2 ≤ 0 + 3 at hin2
      rw [hr2] at hin2
      obtain ⟨p2, s2⟩ := ra
      simp only at hin2
      go_wp2_with fail
      refine (medianAdjacent_any S d w1 HI1.out i kc 0 (by omega) (by rw [HN.out]; omega) HC1.out hk0 (by omega)).mono ?_
      rintro e w2 ⟨rfl, hi2, hc2, hg2⟩
      rw [hr2]
      rw [hr2] at hc2
      simp only at hc2
      have HR2 := Lib.hid hr2
      have HI2 := Lib.hid hi2
      have HC2 := Lib.hid hc2
      have HB2 := Lib.hid (HB1.out.counted hne hg2)
      have HBE2 := Lib.hid (counted_below HBE1.out hg2 hk1)
      clear hi2 hc2 hg2 hr2 c0 c1
      have c0 := HB2.out.c0
      have c1 := HB2.out.c1
      obtain ⟨rb, hr3⟩ : ∃ r, medianAdjacent lt d j s2 = r := ⟨_, rfl⟩
      have hin3 := median_in lt d (j - 1) j (j + 1) s2 N (by omega) (by omega) (by omega)
      change (medianAdjacent lt d j s2).1 < N ∧ (medianAdjacent lt d j s2).2 ≤ s2 + 3 at hin3
      rw [hr3] at hin3
      obtain ⟨p3, s3⟩ := rb
      simp only at hin3
      go_wp2_with fail
      refine (medianAdjacent_any S d w2 HI2.out j kc s2 (by omega) (by rw [HN.out]; omega) HC2.out hk0 (by omega)).mono ?_
      rintro e w3 ⟨rfl, hi3, hc3, hg3⟩
      rw [hr3]
      rw [hr3] at hc3
      simp only at hc3
      have HR3 := Lib.hid hr3
      have HI3 := Lib.hid hi3
      have HC3 := Lib.hid hc3
      have HB3 := Lib.hid (HB2.out.counted hne hg3)
      have HBE3 := Lib.hid (counted_below HBE2.out hg3 hk1)
      clear hi3 hc3 hg3 hr3 c0 c1
      have c0 := HB3.out.c0
      have c1 := HB3.out.c1
      obtain ⟨rc, hr4⟩ : ∃ r, medianAdjacent lt d k s3 = r := ⟨_, rfl⟩
      have hin4 := median_in lt d (k - 1) k (k + 1) s3 N (by omega) (by omega) (by omega)
      change (medianAdjacent lt d k s3).1 < N ∧ (medianAdjacent lt d k s3).2 ≤ s3 + 3 at hin4
      rw [hr4] at hin4
      obtain ⟨p4, s4⟩ := rc
      simp only at hin4
      go_wp2_with fail
      refine (medianAdjacent_any S d w3 HI3.out k kc s3 (by omega) (by rw [HN.out]; omega) HC3.out hk0 (by omega)).mono ?_
      rintro e w4 ⟨rfl, hi4, hc4, hg4⟩
      rw [hr4]
      rw [hr4] at hc4
      simp only at hc4
      have HR4 := Lib.hid hr4
      have HI4 := Lib.hid hi4
      have HC4 := Lib.hid hc4
      have HB4 := Lib.hid (HB3.out.counted hne hg4)
      have HBE4 := Lib.hid (counted_below HBE3.out hg4 hk1)
      clear hi4 hc4 hg4 hr4 c0 c1
      have c0 := HB4.out.c0
      have c1 := HB4.out.c1
      obtain ⟨rr, hr5⟩ : ∃ r, median lt d p2 p3 p4 s4 = r := ⟨_, rfl⟩
      obtain ⟨p5, s5⟩ := rr
      go_wp2_with fail
      refine (median_any S d w4 HI4.out p2 p3 p4 kc s4 (by rw [HN.out]; omega) (by rw [HN.out]; omega) (by rw [HN.out]; omega) HC4.out hk0 (by omega)).mono ?_
      rintro e w5 ⟨rfl, hi5, hc5, hg5⟩
      rw [hr5]
      rw [hr5] at hc5
      simp only at hc5
      have HR5 := Lib.hid hr5
      have HI5 := Lib.hid hi5
      have HC5 := Lib.hid hc5
      have HBE5 := Lib.hid (counted_below HBE4.out hg5 hk1)
      clear hi5 hc5 hg5 hr5 c0 c1
      have HC := HC5
      clear HC5
      have HPP : Hid (choosePivot lt d a b = (p5, hintOf s5)) := by
        show _ = _
        rw [HP.out, if_pos (by omega), if_pos (by omega)]
        (try simp only)
        rw [HR2.out]
        (try simp only)
        rw [HR3.out]
        (try simp only)
        rw [HR4.out]
        (try simp only)
        rw [HR5.out]
      by_cases hs0 : s5 = 0
      · rw [hs0] at HPP HC
        have k0 := HC.out.c0
        rw [show ((0 : Nat) : Int) = 0 from rfl] at k0
        clear hs0
        go_wp2
        go_ret2
        exact pends HPP.out hint0 HI5.out HBE5.out
      · by_cases hs12 : s5 = 12
        · rw [hs12] at HPP HC
          have k0 := HC.out.c0
          rw [show ((12 : Nat) : Int) = 12 from rfl] at k0
          clear hs0 hs12
          go_wp2
          go_ret2
          exact pends HPP.out hint12 HI5.out HBE5.out
        · have k0 := HC.out.c0
          have e0 : ((s5 : Int) == 0) = false := beq_false_of_ne (by omega)
          have e12 : ((s5 : Int) == 12) = false := beq_false_of_ne (by omega)
          have HX := Lib.hid (hintx hs0 hs12)
          clear hs0 hs12
          go_wp2
          go_ret2
          exact pends HPP.out HX.out HI5.out HBE5.out
    · have hd50 : decide (50 ≤ (l : Int)) = false := decide_eq_false (by omega)
      go_upto_if 32 with (fail)
      obtain ⟨w1, hw1⟩ : ∃ x, x = (w.alloc (.cells #[.func (.func g) #[] lb, .func (.func sf) #[] sb] 89)).alloc (.cells #[.int .i64 0] 3) := ⟨_, rfl⟩
      have hbe1 : Below w.heap.size w (w.alloc (.cells #[.func (.func g) #[] lb, .func (.func sf) #[] sb] 89)) := (Below.refl _ w).alloc (Nat.le_refl _) _
      have hbe2 : Below (w.alloc (.cells #[.func (.func g) #[] lb, .func (.func sf) #[] sb] 89)).heap.size (w.alloc (.cells #[.func (.func g) #[] lb, .func (.func sf) #[] sb] 89)) w1 := by rw [hw1]; exact (Below.refl _ _).alloc (Nat.le_refl _) _
      have HBE1 := Lib.hid (hbe1.trans (hbe2.mono hbe1.size))
      have HB1 : Hid (SBox w1 w.heap.size g lb sf sb blk) := SBox.on ⟨heap_alloc_new w _, by have := HBLK.out; omega⟩ hbe2
      obtain ⟨kc, hkc⟩ : ∃ k, k = w.heap.size + 1 := ⟨_, rfl⟩
      have HC1 : Hid (Cnt w1 kc ((0 : Nat) : Int)) := by
        show Cnt _ _ _
        have e : (w.alloc (.cells #[.func (.func g) #[] lb, .func (.func sf) #[] sb] 89)).heap.size = kc := by rw [hkc]; simp
        rw [hw1, ← e]
        exact heap_alloc_new _ _
      have hk0 : b0 ≤ kc := by omega
      have hk1 : w.heap.size ≤ kc := by omega
      have hne : B0 ≠ kc := by omega
      have HI1 := Lib.hid (HI0.out w1 HBE1.out)
      rw [← hw1, ← hkc, ← hB0]
      rw [← hB0] at HB1
      have c0 := HB1.out.c0
      have c1 := HB1.out.c1
      clear hw1 hkc hbe1 hbe2 hB0
      obtain ⟨rr, hr2⟩ : ∃ r, median lt d i j k 0 = r := ⟨_, rfl⟩
      obtain ⟨p2, s2⟩ := rr
      go_wp2_with fail
      refine (median_any S d w1 HI1.out i j k kc 0 (by rw [HN.out]; omega) (by rw [HN.out]; omega) (by rw [HN.out]; omega) HC1.out hk0 (by omega)).mono ?_
      rintro e w2 ⟨rfl, hi2, hc2, hg2⟩
      rw [hr2]
      rw [hr2] at hc2
      simp only at hc2
      have HR2 := Lib.hid hr2
      have HI2 := Lib.hid hi2
      have HC2 := Lib.hid hc2
      have HBE2 := Lib.hid (counted_below HBE1.out hg2 hk1)
      clear hi2 hc2 hg2 hr2 c0 c1
      have HC := HC2
      clear HC2
      have HPP : Hid (choosePivot lt d a b = (p2, hintOf s2)) := by
        show _ = _
        rw [HP.out, if_pos (by omega), if_neg (by omega), HR2.out]
      by_cases hs0 : s2 = 0
      · rw [hs0] at HPP HC
        have k0 := HC.out.c0
        rw [show ((0 : Nat) : Int) = 0 from rfl] at k0
        clear hs0
        go_wp2
        go_ret2
        exact pends HPP.out hint0 HI2.out HBE2.out
      · by_cases hs12 : s2 = 12
        · rw [hs12] at HPP HC
          have k0 := HC.out.c0
          rw [show ((12 : Nat) : Int) = 12 from rfl] at k0
          clear hs0 hs12
          go_wp2
          go_ret2
          exact pends HPP.out hint12 HI2.out HBE2.out
        · have k0 := HC.out.c0
          have e0 : ((s2 : Int) == 0) = false := beq_false_of_ne (by omega)
          have e12 : ((s2 : Int) == 12) = false := beq_false_of_ne (by omega)
          have HX := Lib.hid (hintx hs0 hs12)
          clear hs0 hs12
          go_wp2
          go_ret2
          exact pends HPP.out HX.out HI2.out HBE2.out
  · have hd8 : decide (8 ≤ (l : Int)) = false := decide_eq_false (by omega)
    go_upto_if 32 with (fail)
    obtain ⟨w1, hw1⟩ : ∃ x, x = (w.alloc (.cells #[.func (.func g) #[] lb, .func (.func sf) #[] sb] 89)).alloc (.cells #[.int .i64 0] 3) := ⟨_, rfl⟩
    have hbe1 : Below w.heap.size w (w.alloc (.cells #[.func (.func g) #[] lb, .func (.func sf) #[] sb] 89)) := (Below.refl _ w).alloc (Nat.le_refl _) _
    have hbe2 : Below (w.alloc (.cells #[.func (.func g) #[] lb, .func (.func sf) #[] sb] 89)).heap.size (w.alloc (.cells #[.func (.func g) #[] lb, .func (.func sf) #[] sb] 89)) w1 := by rw [hw1]; exact (Below.refl _ _).alloc (Nat.le_refl _) _
    have HBE1 := Lib.hid (hbe1.trans (hbe2.mono hbe1.size))
    have HB1 : Hid (SBox w1 w.heap.size g lb sf sb blk) := SBox.on ⟨heap_alloc_new w _, by have := HBLK.out; omega⟩ hbe2
    obtain ⟨kc, hkc⟩ : ∃ k, k = w.heap.size + 1 := ⟨_, rfl⟩
    have HC1 : Hid (Cnt w1 kc ((0 : Nat) : Int)) := by
      show Cnt _ _ _
      have e : (w.alloc (.cells #[.func (.func g) #[] lb, .func (.func sf) #[] sb] 89)).heap.size = kc := by rw [hkc]; simp
      rw [hw1, ← e]
      exact heap_alloc_new _ _
    have hk0 : b0 ≤ kc := by omega
    have hk1 : w.heap.size ≤ kc := by omega
    have hne : B0 ≠ kc := by omega
    have HI1 := Lib.hid (HI0.out w1 HBE1.out)
    rw [← hw1, ← hkc, ← hB0]
    rw [← hB0] at HB1
    have c0 := HB1.out.c0
    have c1 := HB1.out.c1
    clear hw1 hkc hbe1 hbe2 hB0
    have HC := HC1
    clear HC1
    have HPP : Hid (choosePivot lt d a b = (j, hintOf 0)) := by
      show _ = _
      rw [HP.out, if_neg (by omega)]
    have k0 := HC.out.c0
    rw [show ((0 : Nat) : Int) = 0 from rfl] at k0
    go_wp2
    go_ret2
    exact pends HPP.out hint0 HI1.out HBE1.out
end
end Go.Proofs.YtjocfkkcnkpjdaaDoor
