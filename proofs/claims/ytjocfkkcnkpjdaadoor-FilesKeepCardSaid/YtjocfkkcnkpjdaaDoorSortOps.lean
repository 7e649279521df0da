/- The library's sort.Slice with a 'less' that may make memory: what is asked of 'less' and of 'swap', told by a predicate on worlds; its insertion sort. -/
import Derived.Test.YtjocfkkcnkpjdaaDoorGrow
import Derived.Sort.WalkA
import Derived.BigGuard
import Derived.Lib.Hide
namespace Go.Proofs.YtjocfkkcnkpjdaaDoor
open Go.RowKit Go.Sort
set_option linter.unusedVariables false

/-- I d W: in the world W what is sorted holds d. -/
structure SortOps {α : Type} [Inhabited α] (lt : α → α → Bool) (g : Nat) (lb : Array Value) (sf : Nat) (sb : Array Value) (blk b0 : Nat) (I : Array α → World → Prop) : Prop where
  enters : ∀ args w, (callFunc g args).run Tryd.prog w = .ok (.enter g args) w
  less : ∀ (d : Array α) W (i j : Nat), I d W → i < d.size → j < d.size → Calls Tryd.prog g (#[.int .i64 (i : Int), .int .i64 (j : Int)] ++ lb) W fun e w' => e = .returned (.bool (lt d[i]! d[j]!)) ∧ Below W.heap.size W w'
  swap : ∀ (d : Array α) W (i j : Nat), I d W → i < d.size → j < d.size → ∃ w', (callFunc sf (#[.int .i64 (i : Int), .int .i64 (j : Int)] ++ sb)).run Tryd.prog W = .ok (.value (.tuple #[])) w' ∧ I (swp d i j) w' ∧ W.grownBy w' (some blk)
  on : ∀ (d : Array α) W w', I d W → Below W.heap.size W w' → I d w'
  row : ∀ (d : Array α) W, I d W → blk < W.heap.size ∧ d.size ≤ 1000000
  off : ∀ (d : Array α) W w' (k : Nat), I d W → W.grownBy w' (some k) → b0 ≤ k → I d w'
  old : ∀ (d : Array α) W, I d W → b0 ≤ W.heap.size ∧ blk < b0
/-- The pair of functions, as a value. -/
def lessSwap (g : Nat) (lb : Array Value) (sf : Nat) (sb : Array Value) : Value := .agg #[.func (.func g) #[] lb, .func (.func sf) #[] sb]
/-- The same in a box of a function's own. -/
def SBox (W : World) (B g : Nat) (lb : Array Value) (sf : Nat) (sb : Array Value) (blk : Nat) : Prop := W.heap[B]? = some (.cells #[.func (.func g) #[] lb, .func (.func sf) #[] sb] 89 (0, 0)) ∧ B ≠ blk
section
variable {α : Type} [Inhabited α] {lt : α → α → Bool} {g : Nat} {lb : Array Value} {sf : Nat} {sb : Array Value} {blk b0 B : Nat} {I : Array α → World → Prop} {W w' : World}
theorem SBox.c0 (h : SBox W B g lb sf sb blk) : W.cell? ⟨B, 0, none⟩ = some (.func (.func g) #[] lb) := by rw [cell_of_row _ _ 0 _ _ _ h.1]; rfl
theorem SBox.c1 (h : SBox W B g lb sf sb blk) : W.cell? ⟨B, 1, none⟩ = some (.func (.func sf) #[] sb) := by rw [cell_of_row _ _ 1 _ _ _ h.1]; rfl
theorem SBox.old (h : SBox W B g lb sf sb blk) : B < W.heap.size := lt_of_block h.1
theorem SBox.on (h : SBox W B g lb sf sb blk) (hb : Below W.heap.size W w') : SBox w' B g lb sf sb blk := ⟨(hb.block B h.old).trans h.1, h.2⟩
theorem SBox.grown (h : SBox W B g lb sf sb blk) (hg : W.grownBy w' (some blk)) : SBox w' B g lb sf sb blk := ⟨(hg.block B h.old fun e => h.2 (Option.some.inj e)).trans h.1, h.2⟩
/-- What each of them gives. -/
def SEnds (I : Array α → World → Prop) (blk : Nat) (d : Array α) (W : World) (e : Ending) (w' : World) : Prop := e = .returned (.tuple #[]) ∧ I d w' ∧ W.grownBy w' (some blk)
theorem ins_size (lt : α → α → Bool) (a : Nat) : ∀ (j : Nat) (d : Array α), (insInner lt a j d).size = d.size
  | 0, d => by rw [insInner]
  | j + 1, d => by
    rw [insInner]
    split
    · rw [ins_size lt a j, size_swp]
    · rfl
set_option maxHeartbeats 4000000 in
set_option maxRecDepth 100000 in
theorem insertion_any (S : SortOps lt g lb sf sb blk b0 I) (d : Array α) (w : World) (h : I d w) (a b : Nat) (hab : a ≤ b) (hb : b ≤ d.size) :
    Calls Tryd.prog 73 #[lessSwap g lb sf sb, .int .i64 (a : Int), .int .i64 (b : Int)] w (SEnds I blk (Sort.insertionSort lt d a b) w) := by
  have hd := (S.row d w h).2
  have eg := S.enters
  obtain ⟨N, hN⟩ : ∃ N, d.size = N := ⟨_, rfl⟩
  rw [hN] at hb hd
  have HB1 : Hid (SBox (w.alloc (.cells #[.func (.func g) #[] lb, .func (.func sf) #[] sb] 89)) w.heap.size g lb sf sb blk) := ⟨heap_alloc_new w _, by have := (S.row d w h).1; omega⟩
  have HI1 : Hid (I d (w.alloc (.cells #[.func (.func g) #[] lb, .func (.func sf) #[] sb] 89))) := S.on d w _ h ((Below.refl _ w).alloc (Nat.le_refl _) _)
  have HG1 : Hid (w.grownBy (w.alloc (.cells #[.func (.func g) #[] lb, .func (.func sf) #[] sb] 89)) (some blk)) := grow_alloc (grow_refl w _) _
  have HN := Lib.hid hN
  clear h hN
  unfold lessSwap
  go_enter Tryd.func73, Tryd.ntmps73
  go_wp2
  obtain ⟨k, hk⟩ : ∃ k, k = w.heap.size := ⟨_, rfl⟩
  rw [← hk]
  rw [← hk] at HB1
  clear hk
  go_loopw [6] (fun vi wr => ∃ (i : Nat) (dk : Array α), vi = .int .i64 (i : Int) ∧ a < i ∧ i ≤ b + 1 ∧ Hid (dk.size = N) ∧ Hid (I dk wr) ∧ Hid (w.grownBy wr (some blk)) ∧ Hid (SBox wr k g lb sf sb blk) ∧ Hid (insOuter lt a b i dk = insOuter lt a b (a + 1) d)) (fun vi _ => b + 1 - (intOf vi).toNat)
  case atStart => exact ⟨a + 1, d, by go_num, by omega, by omega, HN.out, HI1.out, HG1.out, HB1.out, rfl⟩
  case round =>
    obtain ⟨i, dk, rfl, hai, hib, HS, HI, HG, HB, HO⟩ := hrel
    obtain ⟨w1, hw1⟩ : ∃ x : World, x = wr := ⟨_, rfl⟩
    subst hw1
    by_cases hib2 : i < b
    · have hdi : decide ((i : Int) < (b : Int)) = true := decide_eq_true (by omega)
      go_wp2
      go_loopw [7] (fun vj wr => ∃ (j : Nat) (dj : Array α), vj = .int .i64 (j : Int) ∧ a ≤ j ∧ j ≤ i ∧ Hid (dj.size = N) ∧ Hid (I dj wr) ∧ Hid (w.grownBy wr (some blk)) ∧ Hid (SBox wr k g lb sf sb blk) ∧ Hid (insInner lt a j dj = insInner lt a i dk)) (fun vj _ => (intOf vj).toNat)
      case atStart => exact ⟨i, dk, rfl, by omega, Nat.le_refl _, HS.out, HI.out, HG.out, HB.out, rfl⟩
      case round =>
        obtain ⟨j, dj, rfl, haj, hji, HSJ, HIJ, HGJ, HBJ, HOJ⟩ := hrel
        obtain ⟨w2, hw2⟩ : ∃ x : World, x = wr := ⟨_, rfl⟩
        subst hw2
        have c0 := HBJ.out.c0
        by_cases hja : a < j
        · have hdj : decide ((a : Int) < (j : Int)) = true := decide_eq_true (by omega)
          have hjN : j < dj.size := by rw [HSJ.out]; omega
          have hl0 := S.less dj w2 j (j - 1) HIJ.out hjN (by omega)
          rw [show (((j - 1 : Nat) : Int)) = (j : Int) - 1 by omega] at hl0
          obtain ⟨q, hq⟩ : ∃ q, lt dj[j]! dj[j - 1]! = q := ⟨_, rfl⟩
          rw [hq] at hl0
          have HL := Lib.hid hl0
          clear hl0
          cases q
          · have HST := Lib.hid (insInner_stop lt a j dj (.inr hq))
            clear hq
            go_wp2_with fail
            refine HL.out.mono ?_
            rintro e w3 ⟨rfl, hb3⟩
            have HE := Lib.hid hb3
            clear hb3 HL
            go_wp2
            go_roundw
            case rel =>
              have hb3 := HE.out
              exact ⟨i + 1, dj, by go_num, by omega, by omega, HSJ.out, S.on dj w2 w3 HIJ.out hb3, grow_below HGJ.out hb3, HBJ.out.on hb3, by show _ = _; rw [← HO.out, insOuter_go lt a b i dk hib2, ← HOJ.out, HST.out]⟩
            case measure => simp [intOf]; omega
          · have HST := Lib.hid (insInner_go lt a j dj hja hq)
            clear hq
            go_wp2_with fail
            refine HL.out.mono ?_
            rintro e w3 ⟨rfl, hb3⟩
            have HE := Lib.hid hb3
            clear hb3 HL
            have hb3 := HE.out
            have HI3 := S.on dj w2 w3 HIJ.out hb3
            have HB3 := HBJ.out.on hb3
            obtain ⟨w4, hrun, hi4, hg4⟩ := S.swap dj w3 j (j - 1) HI3 hjN (by omega)
            rw [show (((j - 1 : Nat) : Int)) = (j : Int) - 1 by omega] at hrun
            have HI4 := Lib.hid hi4
            have HG4 := Lib.hid (grow_trans (grow_below HGJ.out hb3) hg4)
            have HB4 := Lib.hid (HB3.grown hg4)
            have c1 := HB3.c1
            clear hi4 hg4 hb3 HI3 HB3
            go_wp2
            go_roundw
            case rel =>
              exact ⟨j - 1, swp dj j (j - 1), by go_num, by omega, by omega, by show _ = _; rw [size_swp]; exact HSJ.out, HI4.out, HG4.out, HB4.out, by show _ = _; rw [← HST.out]; exact HOJ.out⟩
            case measure => simp [intOf]; omega
        · have hdj : decide ((a : Int) < (j : Int)) = false := decide_eq_false (by omega)
          have HST := Lib.hid (insInner_stop lt a j dj (.inl (by omega)))
          go_wp2
          go_roundw
          case rel =>
            exact ⟨i + 1, dj, by go_num, by omega, by omega, HSJ.out, HIJ.out, HGJ.out, HBJ.out, by show _ = _; rw [← HO.out, insOuter_go lt a b i dk hib2, ← HOJ.out, HST.out]⟩
          case measure => simp [intOf]; omega
    · have hdi : decide ((i : Int) < (b : Int)) = false := decide_eq_false (by omega)
      go_wp2
      go_end0
      have e : Sort.insertionSort lt d a b = dk := by unfold Sort.insertionSort; rw [← HO.out, insOuter_stop lt a b i dk hib2]
      exact ⟨rfl, by rw [e]; exact HI.out, HG.out⟩
end
end Go.Proofs.YtjocfkkcnkpjdaaDoor
