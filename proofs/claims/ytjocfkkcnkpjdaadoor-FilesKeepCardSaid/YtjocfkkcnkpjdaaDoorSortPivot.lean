/- The library's sort.Slice with a 'less' that may make memory: its choice of a pivot. -/
import Derived.Test.YtjocfkkcnkpjdaaDoorSortOps
import Derived.Sort.Walk13
import Derived.Laws.ResultCell
namespace Go.Proofs.YtjocfkkcnkpjdaaDoor
open Go.RowKit Go.Sort
set_option linter.unusedVariables false

/-- A counter in a block of its own. -/
def Cnt (W : World) (k : Nat) (n : Int) : Prop := W.heap[k]? = some (.cells #[.int .i64 n] 3 (0, 0))
section
variable {W w' : World} {k : Nat} {n : Int}
theorem Cnt.c0 (h : Cnt W k n) : W.cell? ⟨k, 0, none⟩ = some (.int .i64 n) := by rw [cell_of_row _ _ 0 _ _ _ h]; rfl
theorem Cnt.free (h : Cnt W k n) : W.frozen? ⟨k, 0, none⟩ = false := frozen_of_row W k 0 _ _ h
theorem Cnt.old (h : Cnt W k n) : k < W.heap.size := lt_of_block h
theorem Cnt.on (h : Cnt W k n) (hb : Below W.heap.size W w') : Cnt w' k n := (hb.block k h.old).trans h
theorem Cnt.set (h : Cnt W k n) (m : Int) : Cnt (W.setCell ⟨k, 0, none⟩ (.int .i64 m)) k m := box_set h 0 _
end
section
variable {α : Type} [Inhabited α] {lt : α → α → Bool} {g : Nat} {lb : Array Value} {sf : Nat} {sb : Array Value} {blk b0 B : Nat} {I : Array α → World → Prop} {W w' : World}
theorem SBox.counted {k : Nat} (h : SBox W B g lb sf sb blk) (hk : B ≠ k) (hg : W.grownBy w' (some k)) : SBox w' B g lb sf sb blk := ⟨(hg.block B h.old fun e => hk (Option.some.inj e)).trans h.1, h.2⟩
def O2Ends (I : Array α → World → Prop) (d : Array α) (kc : Nat) (r : Nat × Nat × Nat) (W : World) (e : Ending) (w' : World) : Prop := e = .returned (.tuple #[.int .i64 (r.1 : Int), .int .i64 (r.2.1 : Int)]) ∧ I d w' ∧ Cnt w' kc (r.2.2 : Int) ∧ W.grownBy w' (some kc)
def MEnds (I : Array α → World → Prop) (d : Array α) (kc : Nat) (r : Nat × Nat) (W : World) (e : Ending) (w' : World) : Prop := e = .returned (.int .i64 (r.1 : Int)) ∧ I d w' ∧ Cnt w' kc (r.2 : Int) ∧ W.grownBy w' (some kc)
set_option maxHeartbeats 4000000 in
set_option maxRecDepth 100000 in
theorem order2_any (S : SortOps lt g lb sf sb blk b0 I) (d : Array α) (w : World) (h : I d w) (a b kc s : Nat) (ha : a < d.size) (hb : b < d.size) (hc : Cnt w kc (s : Int)) (hkc : b0 ≤ kc) (hs : s ≤ 1000) :
    Calls Tryd.prog 88 #[lessSwap g lb sf sb, .int .i64 (a : Int), .int .i64 (b : Int), .pointer (some ⟨kc, 0, none⟩)] w (O2Ends I d kc (order2 lt d a b s) w) := by
  have eg := S.enters
  have hb1 : Below w.heap.size w (w.alloc (.cells #[.func (.func g) #[] lb, .func (.func sf) #[] sb] 89)) := (Below.refl _ w).alloc (Nat.le_refl _) _
  have HB1 : Hid (SBox (w.alloc (.cells #[.func (.func g) #[] lb, .func (.func sf) #[] sb] 89)) w.heap.size g lb sf sb blk) := ⟨heap_alloc_new w _, by have := (S.row d w h).1; omega⟩
  have hI1 : I d (w.alloc (.cells #[.func (.func g) #[] lb, .func (.func sf) #[] sb] 89)) := S.on d w _ h hb1
  have HBE1 := Lib.hid hb1
  have HC1 := Lib.hid (hc.on hb1)
  obtain ⟨q, hq⟩ : ∃ q, lt d[b]! d[a]! = q := ⟨_, rfl⟩
  have hl := S.less d _ b a hI1 hb ha
  rw [hq] at hl
  have HL := Lib.hid hl
  have HI1 := Lib.hid hI1
  have c0 := HB1.out.c0
  clear hl hI1 hb1 h hc ha hb
  unfold lessSwap
  cases q
  · have HR : Hid (order2 lt d a b s = (a, b, s)) := by show _ = _; unfold order2; rw [if_neg (by rw [hq]; decide)]
    clear hq
    go_enter Tryd.func88, Tryd.ntmps88
    go_wp2_with fail
    refine HL.out.mono ?_
    rintro e w3 ⟨rfl, hb3⟩
    have HE := Lib.hid hb3
    clear hb3 HL c0
    go_wp2
    go_ret2
    exact ⟨by rw [HR.out]; rfl, S.on d _ w3 HI1.out HE.out, by rw [HR.out]; exact HC1.out.on HE.out, grow_below (grow_below (grow_refl w _) HBE1.out) HE.out⟩
  · have HR : Hid (order2 lt d a b s = (b, a, s + 1)) := by show _ = _; unfold order2; rw [if_pos hq]
    clear hq
    go_enter Tryd.func88, Tryd.ntmps88
    go_wp2_with fail
    refine HL.out.mono ?_
    rintro e w3 ⟨rfl, hb3⟩
    have HE := Lib.hid hb3
    have HC3 := Lib.hid (HC1.out.on hb3)
    have c3 := HC3.out.c0
    have f3 := HC3.out.free
    clear hb3 HL c0
    go_wp2
    go_ret2
    have hg : w3.grownBy (w3.setCell ⟨kc, 0, none⟩ (.int .i64 ((s : Int) + 1))) (some kc) := grow_set (grow_refl w3 _) 0 _
    exact ⟨by rw [HR.out]; rfl, S.off d w3 _ kc (S.on d _ w3 HI1.out HE.out) hg hkc, by rw [HR.out]; exact HC3.out.set _, grow_trans (grow_below (grow_below (grow_refl w _) HBE1.out) HE.out) hg⟩
theorem order2_in (lt : α → α → Bool) (d : Array α) (a b s N : Nat) (ha : a < N) (hb : b < N) : (order2 lt d a b s).1 < N ∧ (order2 lt d a b s).2.1 < N ∧ (order2 lt d a b s).2.2 ≤ s + 1 := by
  unfold order2
  split <;> simp only <;> omega
theorem median_in (lt : α → α → Bool) (d : Array α) (a b c s N : Nat) (ha : a < N) (hb : b < N) (hc : c < N) : (median lt d a b c s).1 < N ∧ (median lt d a b c s).2 ≤ s + 3 := by
  unfold median
  obtain ⟨h1, h2, h3⟩ := order2_in lt d a b s N ha hb
  obtain ⟨h4, h5, h6⟩ := order2_in lt d (order2 lt d a b s).2.1 c (order2 lt d a b s).2.2 N h2 hc
  obtain ⟨h7, h8, h9⟩ := order2_in lt d (order2 lt d a b s).1 (order2 lt d (order2 lt d a b s).2.1 c (order2 lt d a b s).2.2).1 (order2 lt d (order2 lt d a b s).2.1 c (order2 lt d a b s).2.2).2.2 N h1 h4
  simp only
  omega
set_option maxHeartbeats 4000000 in
set_option maxRecDepth 100000 in
theorem median_any (S : SortOps lt g lb sf sb blk b0 I) (d : Array α) (w : World) (h : I d w) (a b c kc s : Nat) (ha : a < d.size) (hb : b < d.size) (hc : c < d.size) (hn : Cnt w kc (s : Int)) (hkc : b0 ≤ kc) (hs : s ≤ 900) :
    Calls Tryd.prog 87 #[lessSwap g lb sf sb, .int .i64 (a : Int), .int .i64 (b : Int), .int .i64 (c : Int), .pointer (some ⟨kc, 0, none⟩)] w (MEnds I d kc (median lt d a b c s) w) := by
  have hb1 : Below w.heap.size w (w.alloc (.cells #[.func (.func g) #[] lb, .func (.func sf) #[] sb] 89)) := (Below.refl _ w).alloc (Nat.le_refl _) _
  have HB1 : Hid (SBox (w.alloc (.cells #[.func (.func g) #[] lb, .func (.func sf) #[] sb] 89)) w.heap.size g lb sf sb blk) := ⟨heap_alloc_new w _, by have := (S.row d w h).1; omega⟩
  have hI1 : I d (w.alloc (.cells #[.func (.func g) #[] lb, .func (.func sf) #[] sb] 89)) := S.on d w _ h hb1
  have hne : w.heap.size ≠ kc := by have := hn.old; omega
  have HBE1 := Lib.hid hb1
  have HC1 := Lib.hid (hn.on hb1)
  obtain ⟨r1, hr1⟩ : ∃ r, order2 lt d a b s = r := ⟨_, rfl⟩
  obtain ⟨p1, q1, s1⟩ := r1
  obtain ⟨h1, h2, h3⟩ := order2_in lt d a b s d.size ha hb
  rw [hr1] at h1 h2 h3
  simp only at h1 h2 h3
  obtain ⟨r2, hr2⟩ : ∃ r, order2 lt d q1 c s1 = r := ⟨_, rfl⟩
  obtain ⟨p2, q2, s2⟩ := r2
  obtain ⟨h4, h5, h6⟩ := order2_in lt d q1 c s1 d.size h2 hc
  rw [hr2] at h4 h5 h6
  simp only at h4 h5 h6
  obtain ⟨r3, hr3⟩ : ∃ r, order2 lt d p1 p2 s2 = r := ⟨_, rfl⟩
  obtain ⟨p3, q3, s3⟩ := r3
  have HR : Hid (median lt d a b c s = (q3, s3)) := by
    show _ = _
    unfold median
    simp only
    rw [hr1]
    simp only
    rw [hr2]
    simp only
    rw [hr3]
  have HR1 := Lib.hid hr1
  have HR2 := Lib.hid hr2
  have HR3 := Lib.hid hr3
  have HI1 := Lib.hid hI1
  have c0 := HB1.out.c0
  have c1 := HB1.out.c1
  clear hr1 hr2 hr3 hI1 hb1 h hn
  go_enter Tryd.func87, Tryd.ntmps87
  unfold lessSwap
  go_wp2_with fail
  refine (order2_any S d _ HI1.out a b kc s (by omega) (by omega) HC1.out hkc (by omega)).mono ?_
  rintro e w2 ⟨rfl, hi2, hc2, hg2⟩
  rw [HR1.out]
  rw [HR1.out] at hc2
  simp only at hc2
  have HI2 := Lib.hid hi2
  have HC2 := Lib.hid hc2
  have HB2 := Lib.hid (HB1.out.counted hne hg2)
  have HG2 : Hid (w.grownBy w2 (some kc)) := grow_trans (grow_below (grow_refl w _) HBE1.out) hg2
  clear hi2 hc2 hg2 c0 c1
  have c0 := HB2.out.c0
  have c1 := HB2.out.c1
  go_wp2_with fail
  refine (order2_any S d _ HI2.out q1 c kc s1 (by omega) (by omega) HC2.out hkc (by omega)).mono ?_
  rintro e w3 ⟨rfl, hi3, hc3, hg3⟩
  rw [HR2.out]
  rw [HR2.out] at hc3
  simp only at hc3
  have HI3 := Lib.hid hi3
  have HC3 := Lib.hid hc3
  have HB3 := Lib.hid (HB2.out.counted hne hg3)
  have HG3 : Hid (w.grownBy w3 (some kc)) := grow_trans HG2.out hg3
  clear hi3 hc3 hg3 c0 c1
  have c0 := HB3.out.c0
  have c1 := HB3.out.c1
  go_wp2_with fail
  refine (order2_any S d _ HI3.out p1 p2 kc s2 (by omega) (by omega) HC3.out hkc (by omega)).mono ?_
  rintro e w4 ⟨rfl, hi4, hc4, hg4⟩
  rw [HR3.out]
  rw [HR3.out] at hc4
  simp only at hc4
  have HI4 := Lib.hid hi4
  have HC4 := Lib.hid hc4
  have HB4 := Lib.hid (HB3.out.counted hne hg4)
  have HG4 : Hid (w.grownBy w4 (some kc)) := grow_trans HG3.out hg4
  clear hi4 hc4 hg4 c0 c1
  have c0 := HB4.out.c0
  have c1 := HB4.out.c1
  go_wp2
  go_ret
  exact ⟨by rw [HR.out]; rfl, HI4.out, by rw [HR.out]; exact HC4.out, HG4.out⟩
set_option maxHeartbeats 4000000 in
set_option maxRecDepth 100000 in
theorem medianAdjacent_any (S : SortOps lt g lb sf sb blk b0 I) (d : Array α) (w : World) (h : I d w) (a kc s : Nat) (ha1 : 1 ≤ a) (ha : a + 1 < d.size) (hn : Cnt w kc (s : Int)) (hkc : b0 ≤ kc) (hs : s ≤ 900) :
    Calls Tryd.prog 86 #[lessSwap g lb sf sb, .int .i64 (a : Int), .pointer (some ⟨kc, 0, none⟩)] w (MEnds I d kc (medianAdjacent lt d a s) w) := by
  have hb1 : Below w.heap.size w (w.alloc (.cells #[.func (.func g) #[] lb, .func (.func sf) #[] sb] 89)) := (Below.refl _ w).alloc (Nat.le_refl _) _
  have HB1 : Hid (SBox (w.alloc (.cells #[.func (.func g) #[] lb, .func (.func sf) #[] sb] 89)) w.heap.size g lb sf sb blk) := ⟨heap_alloc_new w _, by have := (S.row d w h).1; omega⟩
  have hI1 : I d (w.alloc (.cells #[.func (.func g) #[] lb, .func (.func sf) #[] sb] 89)) := S.on d w _ h hb1
  have hd := (S.row d w h).2
  have HBE1 := Lib.hid hb1
  have HC1 := Lib.hid (hn.on hb1)
  have HI1 := Lib.hid hI1
  have c0 := HB1.out.c0
  have c1 := HB1.out.c1
  have HM := Lib.hid (median_any S d _ hI1 (a - 1) a (a + 1) kc s (by omega) (by omega) ha (hn.on hb1) hkc hs)
  have e1 : ((a - 1 : Nat) : Int) = (a : Int) - 1 := by omega
  have e2 : ((a + 1 : Nat) : Int) = (a : Int) + 1 := by omega
  rw [e1, e2] at HM
  clear hI1 hb1 h hn e1 e2
  go_enter Tryd.func86, Tryd.ntmps86
  unfold lessSwap
  go_wp2_with fail
  refine HM.out.mono ?_
  rintro e w2 ⟨rfl, hi2, hc2, hg2⟩
  have HI2 := Lib.hid hi2
  have HC2 := Lib.hid hc2
  have HG2 := Lib.hid (grow_trans (grow_below (grow_refl w _) HBE1.out) hg2)
  clear hi2 hc2 hg2 HM c0 c1
  go_wp2
  go_ret
  exact ⟨rfl, HI2.out, HC2.out, HG2.out⟩
end
end Go.Proofs.YtjocfkkcnkpjdaaDoor
