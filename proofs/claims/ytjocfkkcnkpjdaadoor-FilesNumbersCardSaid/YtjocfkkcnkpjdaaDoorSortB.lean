/- The library's sort.Slice with a 'less' that may make memory: its partitions. The library's sort.Slice with a 'less' that may make memory: its partitions. The library's sort.Slice with a 'less' that may make memory: its partial insertion sort. The library's sort.Slice with a 'less' that may make memory: pdqsort_func, whole. sort.Slice over names, by a 'less' that makes memory: what List's own closure tells; the row is sorted. -/
import Derived.Test.YtjocfkkcnkpjdaaDoorSortA
import Derived.Sort.WalkC4
import Derived.Deep.CutBlock
import Derived.Sort.AssemblyPlain
import Derived.Test.YtjocfkkcnkpjdaaDoorNameLessOne
import Derived.Test.YtjocfkkcnkpjdaaDoorCfMem
import Derived.Test.YtjocfkkcnkpjdaaDoorRegionZ
import Derived.Shelf.SlSortFunc.BreakPatterns
import Derived.Shelf.GgSortFunc.Tiny
import Derived.Sort.WalkA14
/-! The library's sort.Slice with a 'less' that may make memory: its partitions. -/
namespace Go.Proofs.YtjocfkkcnkpjdaaDoor
open Go.RowKit Go.Sort
set_option linter.unusedVariables false

section
variable {α : Type} [Inhabited α] {lt : α → α → Bool} {g : Nat} {lb : Array Value} {sf : Nat} {sb : Array Value} {blk b0 B : Nat} {I : Array α → World → Prop} {W w' : World}
def PartEnds (I : Array α → World → Prop) (blk : Nat) (r : Nat × Bool × Array α) (W : World) (e : Ending) (w' : World) : Prop := e = .returned (.tuple #[.int .i64 (r.1 : Int), .bool r.2.1]) ∧ I r.2.2 w' ∧ W.grownBy w' (some blk)
omit [Inhabited α] in
theorem part_ends {r : Nat × Bool × Array α} {m : Nat} {q : Bool} {d' : Array α} {w w1 : World} (hr : r = (m, q, d')) (hi : I d' w1) (hg : w.grownBy w1 (some blk)) : PartEnds I blk r w (.returned (.tuple #[.int .i64 (m : Int), .bool q])) w1 := by
  subst hr
  exact ⟨rfl, hi, hg⟩
def EqEnds (I : Array α → World → Prop) (blk : Nat) (r : Nat × Array α) (W : World) (e : Ending) (w' : World) : Prop := e = .returned (.int .i64 (r.1 : Int)) ∧ I r.2 w' ∧ W.grownBy w' (some blk)
omit [Inhabited α] in
theorem eq_ends {r : Nat × Array α} {m : Nat} {d' : Array α} {w w1 : World} (hr : r = (m, d')) (hi : I d' w1) (hg : w.grownBy w1 (some blk)) : EqEnds I blk r w (.returned (.int .i64 (m : Int))) w1 := by
  subst hr
  exact ⟨rfl, hi, hg⟩
set_option maxHeartbeats 16000000 in
set_option maxRecDepth 100000 in
theorem partition_any (S : SortOps lt g lb sf sb blk b0 I) (d : Array α) (w : World) (h : I d w) (a b p : Nat) (hap : a ≤ p) (hpb : p < b) (hb : b ≤ d.size) :
    Calls Tryd.prog 80 #[lessSwap g lb sf sb, .int .i64 (a : Int), .int .i64 (b : Int), .int .i64 (p : Int)] w (PartEnds I blk (Sort.partition lt d a b p) w) := by
  have hd := (S.row d w h).2
  have eg := S.enters
  obtain ⟨N, hN⟩ : ∃ N, d.size = N := ⟨_, rfl⟩
  rw [hN] at hb hd
  obtain ⟨k, hk⟩ : ∃ k, k = w.heap.size := ⟨_, rfl⟩
  obtain ⟨w1, hw1⟩ : ∃ x, x = w.alloc (.cells #[.func (.func g) #[] lb, .func (.func sf) #[] sb] 89) := ⟨_, rfl⟩
  have HB1 : Hid (SBox w1 k g lb sf sb blk) := by show SBox _ _ _ _ _ _ _; rw [hw1, hk]; exact ⟨heap_alloc_new w _, by have := (S.row d w h).1; omega⟩
  have HI1 : Hid (I d w1) := by show I _ _; rw [hw1]; exact S.on d w _ h ((Below.refl _ w).alloc (Nat.le_refl _) _)
  have HG1 : Hid (w.grownBy w1 (some blk)) := by show World.grownBy _ _ _; rw [hw1]; exact grow_alloc (grow_refl w _) _
  have HDN := Lib.hid hN
  obtain ⟨d0, hd0⟩ : ∃ x, x = swp d a p := ⟨_, rfl⟩
  have HD0 := Lib.hid hd0
  have HDN0 : Hid (d0.size = N) := by show _ = _; rw [hd0, size_swp]; exact hN
  obtain ⟨i0, hi0⟩ : ∃ x, x = a + 1 := ⟨_, rfl⟩
  obtain ⟨j0, hj0⟩ : ∃ x, x = b - 1 := ⟨_, rfl⟩
  have hi0I : (a : Int) + 1 = (i0 : Int) := by omega
  have hj0I : (b : Int) - 1 = (j0 : Int) := by omega
  have hij0 : i0 ≤ j0 + 1 := by omega
  have hj0N : j0 < N := by omega
  have hai0 : a < i0 := by omega
  have HIE := Lib.hid hi0
  have HJE := Lib.hid hj0
  have HW1 := Lib.hid hw1
  have HK := Lib.hid hk
  clear h hN hd0 hi0 hj0 hw1 hk
  unfold lessSwap
  go_enter Tryd.func80, Tryd.ntmps80
  go_upto_region 1 with fail
  rw [← HW1.out, ← HK.out]
  have HBs := HB1.out
  obtain ⟨w2, hrun2, hi2, hg2⟩ := S.swap d w1 (a) (p) HI1.out (by rw [HDN.out]; omega) (by rw [HDN.out]; omega)
  have HI2 := Lib.hid hi2
  have HG2 := Lib.hid (grow_trans HG1.out hg2)
  have HB2 := Lib.hid (HBs.grown hg2)
  have cs1 := HBs.c1
  clear hi2 hg2 HBs
  rw [← HD0.out] at HI2
  clear HDN HI1 HG1 HB1
  have HDN := HDN0
  clear HDN0
  obtain ⟨i2, hi2⟩ : ∃ i, i = scanUp (fun x => lt x d0[a]!) d0 j0 i0 := ⟨_, rfl⟩
  have Hi2 := Lib.hid hi2
  obtain ⟨j2, hj2⟩ : ∃ j, j = scanDown (fun x => !lt x d0[a]!) d0 i2 j0 := ⟨_, rfl⟩
  have Hj2 := Lib.hid hj2
  clear hi2 hj2
  go_upto_block 0 with fail
  go_cut [10] from 21 to 32 (fun s wx => s = .int .i64 (i2 : Int) ∧ (i0 ≤ i2 ∧ i2 ≤ j0 + 1) ∧ Hid (I d0 wx) ∧ Hid (w.grownBy wx (some blk)) ∧ Hid (SBox wx k g lb sf sb blk))
  case first =>
    go_wp2_with fail
    go_loopw [10] (fun v wr => ∃ z9 : Nat, v = .int .i64 (z9 : Int) ∧ (i0 ≤ z9 ∧ z9 ≤ j0 + 1 ∧ Hid (scanUp (fun x => lt x d0[a]!) d0 j0 z9 = i2)) ∧ Hid (I d0 wr) ∧ Hid (w.grownBy wr (some blk)) ∧ Hid (SBox wr k g lb sf sb blk)) (fun v _ => j0 + 1 - (intOf v).toNat)
    case atStart => exact ⟨i0, rfl, ⟨Nat.le_refl _, by omega, Hi2.out.symm⟩, HI2.out, HG2.out, HB2.out⟩
    case round =>
      obtain ⟨xu, rfl, ⟨hx0, hx1, HSx⟩, HIx, HGx, HBx⟩ := hrel
      obtain ⟨wa, hwa⟩ : ∃ y : World, y = wr := ⟨_, rfl⟩
      subst hwa
      have c0 := HBx.out.c0
      by_cases hxj : (xu : Nat) ≤ j0
      · have hd : decide ((xu : Int) ≤ (j0 : Int)) = true := decide_eq_true (by omega)
        obtain ⟨q, hq⟩ : ∃ q, lt d0[xu]! d0[a]! = q := ⟨_, rfl⟩
        have hl1 := S.less d0 wa (xu) (a) HIx.out (by rw [HDN.out]; omega) (by rw [HDN.out]; omega)
        rw [hq] at hl1
        have HL1 := Lib.hid hl1
        clear hl1
        cases q
        · skip
          have hst := scanUp_end (fun x => lt x d0[a]!) d0 j0 xu (.inr (by simp [hq]))
          rw [HSx.out] at hst
          have HST : Hid (xu = i2) := hst.symm
          clear hst hq
          go_wp2_with fail
          refine HL1.out.mono ?_
          rintro e wb ⟨rfl, hb2⟩
          have HE2 := Lib.hid hb2
          clear hb2
          go_wp2
          go_meet
          case rel =>
            have hx3 : xu = i2 := HST.out
            exact ⟨by rw [hx3], ⟨by omega, by omega⟩, S.on d0 wa wb HIx.out HE2.out, grow_below HGx.out HE2.out, HBx.out.on HE2.out⟩
        · skip
          have hgo := scanUp_go (fun x => lt x d0[a]!) d0 j0 xu hxj (by simp [hq])
          rw [HSx.out] at hgo
          have HGO := Lib.hid hgo
          clear hgo hq
          go_wp2_with fail
          refine HL1.out.mono ?_
          rintro e wb ⟨rfl, hb3⟩
          have HE3 := Lib.hid hb3
          clear hb3
          go_wp2
          go_roundw
          case rel => exact ⟨xu + 1, by go_num, ⟨by omega, by omega, HGO.out.symm⟩, S.on d0 wa wb HIx.out HE3.out, grow_below HGx.out HE3.out, HBx.out.on HE3.out⟩
          case measure => first | (simp [intOf]; done) | (simp [intOf]; omega)
      · skip
        have hd : decide ((xu : Int) ≤ (j0 : Int)) = false := decide_eq_false (by omega)
        have hst := scanUp_end (fun x => lt x d0[a]!) d0 j0 xu (.inl hxj)
        rw [HSx.out] at hst
        have HST : Hid (xu = i2) := hst.symm
        clear hst
        go_wp2
        go_meet
        case rel =>
          have hx3 : xu = i2 := HST.out
          exact ⟨by rw [hx3], ⟨by omega, by omega⟩, HIx.out, HGx.out, HBx.out⟩
  case rest =>
    obtain ⟨rfl, ⟨hi2a, hi2b⟩, HI3, HG3, HB3⟩ := hcut
    go_upto_block 2 with fail
    go_cut [11] from 33 to 45 (fun s wx => s = .int .i64 (j2 : Int) ∧ (j2 ≤ j0 ∧ i2 ≤ j2 + 1) ∧ Hid (I d0 wx) ∧ Hid (w.grownBy wx (some blk)) ∧ Hid (SBox wx k g lb sf sb blk))
    case first =>
      go_wp2_with fail
      go_loopw [11] (fun v wr => ∃ z9 : Nat, v = .int .i64 (z9 : Int) ∧ (z9 ≤ j0 ∧ i2 ≤ z9 + 1 ∧ Hid (scanDown (fun x => !lt x d0[a]!) d0 i2 z9 = j2)) ∧ Hid (I d0 wr) ∧ Hid (w.grownBy wr (some blk)) ∧ Hid (SBox wr k g lb sf sb blk)) (fun v _ => (intOf v).toNat)
      case atStart => exact ⟨j0, rfl, ⟨Nat.le_refl _, by omega, Hj2.out.symm⟩, HI3.out, HG3.out, HB3.out⟩
      case round =>
        obtain ⟨xv, rfl, ⟨hx0, hx1, HSx⟩, HIx, HGx, HBx⟩ := hrel
        obtain ⟨wa, hwa⟩ : ∃ y : World, y = wr := ⟨_, rfl⟩
        subst hwa
        have c0 := HBx.out.c0
        by_cases hxj : (i2 : Nat) ≤ xv
        · have hd : decide ((i2 : Int) ≤ (xv : Int)) = true := decide_eq_true (by omega)
          obtain ⟨q, hq⟩ : ∃ q, lt d0[xv]! d0[a]! = q := ⟨_, rfl⟩
          have hl4 := S.less d0 wa (xv) (a) HIx.out (by rw [HDN.out]; omega) (by rw [HDN.out]; omega)
          rw [hq] at hl4
          have HL4 := Lib.hid hl4
          clear hl4
          cases q
          · skip
            have hgo := scanDown_go (fun x => !lt x d0[a]!) d0 i2 xv hxj (by omega) (by simp [hq])
            rw [HSx.out] at hgo
            have HGO := Lib.hid hgo
            clear hgo hq
            go_wp2_with fail
            refine HL4.out.mono ?_
            rintro e wb ⟨rfl, hb6⟩
            have HE6 := Lib.hid hb6
            clear hb6
            go_wp2
            go_roundw
            case rel => exact ⟨xv - 1, by go_num, ⟨by omega, by omega, HGO.out.symm⟩, S.on d0 wa wb HIx.out HE6.out, grow_below HGx.out HE6.out, HBx.out.on HE6.out⟩
            case measure => first | (simp [intOf]; done) | (simp [intOf]; omega)
          · skip
            have hst := scanDown_end (fun x => !lt x d0[a]!) d0 i2 xv (.inr (by simp [hq]))
            rw [HSx.out] at hst
            have HST : Hid (xv = j2) := hst.symm
            clear hst hq
            go_wp2_with fail
            refine HL4.out.mono ?_
            rintro e wb ⟨rfl, hb5⟩
            have HE5 := Lib.hid hb5
            clear hb5
            go_wp2
            go_meet
            case rel =>
              have hx3 : xv = j2 := HST.out
              exact ⟨by rw [hx3], ⟨by omega, by omega⟩, S.on d0 wa wb HIx.out HE5.out, grow_below HGx.out HE5.out, HBx.out.on HE5.out⟩
        · skip
          have hd : decide ((i2 : Int) ≤ (xv : Int)) = false := decide_eq_false (by omega)
          have hst := scanDown_end (fun x => !lt x d0[a]!) d0 i2 xv (.inl hxj)
          rw [HSx.out] at hst
          have HST : Hid (xv = j2) := hst.symm
          clear hst
          go_wp2
          go_meet
          case rel =>
            have hx3 : xv = j2 := HST.out
            exact ⟨by rw [hx3], ⟨by omega, by omega⟩, HIx.out, HGx.out, HBx.out⟩
    case rest =>
      obtain ⟨rfl, ⟨hj2a, hj2b⟩, HI4, HG4, HB4⟩ := hcut
      clear HI2 HG2 HB2 HI3 HG3 HB3 hrun2 cs1
      by_cases hlt : j2 < i2
      · have hdl : decide ((j2 : Int) < (i2 : Int)) = true := decide_eq_true (by omega)
        have HR := Lib.hid (part_first_break lt d a b p HIE.out HJE.out HD0.out Hi2.out Hj2.out hlt)
        have HBs := HB4.out
        obtain ⟨w5, hrun5, hi5, hg5⟩ := S.swap d0 _ (j2) (a) HI4.out (by rw [HDN.out]; omega) (by rw [HDN.out]; omega)
        have HI5 := Lib.hid hi5
        have HG5 := Lib.hid (grow_trans HG4.out hg5)
        have HB5 := Lib.hid (HBs.grown hg5)
        have cs1 := HBs.c1
        clear hi5 hg5 HBs
        go_wp2
        go_ret2
        exact part_ends HR.out HI5.out HG5.out
      · have hdl : decide ((j2 : Int) < (i2 : Int)) = false := decide_eq_false (by omega)
        have hlt2 := part_scans_lt lt a i0 j0 d0 (by omega) Hi2.out Hj2.out (by omega)
        have HR := Lib.hid (part_first_go lt d a b p HIE.out HJE.out HD0.out Hi2.out Hj2.out (by omega))
        have HBs := HB4.out
        obtain ⟨w5, hrun5, hi5, hg5⟩ := S.swap d0 _ (i2) (j2) HI4.out (by rw [HDN.out]; omega) (by rw [HDN.out]; omega)
        have HI5 := Lib.hid hi5
        have HG5 := Lib.hid (grow_trans HG4.out hg5)
        have HB5 := Lib.hid (HBs.grown hg5)
        have cs1 := HBs.c1
        clear hi5 hg5 HBs
        have HDN5 : Hid ((swp d0 i2 j2).size = N) := by show _ = _; rw [size_swp]; exact HDN.out
        obtain ⟨d2, hd2⟩ : ∃ x, x = swp d0 i2 j2 := ⟨_, rfl⟩
        rw [← hd2] at HI5 HDN5 HR
        obtain ⟨x1, hx1⟩ : ∃ x, x = i2 + 1 := ⟨_, rfl⟩
        obtain ⟨y1, hy1⟩ : ∃ x, x = j2 - 1 := ⟨_, rfl⟩
        have hx1I : (i2 : Int) + 1 = (x1 : Int) := by omega
        have hy1I : (j2 : Int) - 1 = (y1 : Int) := by omega
        rw [← hx1, ← hy1] at HR
        have hxy : x1 ≤ y1 + 1 := by omega
        have hyN : y1 < N := by omega
        have hax : a < x1 := by omega
        clear hd2 hx1 hy1 HDN HI4 HG4 HB4
        go_upto_block 4 with fail
        go_wp2_with fail
        clear hrun5 cs1 hx1I hy1I
        go_loopw [10, 11] (fun v10 v11 wr => ∃ (x y : Nat) (dk : Array α), v10 = .int .i64 (x : Int) ∧ v11 = .int .i64 (y : Int) ∧ a < x ∧ x ≤ y + 1 ∧ y < N ∧ Hid (dk.size = N) ∧ Hid (I dk wr) ∧ Hid (w.grownBy wr (some blk)) ∧ Hid (SBox wr k g lb sf sb blk) ∧ Hid (partLoop lt a x y dk = partLoop lt a x1 y1 d2)) (fun v10 v11 _ => (intOf v11 + 1 - intOf v10).toNat)
        case atStart => exact ⟨x1, y1, d2, rfl, rfl, hax, hxy, hyN, HDN5.out, HI5.out, HG5.out, HB5.out, rfl⟩
        case round =>
          obtain ⟨x, y, dk, rfl, rfl, hxa, hxy2, hyN2, HDN, HI6, HG6, HB6, HO⟩ := hrel
          clear HI5 HG5 HB5 HDN5
          obtain ⟨i3, hi3⟩ : ∃ i, i = scanUp (fun x => lt x dk[a]!) dk y x := ⟨_, rfl⟩
          have Hi3 := Lib.hid hi3
          obtain ⟨j3, hj3⟩ : ∃ j, j = scanDown (fun x => !lt x dk[a]!) dk i3 y := ⟨_, rfl⟩
          have Hj3 := Lib.hid hj3
          clear hi3 hj3
          obtain ⟨w6, hw6⟩ : ∃ z : World, z = wr := ⟨_, rfl⟩
          subst hw6
          go_upto_block 6 with fail
          go_cut [10] from 64 to 75 (fun s wx => s = .int .i64 (i3 : Int) ∧ (x ≤ i3 ∧ i3 ≤ y + 1) ∧ Hid (I dk wx) ∧ Hid (w.grownBy wx (some blk)) ∧ Hid (SBox wx k g lb sf sb blk))
          case first =>
            go_wp2_with fail
            go_loopw [10] (fun v wr => ∃ z9 : Nat, v = .int .i64 (z9 : Int) ∧ (x ≤ z9 ∧ z9 ≤ y + 1 ∧ Hid (scanUp (fun x => lt x dk[a]!) dk y z9 = i3)) ∧ Hid (I dk wr) ∧ Hid (w.grownBy wr (some blk)) ∧ Hid (SBox wr k g lb sf sb blk)) (fun v _ => y + 1 - (intOf v).toNat)
            case atStart => exact ⟨x, rfl, ⟨Nat.le_refl _, by omega, Hi3.out.symm⟩, HI6.out, HG6.out, HB6.out⟩
            case round =>
              obtain ⟨xu, rfl, ⟨hx0, hx1, HSx⟩, HIx, HGx, HBx⟩ := hrel
              obtain ⟨wa, hwa⟩ : ∃ y : World, y = wr := ⟨_, rfl⟩
              subst hwa
              have c0 := HBx.out.c0
              by_cases hxj : (xu : Nat) ≤ y
              · have hd : decide ((xu : Int) ≤ (y : Int)) = true := decide_eq_true (by omega)
                obtain ⟨q, hq⟩ : ∃ q, lt dk[xu]! dk[a]! = q := ⟨_, rfl⟩
                have hl7 := S.less dk wa (xu) (a) HIx.out (by rw [HDN.out]; omega) (by rw [HDN.out]; omega)
                rw [hq] at hl7
                have HL7 := Lib.hid hl7
                clear hl7
                cases q
                · skip
                  have hst := scanUp_end (fun x => lt x dk[a]!) dk y xu (.inr (by simp [hq]))
                  rw [HSx.out] at hst
                  have HST : Hid (xu = i3) := hst.symm
                  clear hst hq
                  go_wp2_with fail
                  refine HL7.out.mono ?_
                  rintro e wb ⟨rfl, hb8⟩
                  have HE8 := Lib.hid hb8
                  clear hb8
                  go_wp2
                  go_meet
                  case rel =>
                    have hx3 : xu = i3 := HST.out
                    exact ⟨by rw [hx3], ⟨by omega, by omega⟩, S.on dk wa wb HIx.out HE8.out, grow_below HGx.out HE8.out, HBx.out.on HE8.out⟩
                · skip
                  have hgo := scanUp_go (fun x => lt x dk[a]!) dk y xu hxj (by simp [hq])
                  rw [HSx.out] at hgo
                  have HGO := Lib.hid hgo
                  clear hgo hq
                  go_wp2_with fail
                  refine HL7.out.mono ?_
                  rintro e wb ⟨rfl, hb9⟩
                  have HE9 := Lib.hid hb9
                  clear hb9
                  go_wp2
                  go_roundw
                  case rel => exact ⟨xu + 1, by go_num, ⟨by omega, by omega, HGO.out.symm⟩, S.on dk wa wb HIx.out HE9.out, grow_below HGx.out HE9.out, HBx.out.on HE9.out⟩
                  case measure => first | (simp [intOf]; done) | (simp [intOf]; omega)
              · skip
                have hd : decide ((xu : Int) ≤ (y : Int)) = false := decide_eq_false (by omega)
                have hst := scanUp_end (fun x => lt x dk[a]!) dk y xu (.inl hxj)
                rw [HSx.out] at hst
                have HST : Hid (xu = i3) := hst.symm
                clear hst
                go_wp2
                go_meet
                case rel =>
                  have hx3 : xu = i3 := HST.out
                  exact ⟨by rw [hx3], ⟨by omega, by omega⟩, HIx.out, HGx.out, HBx.out⟩
          case rest =>
            obtain ⟨rfl, ⟨hi3a, hi3b⟩, HI7, HG7, HB7⟩ := hcut
            go_upto_block 8 with fail
            go_cut [11] from 76 to 88 (fun s wx => s = .int .i64 (j3 : Int) ∧ (j3 ≤ y ∧ i3 ≤ j3 + 1) ∧ Hid (I dk wx) ∧ Hid (w.grownBy wx (some blk)) ∧ Hid (SBox wx k g lb sf sb blk))
            case first =>
              go_wp2_with fail
              go_loopw [11] (fun v wr => ∃ z9 : Nat, v = .int .i64 (z9 : Int) ∧ (z9 ≤ y ∧ i3 ≤ z9 + 1 ∧ Hid (scanDown (fun x => !lt x dk[a]!) dk i3 z9 = j3)) ∧ Hid (I dk wr) ∧ Hid (w.grownBy wr (some blk)) ∧ Hid (SBox wr k g lb sf sb blk)) (fun v _ => (intOf v).toNat)
              case atStart => exact ⟨y, rfl, ⟨Nat.le_refl _, by omega, Hj3.out.symm⟩, HI7.out, HG7.out, HB7.out⟩
              case round =>
                obtain ⟨xv, rfl, ⟨hx0, hx1, HSx⟩, HIx, HGx, HBx⟩ := hrel
                obtain ⟨wa, hwa⟩ : ∃ y : World, y = wr := ⟨_, rfl⟩
                subst hwa
                have c0 := HBx.out.c0
                by_cases hxj : (i3 : Nat) ≤ xv
                · have hd : decide ((i3 : Int) ≤ (xv : Int)) = true := decide_eq_true (by omega)
                  obtain ⟨q, hq⟩ : ∃ q, lt dk[xv]! dk[a]! = q := ⟨_, rfl⟩
                  have hl10 := S.less dk wa (xv) (a) HIx.out (by rw [HDN.out]; omega) (by rw [HDN.out]; omega)
                  rw [hq] at hl10
                  have HL10 := Lib.hid hl10
                  clear hl10
                  cases q
                  · skip
                    have hgo := scanDown_go (fun x => !lt x dk[a]!) dk i3 xv hxj (by omega) (by simp [hq])
                    rw [HSx.out] at hgo
                    have HGO := Lib.hid hgo
                    clear hgo hq
                    go_wp2_with fail
                    refine HL10.out.mono ?_
                    rintro e wb ⟨rfl, hb12⟩
                    have HE12 := Lib.hid hb12
                    clear hb12
                    go_wp2
                    go_roundw
                    case rel => exact ⟨xv - 1, by go_num, ⟨by omega, by omega, HGO.out.symm⟩, S.on dk wa wb HIx.out HE12.out, grow_below HGx.out HE12.out, HBx.out.on HE12.out⟩
                    case measure => first | (simp [intOf]; done) | (simp [intOf]; omega)
                  · skip
                    have hst := scanDown_end (fun x => !lt x dk[a]!) dk i3 xv (.inr (by simp [hq]))
                    rw [HSx.out] at hst
                    have HST : Hid (xv = j3) := hst.symm
                    clear hst hq
                    go_wp2_with fail
                    refine HL10.out.mono ?_
                    rintro e wb ⟨rfl, hb11⟩
                    have HE11 := Lib.hid hb11
                    clear hb11
                    go_wp2
                    go_meet
                    case rel =>
                      have hx3 : xv = j3 := HST.out
                      exact ⟨by rw [hx3], ⟨by omega, by omega⟩, S.on dk wa wb HIx.out HE11.out, grow_below HGx.out HE11.out, HBx.out.on HE11.out⟩
                · skip
                  have hd : decide ((i3 : Int) ≤ (xv : Int)) = false := decide_eq_false (by omega)
                  have hst := scanDown_end (fun x => !lt x dk[a]!) dk i3 xv (.inl hxj)
                  rw [HSx.out] at hst
                  have HST : Hid (xv = j3) := hst.symm
                  clear hst
                  go_wp2
                  go_meet
                  case rel =>
                    have hx3 : xv = j3 := HST.out
                    exact ⟨by rw [hx3], ⟨by omega, by omega⟩, HIx.out, HGx.out, HBx.out⟩
            case rest =>
              obtain ⟨rfl, ⟨hj3a, hj3b⟩, HI8, HG8, HB8⟩ := hcut
              clear HI6 HG6 HB6 HI7 HG7 HB7
              by_cases hlt3 : j3 < i3
              · have hdl : decide ((j3 : Int) < (i3 : Int)) = true := decide_eq_true (by omega)
                have HPB := Lib.hid (part_break lt a x y dk Hi3.out Hj3.out hlt3)
                have HBs := HB8.out
                obtain ⟨w9, hrun9, hi9, hg9⟩ := S.swap dk _ (j3) (a) HI8.out (by rw [HDN.out]; omega) (by rw [HDN.out]; omega)
                have HI9 := Lib.hid hi9
                have HG9 := Lib.hid (grow_trans HG8.out hg9)
                have HB9 := Lib.hid (HBs.grown hg9)
                have cs1 := HBs.c1
                clear hi9 hg9 HBs
                go_wp2
                go_ret2
                refine part_ends (d' := swp dk j3 a) ?_ HI9.out HG9.out
                rw [HR.out, ← HO.out, HPB.out]
              · have hdl : decide ((j3 : Int) < (i3 : Int)) = false := decide_eq_false (by omega)
                have hlt4 := part_scans_lt lt a x y dk (by omega) Hi3.out Hj3.out (by omega)
                have HPG := Lib.hid (part_go lt a x y dk Hi3.out Hj3.out (by omega))
                have HBs := HB8.out
                obtain ⟨w9, hrun9, hi9, hg9⟩ := S.swap dk _ (i3) (j3) HI8.out (by rw [HDN.out]; omega) (by rw [HDN.out]; omega)
                have HI9 := Lib.hid hi9
                have HG9 := Lib.hid (grow_trans HG8.out hg9)
                have HB9 := Lib.hid (HBs.grown hg9)
                have cs1 := HBs.c1
                clear hi9 hg9 HBs
                go_wp2
                go_roundw
                case rel => exact ⟨i3 + 1, j3 - 1, swp dk i3 j3, by go_num, by go_num, by omega, by omega, by omega, by show _ = _; rw [size_swp]; exact HDN.out, HI9.out, HG9.out, HB9.out, by show _ = _; rw [← HPG.out]; exact HO.out⟩
                case measure => first | (simp [intOf]; done) | (simp [intOf]; omega)
end
end Go.Proofs.YtjocfkkcnkpjdaaDoor

/-! The library's sort.Slice with a 'less' that may make memory: its partitions. -/
namespace Go.Proofs.YtjocfkkcnkpjdaaDoor
open Go.RowKit Go.Sort
set_option linter.unusedVariables false

section
variable {α : Type} [Inhabited α] {lt : α → α → Bool} {g : Nat} {lb : Array Value} {sf : Nat} {sb : Array Value} {blk b0 B : Nat} {I : Array α → World → Prop} {W w' : World}
set_option maxHeartbeats 16000000 in
set_option maxRecDepth 100000 in
theorem partitionEqual_any (S : SortOps lt g lb sf sb blk b0 I) (d : Array α) (w : World) (h : I d w) (a b p : Nat) (hap : a ≤ p) (hpb : p < b) (hb : b ≤ d.size) :
    Calls Tryd.prog 79 #[lessSwap g lb sf sb, .int .i64 (a : Int), .int .i64 (b : Int), .int .i64 (p : Int)] w (EqEnds I blk (Sort.partitionEqual lt d a b p) w) := by
  have hd := (S.row d w h).2
  have eg := S.enters
  obtain ⟨N, hN⟩ : ∃ N, d.size = N := ⟨_, rfl⟩
  rw [hN] at hb hd
  obtain ⟨k, hk⟩ : ∃ k, k = w.heap.size := ⟨_, rfl⟩
  obtain ⟨w1, hw1⟩ : ∃ x, x = w.alloc (.cells #[.func (.func g) #[] lb, .func (.func sf) #[] sb] 89) := ⟨_, rfl⟩
  have HB1 : Hid (SBox w1 k g lb sf sb blk) := by show SBox _ _ _ _ _ _ _; rw [hw1, hk]; exact ⟨heap_alloc_new w _, by have := (S.row d w h).1; omega⟩
  have HI1 : Hid (I d w1) := by show I _ _; rw [hw1]; exact S.on d w _ h ((Below.refl _ w).alloc (Nat.le_refl _) _)
  have HG1 : Hid (w.grownBy w1 (some blk)) := by show World.grownBy _ _ _; rw [hw1]; exact grow_alloc (grow_refl w _) _
  have HDN := Lib.hid hN
  obtain ⟨d0, hd0⟩ : ∃ x, x = swp d a p := ⟨_, rfl⟩
  have HD0 := Lib.hid hd0
  have HDN0 : Hid (d0.size = N) := by show _ = _; rw [hd0, size_swp]; exact hN
  obtain ⟨i0, hi0⟩ : ∃ x, x = a + 1 := ⟨_, rfl⟩
  obtain ⟨j0, hj0⟩ : ∃ x, x = b - 1 := ⟨_, rfl⟩
  have hi0I : (a : Int) + 1 = (i0 : Int) := by omega
  have hj0I : (b : Int) - 1 = (j0 : Int) := by omega
  have hij0 : i0 ≤ j0 + 1 := by omega
  have hj0N : j0 < N := by omega
  have hai0 : a < i0 := by omega
  have HIE := Lib.hid hi0
  have HJE := Lib.hid hj0
  have HW1 := Lib.hid hw1
  have HK := Lib.hid hk
  clear h hN hd0 hi0 hj0 hw1 hk
  unfold lessSwap
  go_enter Tryd.func79, Tryd.ntmps79
  go_upto_region 1 with fail
  rw [← HW1.out, ← HK.out]
  have HBs := HB1.out
  obtain ⟨w2, hrun2, hi2, hg2⟩ := S.swap d w1 (a) (p) HI1.out (by rw [HDN.out]; omega) (by rw [HDN.out]; omega)
  have HI2 := Lib.hid hi2
  have HG2 := Lib.hid (grow_trans HG1.out hg2)
  have HB2 := Lib.hid (HBs.grown hg2)
  have cs1 := HBs.c1
  clear hi2 hg2 HBs
  rw [← HD0.out] at HI2
  clear HDN HI1 HG1 HB1
  have HDN := HDN0
  clear HDN0
  have HP : Hid (Sort.partitionEqual lt d a b p = partEqLoop lt a i0 j0 d0) := by show _ = _; unfold Sort.partitionEqual; rw [HIE.out, HJE.out, HD0.out]
  go_upto_block 0 with fail
  go_wp2_with fail
  clear hrun2 cs1 hi0I hj0I
  go_loopw [9, 10] (fun v10 v11 wr => ∃ (x y : Nat) (dk : Array α), v10 = .int .i64 (x : Int) ∧ v11 = .int .i64 (y : Int) ∧ a < x ∧ x ≤ y + 1 ∧ y < N ∧ Hid (dk.size = N) ∧ Hid (I dk wr) ∧ Hid (w.grownBy wr (some blk)) ∧ Hid (SBox wr k g lb sf sb blk) ∧ Hid (partEqLoop lt a x y dk = partEqLoop lt a i0 j0 d0)) (fun v10 v11 _ => (intOf v11 + 1 - intOf v10).toNat)
  case atStart => exact ⟨i0, j0, d0, rfl, rfl, hai0, hij0, hj0N, HDN.out, HI2.out, HG2.out, HB2.out, rfl⟩
  case round =>
    clear HI2 HG2 HB2 HDN
    obtain ⟨x, y, dk, rfl, rfl, hxa, hxy2, hyN2, HDN, HI6, HG6, HB6, HO⟩ := hrel
    obtain ⟨i3, hi3⟩ : ∃ i, i = scanUp (fun x => !lt dk[a]! x) dk y x := ⟨_, rfl⟩
    have Hi3 := Lib.hid hi3
    obtain ⟨j3, hj3⟩ : ∃ j, j = scanDown (fun x => lt dk[a]! x) dk i3 y := ⟨_, rfl⟩
    have Hj3 := Lib.hid hj3
    clear hi3 hj3
    obtain ⟨w6, hw6⟩ : ∃ z : World, z = wr := ⟨_, rfl⟩
    subst hw6
    go_upto_block 2 with fail
    go_cut [9] from 20 to 31 (fun s wx => s = .int .i64 (i3 : Int) ∧ (x ≤ i3 ∧ i3 ≤ y + 1) ∧ Hid (I dk wx) ∧ Hid (w.grownBy wx (some blk)) ∧ Hid (SBox wx k g lb sf sb blk))
    case first =>
      go_wp2_with fail
      go_loopw [9] (fun v wr => ∃ z9 : Nat, v = .int .i64 (z9 : Int) ∧ (x ≤ z9 ∧ z9 ≤ y + 1 ∧ Hid (scanUp (fun x => !lt dk[a]! x) dk y z9 = i3)) ∧ Hid (I dk wr) ∧ Hid (w.grownBy wr (some blk)) ∧ Hid (SBox wr k g lb sf sb blk)) (fun v _ => y + 1 - (intOf v).toNat)
      case atStart => exact ⟨x, rfl, ⟨Nat.le_refl _, by omega, Hi3.out.symm⟩, HI6.out, HG6.out, HB6.out⟩
      case round =>
        obtain ⟨xu, rfl, ⟨hx0, hx1, HSx⟩, HIx, HGx, HBx⟩ := hrel
        obtain ⟨wa, hwa⟩ : ∃ y : World, y = wr := ⟨_, rfl⟩
        subst hwa
        have c0 := HBx.out.c0
        by_cases hxj : (xu : Nat) ≤ y
        · have hd : decide ((xu : Int) ≤ (y : Int)) = true := decide_eq_true (by omega)
          obtain ⟨q, hq⟩ : ∃ q, lt dk[a]! dk[xu]! = q := ⟨_, rfl⟩
          have hl13 := S.less dk wa (a) (xu) HIx.out (by rw [HDN.out]; omega) (by rw [HDN.out]; omega)
          rw [hq] at hl13
          have HL13 := Lib.hid hl13
          clear hl13
          cases q
          · skip
            have hgo := scanUp_go (fun x => !lt dk[a]! x) dk y xu hxj (by simp [hq])
            rw [HSx.out] at hgo
            have HGO := Lib.hid hgo
            clear hgo hq
            go_wp2_with fail
            refine HL13.out.mono ?_
            rintro e wb ⟨rfl, hb15⟩
            have HE15 := Lib.hid hb15
            clear hb15
            go_wp2
            go_roundw
            case rel => exact ⟨xu + 1, by go_num, ⟨by omega, by omega, HGO.out.symm⟩, S.on dk wa wb HIx.out HE15.out, grow_below HGx.out HE15.out, HBx.out.on HE15.out⟩
            case measure => first | (simp [intOf]; done) | (simp [intOf]; omega)
          · skip
            have hst := scanUp_end (fun x => !lt dk[a]! x) dk y xu (.inr (by simp [hq]))
            rw [HSx.out] at hst
            have HST : Hid (xu = i3) := hst.symm
            clear hst hq
            go_wp2_with fail
            refine HL13.out.mono ?_
            rintro e wb ⟨rfl, hb14⟩
            have HE14 := Lib.hid hb14
            clear hb14
            go_wp2
            go_meet
            case rel =>
              have hx3 : xu = i3 := HST.out
              exact ⟨by rw [hx3], ⟨by omega, by omega⟩, S.on dk wa wb HIx.out HE14.out, grow_below HGx.out HE14.out, HBx.out.on HE14.out⟩
        · skip
          have hd : decide ((xu : Int) ≤ (y : Int)) = false := decide_eq_false (by omega)
          have hst := scanUp_end (fun x => !lt dk[a]! x) dk y xu (.inl hxj)
          rw [HSx.out] at hst
          have HST : Hid (xu = i3) := hst.symm
          clear hst
          go_wp2
          go_meet
          case rel =>
            have hx3 : xu = i3 := HST.out
            exact ⟨by rw [hx3], ⟨by omega, by omega⟩, HIx.out, HGx.out, HBx.out⟩
    case rest =>
      obtain ⟨rfl, ⟨hi3a, hi3b⟩, HI7, HG7, HB7⟩ := hcut
      go_upto_block 4 with fail
      go_cut [10] from 33 to 43 (fun s wx => s = .int .i64 (j3 : Int) ∧ (j3 ≤ y ∧ i3 ≤ j3 + 1) ∧ Hid (I dk wx) ∧ Hid (w.grownBy wx (some blk)) ∧ Hid (SBox wx k g lb sf sb blk))
      case first =>
        go_wp2_with fail
        go_loopw [10] (fun v wr => ∃ z9 : Nat, v = .int .i64 (z9 : Int) ∧ (z9 ≤ y ∧ i3 ≤ z9 + 1 ∧ Hid (scanDown (fun x => lt dk[a]! x) dk i3 z9 = j3)) ∧ Hid (I dk wr) ∧ Hid (w.grownBy wr (some blk)) ∧ Hid (SBox wr k g lb sf sb blk)) (fun v _ => (intOf v).toNat)
        case atStart => exact ⟨y, rfl, ⟨Nat.le_refl _, by omega, Hj3.out.symm⟩, HI7.out, HG7.out, HB7.out⟩
        case round =>
          obtain ⟨xv, rfl, ⟨hx0, hx1, HSx⟩, HIx, HGx, HBx⟩ := hrel
          obtain ⟨wa, hwa⟩ : ∃ y : World, y = wr := ⟨_, rfl⟩
          subst hwa
          have c0 := HBx.out.c0
          by_cases hxj : (i3 : Nat) ≤ xv
          · have hd : decide ((i3 : Int) ≤ (xv : Int)) = true := decide_eq_true (by omega)
            obtain ⟨q, hq⟩ : ∃ q, lt dk[a]! dk[xv]! = q := ⟨_, rfl⟩
            have hl16 := S.less dk wa (a) (xv) HIx.out (by rw [HDN.out]; omega) (by rw [HDN.out]; omega)
            rw [hq] at hl16
            have HL16 := Lib.hid hl16
            clear hl16
            cases q
            · skip
              have hst := scanDown_end (fun x => lt dk[a]! x) dk i3 xv (.inr (by simp [hq]))
              rw [HSx.out] at hst
              have HST : Hid (xv = j3) := hst.symm
              clear hst hq
              go_wp2_with fail
              refine HL16.out.mono ?_
              rintro e wb ⟨rfl, hb17⟩
              have HE17 := Lib.hid hb17
              clear hb17
              go_wp2
              go_meet
              case rel =>
                have hx3 : xv = j3 := HST.out
                exact ⟨by rw [hx3], ⟨by omega, by omega⟩, S.on dk wa wb HIx.out HE17.out, grow_below HGx.out HE17.out, HBx.out.on HE17.out⟩
            · skip
              have hgo := scanDown_go (fun x => lt dk[a]! x) dk i3 xv hxj (by omega) (by simp [hq])
              rw [HSx.out] at hgo
              have HGO := Lib.hid hgo
              clear hgo hq
              go_wp2_with fail
              refine HL16.out.mono ?_
              rintro e wb ⟨rfl, hb18⟩
              have HE18 := Lib.hid hb18
              clear hb18
              go_wp2
              go_roundw
              case rel => exact ⟨xv - 1, by go_num, ⟨by omega, by omega, HGO.out.symm⟩, S.on dk wa wb HIx.out HE18.out, grow_below HGx.out HE18.out, HBx.out.on HE18.out⟩
              case measure => first | (simp [intOf]; done) | (simp [intOf]; omega)
          · skip
            have hd : decide ((i3 : Int) ≤ (xv : Int)) = false := decide_eq_false (by omega)
            have hst := scanDown_end (fun x => lt dk[a]! x) dk i3 xv (.inl hxj)
            rw [HSx.out] at hst
            have HST : Hid (xv = j3) := hst.symm
            clear hst
            go_wp2
            go_meet
            case rel =>
              have hx3 : xv = j3 := HST.out
              exact ⟨by rw [hx3], ⟨by omega, by omega⟩, HIx.out, HGx.out, HBx.out⟩
      case rest =>
        obtain ⟨rfl, ⟨hj3a, hj3b⟩, HI8, HG8, HB8⟩ := hcut
        clear HI6 HG6 HB6 HI7 HG7 HB7
        by_cases hlt3 : j3 < i3
        · have hdl : decide ((j3 : Int) < (i3 : Int)) = true := decide_eq_true (by omega)
          have HPB := Lib.hid (partEq_break lt a x y dk Hi3.out Hj3.out hlt3)
          go_wp2
          go_ret
          refine eq_ends (d' := dk) ?_ HI8.out HG8.out
          rw [HP.out, ← HO.out, HPB.out]
        · have hdl : decide ((j3 : Int) < (i3 : Int)) = false := decide_eq_false (by omega)
          have hlt4 := scans_lt lt a x y dk (by omega) Hi3.out Hj3.out (by omega)
          have HPG := Lib.hid (partEq_go lt a x y dk Hi3.out Hj3.out (by omega))
          have HBs := HB8.out
          obtain ⟨w9, hrun9, hi9, hg9⟩ := S.swap dk _ (i3) (j3) HI8.out (by rw [HDN.out]; omega) (by rw [HDN.out]; omega)
          have HI9 := Lib.hid hi9
          have HG9 := Lib.hid (grow_trans HG8.out hg9)
          have HB9 := Lib.hid (HBs.grown hg9)
          have cs1 := HBs.c1
          clear hi9 hg9 HBs
          go_wp2
          go_roundw
          case rel => exact ⟨i3 + 1, j3 - 1, swp dk i3 j3, by go_num, by go_num, by omega, by omega, by omega, by show _ = _; rw [size_swp]; exact HDN.out, HI9.out, HG9.out, HB9.out, by show _ = _; rw [← HPG.out]; exact HO.out⟩
          case measure => first | (simp [intOf]; done) | (simp [intOf]; omega)
end
end Go.Proofs.YtjocfkkcnkpjdaaDoor

/-! The library's sort.Slice with a 'less' that may make memory: its partial insertion sort. -/
namespace Go.Proofs.YtjocfkkcnkpjdaaDoor
open Go.RowKit Go.Sort
set_option linter.unusedVariables false

section
variable {α : Type} [Inhabited α] {lt : α → α → Bool} {g : Nat} {lb : Array Value} {sf : Nat} {sb : Array Value} {blk b0 B : Nat} {I : Array α → World → Prop} {W w' : World}
theorem sorted_go (d : Array α) (b i : Nat) (h : i < b) (hl : lt d[i]! d[i - 1]! = false) : scanSorted lt d b i = scanSorted lt d b (i + 1) := by
  rw [scanSorted, if_pos (by simp [h, hl])]
theorem sorted_end (d : Array α) (b i : Nat) (h : ¬ i < b ∨ lt d[i]! d[i - 1]! = true) : scanSorted lt d b i = i := by
  rw [scanSorted, if_neg (by rcases h with h | h <;> simp [h])]
theorem down_go (d : Array α) (j : Nat) (hl : lt d[j + 1]! d[j]! = true) : shiftDown lt (j + 1) d = shiftDown lt j (swp d (j + 1) j) := by
  rw [shiftDown, if_neg (by simp [hl])]
theorem down_end (d : Array α) (j : Nat) (hl : lt d[j + 1]! d[j]! = false) : shiftDown lt (j + 1) d = d := by
  rw [shiftDown, if_pos (by simp [hl])]
theorem up_go (d : Array α) (b j : Nat) (h : j < b) (hl : lt d[j]! d[j - 1]! = true) : shiftUp lt b j d = shiftUp lt b (j + 1) (swp d j (j - 1)) := by
  rw [shiftUp, if_pos h, if_neg (by simp [hl])]
theorem up_end (d : Array α) (b j : Nat) (h : ¬ j < b ∨ lt d[j]! d[j - 1]! = false) : shiftUp lt b j d = d := by
  rw [shiftUp]
  by_cases hj : j < b
  · rw [if_pos hj, if_pos (by rcases h with h | h <;> simp_all)]
  · rw [if_neg hj]
def PiEnds (I : Array α → World → Prop) (blk : Nat) (r : Array α × Bool) (W : World) (e : Ending) (w' : World) : Prop := e = .returned (.bool r.2) ∧ I r.1 w' ∧ W.grownBy w' (some blk)
omit [Inhabited α] in
theorem pi_ends {r : Array α × Bool} {q : Bool} {d' : Array α} {w w1 : World} (hr : r = (d', q)) (hi : I d' w1) (hg : w.grownBy w1 (some blk)) : PiEnds I blk r w (.returned (.bool q)) w1 := by
  subst hr
  exact ⟨rfl, hi, hg⟩
set_option maxHeartbeats 16000000 in
set_option maxRecDepth 100000 in
theorem partialInsertionSort_any (S : SortOps lt g lb sf sb blk b0 I) (d : Array α) (w : World) (h : I d w) (a b : Nat) (hab : a < b) (hb : b ≤ d.size) :
    Calls Tryd.prog 78 #[lessSwap g lb sf sb, .int .i64 (a : Int), .int .i64 (b : Int)] w (PiEnds I blk (partialInsertionSort lt d a b) w) := by
  have hd := (S.row d w h).2
  have eg := S.enters
  obtain ⟨N, hN⟩ : ∃ N, d.size = N := ⟨_, rfl⟩
  rw [hN] at hb hd
  obtain ⟨k, hk⟩ : ∃ k, k = w.heap.size := ⟨_, rfl⟩
  obtain ⟨w1, hw1⟩ : ∃ x, x = w.alloc (.cells #[.func (.func g) #[] lb, .func (.func sf) #[] sb] 89) := ⟨_, rfl⟩
  have HB1 : Hid (SBox w1 k g lb sf sb blk) := by show SBox _ _ _ _ _ _ _; rw [hw1, hk]; exact ⟨heap_alloc_new w _, by have := (S.row d w h).1; omega⟩
  have HI1 : Hid (I d w1) := by show I _ _; rw [hw1]; exact S.on d w _ h ((Below.refl _ w).alloc (Nat.le_refl _) _)
  have HG1 : Hid (w.grownBy w1 (some blk)) := by show World.grownBy _ _ _; rw [hw1]; exact grow_alloc (grow_refl w _) _
  have HDN := Lib.hid hN
  have HP : Hid (partialInsertionSort lt d a b = partialIns lt a b 5 (a + 1) d) := rfl
  have HW1 := Lib.hid hw1
  have HK := Lib.hid hk
  clear h hN hw1 hk
  unfold lessSwap
  go_enter Tryd.func78, Tryd.ntmps78
  go_upto_block 0 with fail
  rw [← HW1.out, ← HK.out]
  go_wp2_with fail
  go_loopw [7, 8] (fun v7 v8 wr => ∃ (i t : Nat) (dk : Array α), v7 = .int .i64 (i : Int) ∧ v8 = .int .i64 (t : Int) ∧ a < i ∧ i ≤ b ∧ t ≤ 5 ∧ Hid (dk.size = N) ∧ Hid (I dk wr) ∧ Hid (w.grownBy wr (some blk)) ∧ Hid (SBox wr k g lb sf sb blk) ∧ Hid (partialIns lt a b (5 - t) i dk = partialIns lt a b 5 (a + 1) d)) (fun v7 v8 _ => 5 - (intOf v8).toNat)
  case atStart => exact ⟨a + 1, 0, d, by go_num, rfl, by omega, by omega, by omega, HDN.out, HI1.out, HG1.out, HB1.out, rfl⟩
  case round =>
    clear HDN HI1 HG1 HB1
    obtain ⟨i, t, dk, rfl, rfl, hai, hib, ht5, HDN, HI2, HG2, HB2, HO⟩ := hrel
    by_cases ht : t < 5
    · have hdt : decide ((t : Int) < 5) = true := decide_eq_true (by omega)
      obtain ⟨i2, hi2⟩ : ∃ j, j = scanSorted lt dk b i := ⟨_, rfl⟩
      have Hi2 := Lib.hid hi2
      obtain ⟨u, hu⟩ : ∃ u, 5 - t = u + 1 := ⟨5 - t - 1, by omega⟩
      have hu2 : 5 - (t + 1) = u := by omega
      have hst : partialIns lt a b (u + 1) i dk = partialIns lt a b 5 (a + 1) d := by rw [← hu]; exact HO.out
      rw [partialIns] at hst
      simp only [← hi2] at hst
      have HST := Lib.hid hst
      have HU2 := Lib.hid hu2
      clear hi2 hst hu hu2 HO
      go_upto_block 2 with fail
      go_cut [7] from 17 to 29 (fun s wx => s = .int .i64 (i2 : Int) ∧ (a < i2 ∧ i2 ≤ b) ∧ Hid (I dk wx) ∧ Hid (w.grownBy wx (some blk)) ∧ Hid (SBox wx k g lb sf sb blk))
      case first =>
        go_wp2_with fail
        go_loopw [7] (fun v wr => ∃ z9 : Nat, v = .int .i64 (z9 : Int) ∧ (a < z9 ∧ z9 ≤ b ∧ Hid (scanSorted lt dk b z9 = i2)) ∧ Hid (I dk wr) ∧ Hid (w.grownBy wr (some blk)) ∧ Hid (SBox wr k g lb sf sb blk)) (fun v _ => b - (intOf v).toNat)
        case atStart => exact ⟨i, rfl, ⟨hai, hib, Hi2.out.symm⟩, HI2.out, HG2.out, HB2.out⟩
        case round =>
          obtain ⟨z, rfl, ⟨hz0, hz1, HSx⟩, HIx, HGx, HBx⟩ := hrel
          obtain ⟨wa, hwa⟩ : ∃ y : World, y = wr := ⟨_, rfl⟩
          subst hwa
          have c0 := HBx.out.c0
          by_cases hzb : z < b
          · have hdz : decide ((z : Int) < (b : Int)) = true := decide_eq_true (by omega)
            obtain ⟨q, hq⟩ : ∃ q, lt dk[z]! dk[z - 1]! = q := ⟨_, rfl⟩
            have hl1 := S.less dk wa (z) (z - 1) HIx.out (by rw [HDN.out]; omega) (by rw [HDN.out]; omega)
            rw [show ((z - 1 : Nat) : Int) = (z : Int) - 1 by omega] at hl1
            rw [hq] at hl1
            have HL1 := Lib.hid hl1
            clear hl1
            cases q
            · have HGO := Lib.hid (sorted_go dk b z hzb hq)
              clear hq
              go_wp2_with fail
              refine HL1.out.mono ?_
              rintro e wb ⟨rfl, hb3⟩
              have HE3 := Lib.hid hb3
              clear hb3
              go_wp2
              go_roundw
              case rel => exact ⟨z + 1, by go_num, ⟨by omega, by omega, by show _ = _; rw [← HGO.out]; exact HSx.out⟩, S.on dk wa wb HIx.out HE3.out, grow_below HGx.out HE3.out, HBx.out.on HE3.out⟩
              case measure => first | (simp [intOf]; done) | (simp [intOf]; omega)
            · have HST2 : Hid (z = i2) := by show _ = _; rw [← HSx.out, sorted_end dk b z (.inr hq)]
              clear hq
              go_wp2_with fail
              refine HL1.out.mono ?_
              rintro e wb ⟨rfl, hb2⟩
              have HE2 := Lib.hid hb2
              clear hb2
              go_wp2
              go_meet
              case rel =>
                have hx3 : z = i2 := HST2.out
                exact ⟨by rw [hx3], ⟨by omega, by omega⟩, S.on dk wa wb HIx.out HE2.out, grow_below HGx.out HE2.out, HBx.out.on HE2.out⟩
          · have hdz : decide ((z : Int) < (b : Int)) = false := decide_eq_false (by omega)
            have HST2 : Hid (z = i2) := by show _ = _; rw [← HSx.out, sorted_end dk b z (.inl hzb)]
            go_wp2
            go_meet
            case rel =>
              have hx3 : z = i2 := HST2.out
              exact ⟨by rw [hx3], ⟨by omega, by omega⟩, HIx.out, HGx.out, HBx.out⟩
      case rest =>
        obtain ⟨rfl, ⟨h2a, h2b⟩, HI3, HG3, HB3⟩ := hcut
        clear HI2 HG2 HB2
        by_cases hend : i2 = b
        · have hst := HST.out
          rw [if_pos hend] at hst
          have HS2 := Lib.hid hst
          have hde : ((i2 : Int) == (b : Int)) = true := by rw [hend]; simp
          clear hst HST
          go_wp2
          go_ret
          exact pi_ends (by rw [HP.out, ← HS2.out]) HI3.out HG3.out
        · have hst := HST.out
          rw [if_neg hend] at hst
          have hde : ((i2 : Int) == (b : Int)) = false := beq_false_of_ne (by omega)
          by_cases h50 : b - a < 50
          · rw [if_pos h50] at hst
            have HS2 := Lib.hid hst
            have hd50 : decide ((b : Int) - (a : Int) < 50) = true := decide_eq_true (by omega)
            clear hst HST hend
            go_wp2
            go_ret
            exact pi_ends (by rw [HP.out, ← HS2.out]) HI3.out HG3.out
          · rw [if_neg h50] at hst
            have hd50 : decide ((b : Int) - (a : Int) < 50) = false := decide_eq_false (by omega)
            obtain ⟨d1, hd1⟩ : ∃ x, x = swp dk i2 (i2 - 1) := ⟨_, rfl⟩
            have HDN1 : Hid (d1.size = N) := by show _ = _; rw [hd1, size_swp]; exact HDN.out
            rw [← hd1] at hst
            obtain ⟨d2, hd2⟩ : ∃ x, x = if i2 - a ≥ 2 then shiftDown lt (i2 - 1) d1 else d1 := ⟨_, rfl⟩
            rw [← hd2] at hst
            obtain ⟨d3, hd3⟩ : ∃ x, x = if b - i2 ≥ 2 then shiftUp lt b (i2 + 1) d2 else d2 := ⟨_, rfl⟩
            rw [← hd3] at hst
            have HS2 := Lib.hid hst
            have HD1 := Lib.hid hd1
            have HD2 := Lib.hid hd2
            have HD3 := Lib.hid hd3
            have hib2 : i2 < b := by omega
            clear hst HST hend h50 hd1 hd2 hd3
            have HBs := HB3.out
            obtain ⟨w4, hrun4, hi4, hg4⟩ := S.swap dk _ (i2) (i2 - 1) HI3.out (by rw [HDN.out]; omega) (by rw [HDN.out]; omega)
            rw [show ((i2 - 1 : Nat) : Int) = (i2 : Int) - 1 by omega] at hrun4
            have HI4 := Lib.hid hi4
            have HG4 := Lib.hid (grow_trans HG3.out hg4)
            have HB4 := Lib.hid (HBs.grown hg4)
            have cs1 := HBs.c1
            clear hi4 hg4 HBs
            rw [← HD1.out] at HI4
            clear HDN
            have HDN := HDN1
            clear HDN1
            go_upto_if 47 with fail
            clear hrun4 cs1
            go_cut [9] from 44 to 67 (fun s9 wx => Hid (d2.size = N) ∧ Hid (I d2 wx) ∧ Hid (w.grownBy wx (some blk)) ∧ Hid (SBox wx k g lb sf sb blk))
            case first =>
              by_cases hge : i2 - a ≥ 2
              · have hdg : decide (2 ≤ (i2 : Int) - (a : Int)) = true := decide_eq_true (by omega)
                have hsd : shiftDown lt (i2 - 1) d1 = d2 := by rw [HD2.out, if_pos hge]
                have HSD := Lib.hid hsd
                obtain ⟨y0, hy0⟩ : ∃ y, y = i2 - 1 := ⟨_, rfl⟩
                have hy0I : (i2 : Int) - 1 = (y0 : Int) := by omega
                rw [← hy0] at HSD
                have hy0N : y0 < N := by omega
                clear hsd hy0
                rw [hdg]
                go_upto_block 4 with fail
                go_wp2_with fail
                clear hy0I
                go_loopw [9] (fun v wr => ∃ (y : Nat) (dj : Array α), v = .int .i64 (y : Int) ∧ y ≤ y0 ∧ Hid (dj.size = N) ∧ Hid (I dj wr) ∧ Hid (w.grownBy wr (some blk)) ∧ Hid (SBox wr k g lb sf sb blk) ∧ Hid (shiftDown lt y dj = d2)) (fun v _ => (intOf v).toNat)
                case atStart => exact ⟨y0, d1, rfl, Nat.le_refl _, HDN.out, HI4.out, HG4.out, HB4.out, HSD.out⟩
                case round =>
                  clear HDN HI4 HG4 HB4
                  obtain ⟨y, dj, rfl, hyy, HDN, HIx, HGx, HBx, HSx⟩ := hrel
                  obtain ⟨wa, hwa⟩ : ∃ y : World, y = wr := ⟨_, rfl⟩
                  subst hwa
                  have c0 := HBx.out.c0
                  by_cases hy1 : y = 0
                  · subst hy1
                    have he : dj = d2 := HSx.out
                    have HE := Lib.hid he
                    clear he
                    go_wp2
                    go_meet
                    case rel => rw [← HE.out]; exact ⟨HDN.out, HIx.out, HGx.out, HBx.out⟩
                  · obtain ⟨z, rfl⟩ : ∃ z, y = z + 1 := ⟨y - 1, by omega⟩
                    rw [show ((z + 1 : Nat) : Int) = (z : Int) + 1 by omega]
                    have hdy : decide (1 ≤ (z : Int) + 1) = true := decide_eq_true (by omega)
                    obtain ⟨q, hq⟩ : ∃ q, lt dj[z + 1]! dj[z]! = q := ⟨_, rfl⟩
                    have zz : ((z + 1 : Nat) : Int) - 1 = (z : Int) := by omega
                    have hl4 := S.less dj wa (z + 1) (z) HIx.out (by rw [HDN.out]; omega) (by rw [HDN.out]; omega)
                    rw [show ((z + 1 : Nat) : Int) = (z : Int) + 1 by omega] at hl4
                    rw [hq] at hl4
                    have HL4 := Lib.hid hl4
                    clear hl4
                    cases q
                    · have he : dj = d2 := by rw [← HSx.out, down_end dj z hq]
                      have HE := Lib.hid he
                      clear he hq
                      go_wp2_with fail
                      refine HL4.out.mono ?_
                      rintro e wb ⟨rfl, hb5⟩
                      have HE5 := Lib.hid hb5
                      clear hb5
                      go_wp2
                      go_meet
                      case rel =>
                        rw [← HE.out]
                        exact ⟨HDN.out, S.on dj wa wb HIx.out HE5.out, grow_below HGx.out HE5.out, HBx.out.on HE5.out⟩
                    · have HGO := Lib.hid (down_go dj z hq)
                      clear hq
                      go_wp2_with fail
                      refine HL4.out.mono ?_
                      rintro e wb ⟨rfl, hb6⟩
                      have HE6 := Lib.hid hb6
                      clear hb6
                      have hIb := Lib.hid (S.on dj wa wb HIx.out HE6.out)
                      have hGb := Lib.hid (grow_below HGx.out HE6.out)
                      have hBb := Lib.hid (HBx.out.on HE6.out)
                      have HBs := hBb.out
                      obtain ⟨w8, hrun8, hi8, hg8⟩ := S.swap dj wb (z + 1) (z) hIb.out (by rw [HDN.out]; omega) (by rw [HDN.out]; omega)
                      rw [show ((z + 1 : Nat) : Int) = (z : Int) + 1 by omega] at hrun8
                      have HI8 := Lib.hid hi8
                      have HG8 := Lib.hid (grow_trans hGb.out hg8)
                      have HB8 := Lib.hid (HBs.grown hg8)
                      have cs1 := HBs.c1
                      clear hi8 hg8 HBs
                      go_wp2
                      go_roundw
                      case rel => exact ⟨z, swp dj (z + 1) z, by go_num, by omega, by show _ = _; rw [size_swp]; exact HDN.out, HI8.out, HG8.out, HB8.out, by show _ = _; rw [← HGO.out]; exact HSx.out⟩
                      case measure => first | (simp [intOf]; done) | (simp [intOf]; omega)
              · have hdg : decide (2 ≤ (i2 : Int) - (a : Int)) = false := decide_eq_false (by omega)
                have he : d1 = d2 := by rw [HD2.out, if_neg hge]
                have HE := Lib.hid he
                clear he
                go_wp2
                go_meet
                case rel => rw [← HE.out]; exact ⟨HDN.out, HI4.out, HG4.out, HB4.out⟩
            case rest =>
              clear HDN HI4 HG4 HB4
              obtain ⟨HDN, HI5, HG5, HB5⟩ := hcut
              by_cases hge : b - i2 ≥ 2
              · have hdg : decide (2 ≤ (b : Int) - (i2 : Int)) = true := decide_eq_true (by omega)
                have hsd : shiftUp lt b (i2 + 1) d2 = d3 := by rw [HD3.out, if_pos hge]
                have HSD := Lib.hid hsd
                clear hsd
                go_upto_block 6 with fail
                go_wp2_with fail
                go_loopw [10] (fun v wr => ∃ (y : Nat) (dj : Array α), v = .int .i64 (y : Int) ∧ i2 < y ∧ y ≤ b ∧ Hid (dj.size = N) ∧ Hid (I dj wr) ∧ Hid (w.grownBy wr (some blk)) ∧ Hid (SBox wr k g lb sf sb blk) ∧ Hid (shiftUp lt b y dj = d3)) (fun v _ => b - (intOf v).toNat)
                case atStart => exact ⟨i2 + 1, d2, by go_num, by omega, by omega, HDN.out, HI5.out, HG5.out, HB5.out, HSD.out⟩
                case round =>
                  clear HDN HI5 HG5 HB5
                  obtain ⟨y, dj, rfl, hy1, hy2, HDN, HIx, HGx, HBx, HSx⟩ := hrel
                  obtain ⟨wa, hwa⟩ : ∃ y : World, y = wr := ⟨_, rfl⟩
                  subst hwa
                  have c0 := HBx.out.c0
                  by_cases hyb : y < b
                  · have hdy : decide ((y : Int) < (b : Int)) = true := decide_eq_true (by omega)
                    obtain ⟨q, hq⟩ : ∃ q, lt dj[y]! dj[y - 1]! = q := ⟨_, rfl⟩
                    have hl7 := S.less dj wa (y) (y - 1) HIx.out (by rw [HDN.out]; omega) (by rw [HDN.out]; omega)
                    rw [show ((y - 1 : Nat) : Int) = (y : Int) - 1 by omega] at hl7
                    rw [hq] at hl7
                    have HL7 := Lib.hid hl7
                    clear hl7
                    cases q
                    · have he : dj = d3 := by rw [← HSx.out, up_end dj b y (.inr hq)]
                      have HE := Lib.hid he
                      clear he hq
                      go_wp2_with fail
                      refine HL7.out.mono ?_
                      rintro e wb ⟨rfl, hb8⟩
                      have HE8 := Lib.hid hb8
                      clear hb8
                      go_wp2
                      go_roundw
                      case rel => exact ⟨i2, t + 1, dj, rfl, by go_num, by omega, by omega, by omega, HDN.out, S.on dj wa wb HIx.out HE8.out, grow_below HGx.out HE8.out, HBx.out.on HE8.out, by show _ = _; rw [HU2.out, HE.out]; exact HS2.out⟩
                      case measure => first | (simp [intOf]; done) | (simp [intOf]; omega)
                    · have HGO := Lib.hid (up_go dj b y hyb hq)
                      clear hq
                      go_wp2_with fail
                      refine HL7.out.mono ?_
                      rintro e wb ⟨rfl, hb9⟩
                      have HE9 := Lib.hid hb9
                      clear hb9
                      have hIb := Lib.hid (S.on dj wa wb HIx.out HE9.out)
                      have hGb := Lib.hid (grow_below HGx.out HE9.out)
                      have hBb := Lib.hid (HBx.out.on HE9.out)
                      have HBs := hBb.out
                      obtain ⟨w8, hrun8, hi8, hg8⟩ := S.swap dj wb (y) (y - 1) hIb.out (by rw [HDN.out]; omega) (by rw [HDN.out]; omega)
                      rw [show ((y - 1 : Nat) : Int) = (y : Int) - 1 by omega] at hrun8
                      have HI8 := Lib.hid hi8
                      have HG8 := Lib.hid (grow_trans hGb.out hg8)
                      have HB8 := Lib.hid (HBs.grown hg8)
                      have cs1 := HBs.c1
                      clear hi8 hg8 HBs
                      go_wp2
                      go_roundw
                      case rel => exact ⟨y + 1, swp dj y (y - 1), by go_num, by omega, by omega, by show _ = _; rw [size_swp]; exact HDN.out, HI8.out, HG8.out, HB8.out, by show _ = _; rw [← HGO.out]; exact HSx.out⟩
                      case measure => first | (simp [intOf]; done) | (simp [intOf]; omega)
                  · have hdy : decide ((y : Int) < (b : Int)) = false := decide_eq_false (by omega)
                    have he : dj = d3 := by rw [← HSx.out, up_end dj b y (.inl hyb)]
                    have HE := Lib.hid he
                    clear he
                    go_wp2
                    go_roundw
                    case rel => exact ⟨i2, t + 1, dj, rfl, by go_num, by omega, by omega, by omega, HDN.out, HIx.out, HGx.out, HBx.out, by show _ = _; rw [HU2.out, HE.out]; exact HS2.out⟩
                    case measure => first | (simp [intOf]; done) | (simp [intOf]; omega)
              · have hdg : decide (2 ≤ (b : Int) - (i2 : Int)) = false := decide_eq_false (by omega)
                have he : d2 = d3 := by rw [HD3.out, if_neg hge]
                have HE := Lib.hid he
                clear he
                go_wp2
                go_roundw
                case rel => exact ⟨i2, t + 1, d2, rfl, by go_num, by omega, by omega, by omega, HDN.out, HI5.out, HG5.out, HB5.out, by show _ = _; rw [HU2.out, HE.out]; exact HS2.out⟩
                case measure => first | (simp [intOf]; done) | (simp [intOf]; omega)
    · have hdt : decide ((t : Int) < 5) = false := decide_eq_false (by omega)
      have hst := HO.out
      rw [show 5 - t = 0 by omega, partialIns] at hst
      have HST := Lib.hid hst
      clear hst
      go_wp2
      go_ret
      exact pi_ends (by rw [HP.out, ← HST.out]) HI2.out HG2.out
end
end Go.Proofs.YtjocfkkcnkpjdaaDoor

/-! The library's sort.Slice with a 'less' that may make memory: pdqsort_func, whole. -/
namespace Go.Proofs.YtjocfkkcnkpjdaaDoor
open Go.RowKit Go.Sort
set_option linter.unusedVariables false

section
variable {α : Type} [Inhabited α] {lt : α → α → Bool} {g : Nat} {lb : Array Value} {sf : Nat} {sb : Array Value} {blk b0 B : Nat} {I : Array α → World → Prop} {W w' : World}
/-- What one round makes of what it finds, ahead of its partition. -/
structure Round (lt : α → α → Bool) (dk : Array α) (a b lim : Nat) (wb wp : Bool) (D1 : Array α) (LIM CP : Nat) (CH : Hint) (D2 : Array α) (PV : Nat) (HT : Hint) (PI : Array α) (PQ : Bool) : Prop where
  b0 : wb = false → D1 = breakPatterns dk a b ∧ LIM = lim - 1
  b1 : wb = true → D1 = dk ∧ LIM = lim
  c : choosePivot lt D1 a b = (CP, CH)
  r0 : CH = .decreasing → D2 = reverseRange D1 a b ∧ PV = (b - 1) - (CP - a) ∧ HT = .increasing
  r1 : CH ≠ .decreasing → D2 = D1 ∧ PV = CP ∧ HT = CH
  p1 : (wb && wp && decide (HT = .increasing)) = true → partialInsertionSort lt D2 a b = (PI, PQ)
  p0 : (wb && wp && decide (HT = .increasing)) = false → D2 = PI ∧ PQ = false
  s1 : D1.size = dk.size
  s2 : D2.size = dk.size
  s3 : PI.size = dk.size
  cp : a ≤ CP ∧ CP < b
  pv : a ≤ PV ∧ PV < b
  ll : LIM ≤ lim
  below : Go.Sort.Below lt a b PI
  done : ¬ b - a ≤ 12 → ¬ lim = 0 → PQ = true → pdq lt dk a b lim wb wp = PI
  eq : ¬ b - a ≤ 12 → ¬ lim = 0 → PQ = false → (decide (a > 0) && !lt PI[a - 1]! PI[PV]!) = true → ∀ mid d4, partitionEqual lt PI a b PV = (mid, d4) → a < mid → mid ≤ b → pdq lt dk a b lim wb wp = pdq lt d4 mid b LIM wb wp
  left : ¬ b - a ≤ 12 → ¬ lim = 0 → PQ = false → (decide (a > 0) && !lt PI[a - 1]! PI[PV]!) = false → ∀ mid ap d4, Sort.partition lt PI a b PV = (mid, ap, d4) → a ≤ mid → mid < b → mid - a < b - mid → pdq lt dk a b lim wb wp = pdq lt (pdq lt d4 a mid LIM true true) (mid + 1) b LIM (decide (mid - a ≥ (b - a) / 8)) ap
  right : ¬ b - a ≤ 12 → ¬ lim = 0 → PQ = false → (decide (a > 0) && !lt PI[a - 1]! PI[PV]!) = false → ∀ mid ap d4, Sort.partition lt PI a b PV = (mid, ap, d4) → a ≤ mid → mid < b → ¬ mid - a < b - mid → pdq lt dk a b lim wb wp = pdq lt (pdq lt d4 (mid + 1) b LIM true true) a mid LIM (decide (b - mid ≥ (b - a) / 8)) ap
theorem round_of (hO : SWO lt) (dk : Array α) (a b lim : Nat) (wb wp : Bool) (hab : a < b) (hb : b ≤ dk.size) (hB : Go.Sort.Below lt a b dk) : ∃ D1 LIM CP CH D2 PV HT PI PQ, Round lt dk a b lim wb wp D1 LIM CP CH D2 PV HT PI PQ := by
  obtain ⟨s1, B1, hc1, s2, B2, hpv, s3, B3⟩ := rd_facts (lt := lt) (limit := lim) (wb := wb) (wp := wp) hO partialInsertionSort_holds reverseRange_holds hab hb hB
  refine ⟨(rd lt dk a b lim wb wp).d1, (rd lt dk a b lim wb wp).lim, (rd lt dk a b lim wb wp).c.1, (rd lt dk a b lim wb wp).c.2, (rd lt dk a b lim wb wp).d2, (rd lt dk a b lim wb wp).pivot, (rd lt dk a b lim wb wp).hint, (rd lt dk a b lim wb wp).pi.1, (rd lt dk a b lim wb wp).pi.2, ?_⟩
  refine ⟨fun h => by subst h; exact rd_false, fun h => by subst h; exact rd_true, rd_c.symm, rd_dec, rd_not, fun h => (rd_pi_yes h).symm, fun h => ?_, s1, s2, s3, hc1, hpv, rd_lim_le, B3, fun h1 h2 h3 => pdq_done h1 h2 h3, fun h1 h2 h3 h4 mid d4 h5 h6 h7 => ?_, fun h1 h2 h3 h4 mid ap d4 h5 h6 h7 h8 => ?_, fun h1 h2 h3 h4 mid ap d4 h5 h6 h7 h8 => ?_⟩
  · rw [rd_pi_no h]
    exact ⟨rfl, rfl⟩
  · rw [pdq_eq h1 h2 h3 h4 (by rw [h5]; exact ⟨h6, h7⟩), h5]
  · rw [pdq_left h1 h2 h3 h4 (by rw [h5]; exact ⟨h6, h7⟩) (by rw [h5]; exact h8), h5]
  · rw [pdq_right h1 h2 h3 h4 (by rw [h5]; exact ⟨h6, h7⟩) (by rw [h5]; exact h8), h5]
def Breaks (g : Nat) (lb : Array Value) (sf : Nat) (sb : Array Value) (blk : Nat) (I : Array α → World → Prop) : Prop :=
  ∀ (d : Array α) w (a b : Nat), I d w → a ≤ b → b ≤ d.size → Calls Tryd.prog 75 #[lessSwap g lb sf sb, .int .i64 (a : Int), .int .i64 (b : Int)] w (SEnds I blk (breakPatterns d a b) w)
def Revs (g : Nat) (lb : Array Value) (sf : Nat) (sb : Array Value) (blk : Nat) (I : Array α → World → Prop) : Prop :=
  ∀ (d : Array α) w (a b : Nat), I d w → a ≤ b → b ≤ d.size → Calls Tryd.prog 77 #[lessSwap g lb sf sb, .int .i64 (a : Int), .int .i64 (b : Int)] w (SEnds I blk (reverseRange d a b) w)
theorem hint_two {h : Hint} (hd : h ≠ .decreasing) : (hintCode h == 2) = false := beq_false_of_ne fun e => hd (hintCode_two e)
theorem hint_one (h : Hint) : (hintCode h == 1) = decide (h = .increasing) := by cases h <;> rfl
set_option maxHeartbeats 32000000 in
set_option maxRecDepth 1000000 in
theorem pdq_any (S : SortOps lt g lb sf sb blk b0 I) (hO : SWO lt) (HBR : Breaks g lb sf sb blk I) (HRV : Revs g lb sf sb blk I) :
    ∀ (n a b limit : Nat) (d : Array α) (w : World), b - a < n → I d w → a ≤ b → b ≤ d.size → limit ≤ 1000 → Go.Sort.Below lt a b d →
    Calls Tryd.prog 55 #[lessSwap g lb sf sb, .int .i64 (a : Int), .int .i64 (b : Int), .int .i64 (limit : Int)] w (SEnds I blk (pdq lt d a b limit true true) w) := by
  have HBR := Lib.hid HBR
  have HRV := Lib.hid HRV
  have HO := Lib.hid hO
  clear hO
  intro n
  induction n with
  | zero => intro _ _ _ _ _ h; exact absurd h (Nat.not_lt_zero _)
  | succ n ih =>
    intro a b limit d w hn h hab hb hlimit hbel
    have hd := (S.row d w h).2
    have eg := S.enters
    have IH := Lib.hid ih
    clear ih
    obtain ⟨N, hN⟩ : ∃ N, d.size = N := ⟨_, rfl⟩
    rw [hN] at hb hd
    obtain ⟨k, hk⟩ : ∃ k, k = w.heap.size := ⟨_, rfl⟩
    obtain ⟨w1, hw1⟩ : ∃ x, x = w.alloc (.cells #[.func (.func g) #[] lb, .func (.func sf) #[] sb] 89) := ⟨_, rfl⟩
    have HB1 : Hid (SBox w1 k g lb sf sb blk) := by show SBox _ _ _ _ _ _ _; rw [hw1, hk]; exact ⟨heap_alloc_new w _, by have := (S.row d w h).1; omega⟩
    have HI1 : Hid (I d w1) := by show I _ _; rw [hw1]; exact S.on d w _ h ((Below.refl _ w).alloc (Nat.le_refl _) _)
    have HG1 : Hid (w.grownBy w1 (some blk)) := by show World.grownBy _ _ _; rw [hw1]; exact grow_alloc (grow_refl w _) _
    have HDN := Lib.hid hN
    have HBEL := Lib.hid hbel
    have HW1 := Lib.hid hw1
    have HK := Lib.hid hk
    clear h hN hw1 hk hbel
    unfold lessSwap
    go_enter Tryd.func55, Tryd.ntmps55
    go_upto_block 0 with fail
    rw [← HW1.out, ← HK.out]
    go_wp2_with fail
    go_loopw [1, 2, 3, 8, 9] (fun s1 s2 s3 s8 s9 wr => ∃ (a' b' lim : Nat) (wb wp : Bool) (dk : Array α), s1 = .int .i64 (a' : Int) ∧ s2 = .int .i64 (b' : Int) ∧ s3 = .int .i64 (lim : Int) ∧ s8 = .bool wb ∧ s9 = .bool wp ∧
      a' ≤ b' ∧ b' ≤ N ∧ b' - a' ≤ b - a ∧ lim ≤ limit ∧ Hid (dk.size = N) ∧ Hid (Go.Sort.Below lt a' b' dk) ∧ Hid (I dk wr) ∧ Hid (w.grownBy wr (some blk)) ∧ Hid (SBox wr k g lb sf sb blk) ∧ Hid (pdq lt dk a' b' lim wb wp = pdq lt d a b limit true true)) (fun s1 s2 _ _ _ _ => (intOf s2 - intOf s1).toNat)
    case atStart => exact ⟨a, b, limit, true, true, d, rfl, rfl, rfl, rfl, rfl, hab, hb, Nat.le_refl _, Nat.le_refl _, HDN.out, HBEL.out, HI1.out, HG1.out, HB1.out, rfl⟩
    case round =>
      clear HDN HBEL HI1 HG1 HB1
      obtain ⟨a', b', lim, wb, wp, dk, rfl, rfl, rfl, rfl, rfl, hab', hbN', hk', hlim, HDN, HBEL, HI, HG, HB, HEQ⟩ := hrel
      obtain ⟨wz, hwz⟩ : ∃ z : World, z = wr := ⟨_, rfl⟩
      subst hwz
      have c0 := HB.out.c0
      have c1 := HB.out.c1
      by_cases h12 : b' - a' ≤ 12
      · have hd12 : decide ((b' : Int) - (a' : Int) ≤ 12) = true := decide_eq_true (by omega)
        have HSM := Lib.hid (pdq_small (lt := lt) (d := dk) (limit := lim) (wb := wb) (wp := wp) h12)
        go_wp2_with fail
        refine (insertion_any S dk wz HI.out a' b' hab' (by rw [HDN.out]; exact hbN')).mono ?_
        rintro e w2 ⟨rfl, hi2, hg2⟩
        have HI2 := Lib.hid hi2
        have HG2 := Lib.hid (grow_trans HG.out hg2)
        clear hi2 hg2
        go_wp2
        go_end0
        exact ⟨rfl, by rw [← HEQ.out, HSM.out]; exact HI2.out, HG2.out⟩
      have hd12 : decide ((b' : Int) - (a' : Int) ≤ 12) = false := decide_eq_false (by omega)
      by_cases hl0 : lim = 0
      · have hdl : ((lim : Int) == 0) = true := by rw [hl0]; rfl
        have HSM := Lib.hid (pdq_heap (lt := lt) (d := dk) (wb := wb) (wp := wp) h12 hl0)
        clear hl0
        go_wp2_with fail
        refine (heapSort_any S dk wz HI.out a' b' hab' (by rw [HDN.out]; exact hbN')).mono ?_
        rintro e w2 ⟨rfl, hi2, hg2⟩
        have HI2 := Lib.hid hi2
        have HG2 := Lib.hid (grow_trans HG.out hg2)
        clear hi2 hg2
        go_wp2
        go_end0
        exact ⟨rfl, by rw [← HEQ.out, HSM.out]; exact HI2.out, HG2.out⟩
      have hdl : ((lim : Int) == 0) = false := beq_false_of_ne (by omega)
      obtain ⟨D1, LIM, CP, CH, D2, PV, HT, PI, PQ, R0⟩ := round_of HO.out dk a' b' lim wb wp (by omega) (by rw [HDN.out]; exact hbN') HBEL.out
      have R := Lib.hid R0
      obtain ⟨hcp1, hcp2⟩ := R0.cp
      obtain ⟨hpv1, hpv2⟩ := R0.pv
      have hll := R0.ll
      have HN1 : Hid (D1.size = N) := R0.s1.trans HDN.out
      have HN2 : Hid (D2.size = N) := R0.s2.trans HDN.out
      have HN3 : Hid (PI.size = N) := R0.s3.trans HDN.out
      have H12 := Lib.hid h12
      have HL0 := Lib.hid hl0
      clear R0
      go_upto_if 35 with fail
      go_cut [3] from 19 (fun s3 wc => s3 = .int .i64 (LIM : Int) ∧ Hid (I D1 wc) ∧ Hid (w.grownBy wc (some blk)) ∧ Hid (SBox wc k g lb sf sb blk))
      case first =>
        cases wb
        · obtain ⟨e1, e2⟩ := R.out.b0 rfl
          have E1 := Lib.hid e1
          have E2 : Hid ((lim : Int) - 1 = (LIM : Int)) := by show _ = _; omega
          clear e1 e2
          go_wp2_with fail
          refine (HBR.out dk wz a' b' HI.out hab' (by rw [HDN.out]; exact hbN')).mono ?_
          rintro e w2 ⟨rfl, hi2, hg2⟩
          have HI2 := Lib.hid hi2
          have HG2 := Lib.hid (grow_trans HG.out hg2)
          have HB2 := Lib.hid (HB.out.grown hg2)
          clear hi2 hg2
          go_wp2
          go_meet
          case rel => exact ⟨by rw [E2.out], by rw [E1.out]; exact HI2.out, HG2.out, HB2.out⟩
        · obtain ⟨e1, e2⟩ := R.out.b1 rfl
          have E1 := Lib.hid e1
          have E2 := Lib.hid e2
          clear e1 e2
          go_wp2
          go_meet
          case rel => exact ⟨by rw [E2.out], by rw [E1.out]; exact HI.out, HG.out, HB.out⟩
      case rest =>
        obtain ⟨rfl, HI1, HG1, HB1⟩ := hcut
        clear HI HG HB c0 c1 HDN
        have c0 := HB1.out.c0
        have c1 := HB1.out.c1
        have HC := Lib.hid R.out.c
        go_wp2_with fail
        refine (choosePivot_any S D1 _ HI1.out a' b' (by omega) (by rw [HN1.out]; exact hbN')).mono ?_
        rintro e w2 ⟨rfl, hi2, hbe2⟩
        rw [HC.out]
        have HI2 := Lib.hid hi2
        have HG2 := Lib.hid (grow_below HG1.out hbe2)
        have HB2 := Lib.hid (HB1.out.on hbe2)
        clear hi2 hbe2 HI1 HG1 HB1 c0 c1
        have c0 := HB2.out.c0
        have c1 := HB2.out.c1
        go_upto_if 50 with fail
        go_cut [11, 12] from 19 (fun s11 s12 wc => s11 = .int .i64 (PV : Int) ∧ s12 = .int .i64 (hintCode HT) ∧ Hid (I D2 wc) ∧ Hid (w.grownBy wc (some blk)) ∧ Hid (SBox wc k g lb sf sb blk))
        case first =>
          by_cases hh : CH = .decreasing
          · obtain ⟨e1, e2, e3⟩ := R.out.r0 hh
            have hcd : (hintCode CH == 2) = true := by rw [hh]; rfl
            have E1 := Lib.hid e1
            have E2 : Hid ((b' : Int) - 1 - ((CP : Int) - (a' : Int)) = (PV : Int)) := by show _ = _; omega
            have E3 : Hid ((1 : Int) = hintCode HT) := by show _ = _; rw [e3]; rfl
            clear e1 e2 e3 hh
            go_wp2_with fail
            refine (HRV.out D1 w2 a' b' HI2.out hab' (by rw [HN1.out]; exact hbN')).mono ?_
            rintro e w3 ⟨rfl, hi3, hg3⟩
            have HI3 := Lib.hid hi3
            have HG3 := Lib.hid (grow_trans HG2.out hg3)
            have HB3 := Lib.hid (HB2.out.grown hg3)
            clear hi3 hg3
            go_wp2
            go_meet
            case rel => exact ⟨by rw [E2.out], by rw [E3.out], by rw [E1.out]; exact HI3.out, HG3.out, HB3.out⟩
          · obtain ⟨e1, e2, e3⟩ := R.out.r1 hh
            have hcd := hint_two hh
            have E1 := Lib.hid e1
            have E2 := Lib.hid e2
            have E3 := Lib.hid e3
            clear e1 e2 e3 hh
            go_wp2
            go_meet
            case rel => exact ⟨by rw [E2.out], by rw [E3.out], by rw [E1.out]; exact HI2.out, HG2.out, HB2.out⟩
        case rest =>
          obtain ⟨rfl, rfl, HI3, HG3, HB3⟩ := hcut
          clear HI2 HG2 HB2 c0 c1
          have c0 := HB3.out.c0
          have c1 := HB3.out.c1
          obtain ⟨w3, hw3⟩ : ∃ z : World, z = wc := ⟨_, rfl⟩
          subst hw3
          obtain ⟨qt, hqt⟩ : ∃ q, q = (wb && wp && decide (HT = .increasing)) := ⟨_, rfl⟩
          have HQT := Lib.hid hqt
          obtain ⟨hz, hhz⟩ : ∃ z : Int, z = hintCode HT := ⟨_, rfl⟩
          have hz1 : (hz == 1) = decide (HT = .increasing) := by rw [hhz]; exact hint_one HT
          rw [← hhz]
          have HZ := Lib.hid hhz
          clear hqt hhz
          go_upto_region 16 with fail
          go_cut [68] from 19 (fun s68 wx => s68 = .bool qt ∧ w3 = wx)
          case first =>
            obtain ⟨qi, hqi⟩ : ∃ q, q = decide (HT = .increasing) := ⟨_, rfl⟩
            rw [← hqi] at hz1 HQT
            clear hqi
            cases wb <;> cases wp <;> cases qi <;>
              (have hq2 : qt = _ := HQT.out
               go_wp2_with fail
               go_meet
               case rel => exact ⟨by rw [HQT.out]; rfl, rfl⟩)
          case rest =>
            obtain ⟨rfl, rfl⟩ := hcut
            go_upto_if 68 with fail
            go_cut [] from 19 (fun wx => Hid (PQ = false) ∧ Hid (I PI wx) ∧ Hid (w.grownBy wx (some blk)) ∧ Hid (SBox wx k g lb sf sb blk))
            case first =>
              cases qt
              · obtain ⟨e1, e2⟩ := R.out.p0 HQT.out.symm
                have E1 := Lib.hid e1
                have E2 := Lib.hid e2
                clear e1 e2
                go_wp2
                go_meet
                case rel => exact ⟨E2.out, by rw [← E1.out]; exact HI3.out, HG3.out, HB3.out⟩
              · have E1 := Lib.hid (R.out.p1 HQT.out.symm)
                go_wp2_with fail
                refine (partialInsertionSort_any S D2 w3 HI3.out a' b' (by omega) (by rw [HN2.out]; exact hbN')).mono ?_
                rintro e w4 ⟨rfl, hi4, hg4⟩
                rw [E1.out] at hi4
                rw [E1.out]
                have HI4 := Lib.hid hi4
                have HG4 := Lib.hid (grow_trans HG3.out hg4)
                have HB4 := Lib.hid (HB3.out.grown hg4)
                clear hi4 hg4 E1
                cases PQ
                · go_wp2
                  go_meet
                  case rel => exact ⟨by first | exact rfl | exact trivial, HI4.out, HG4.out, HB4.out⟩
                · have HDONE := Lib.hid (R.out.done H12.out HL0.out rfl)
                  go_wp2
                  go_end0
                  exact ⟨rfl, by rw [← HEQ.out, HDONE.out]; exact HI4.out, HG4.out⟩
            case rest =>
              obtain ⟨HPQ, HI4, HG4, HB4⟩ := hcut
              clear HI3 HG3 HB3 c0 c1
              have c0 := HB4.out.c0
              have c1 := HB4.out.c1
              obtain ⟨q5, hq5⟩ : ∃ q, (decide (a' > 0) && !lt PI[a' - 1]! PI[PV]!) = q := ⟨_, rfl⟩
              have HQ5 := Lib.hid hq5
              clear hq5
              go_upto_region 18 with fail
              go_cut [83] from 19 (fun s83 wx => s83 = .bool q5 ∧ Hid (I PI wx) ∧ Hid (w.grownBy wx (some blk)) ∧ Hid (SBox wx k g lb sf sb blk))
              case first =>
                by_cases ha0 : a' = 0
                · have hda : decide (0 < (a' : Int)) = false := decide_eq_false (by omega)
                  have E5 : Hid (q5 = false) := by show _ = _; rw [← HQ5.out, ha0]; rfl
                  have ha1 : ¬ 0 < (a' : Int) := by omega
                  clear ha0
                  go_wp2_with fail
                  go_meet
                  case rel => exact ⟨by rw [E5.out], HI4.out, HG4.out, HB4.out⟩
                · have hda : decide (0 < (a' : Int)) = true := decide_eq_true (by omega)
                  obtain ⟨ql, hql⟩ : ∃ q, lt PI[a' - 1]! PI[PV]! = q := ⟨_, rfl⟩
                  have E5 : Hid (q5 = !ql) := by show _ = _; rw [← HQ5.out, hql, decide_eq_true (by omega : a' > 0)]; rfl
                  have hl := S.less PI _ (a' - 1) PV HI4.out (by rw [HN3.out]; omega) (by rw [HN3.out]; omega)
                  rw [hql, show ((a' - 1 : Nat) : Int) = (a' : Int) - 1 by omega] at hl
                  have HL := Lib.hid hl
                  have ha1 : 0 < (a' : Int) := by omega
                  clear hl hql ha0
                  cases ql <;>
                    (go_wp2_with fail
                     refine HL.out.mono ?_
                     rintro e w5 ⟨rfl, hb5⟩
                     have HE5 := Lib.hid hb5
                     clear hb5 HL
                     go_wp2_with fail
                     go_meet
                     case rel => exact ⟨by rw [E5.out]; rfl, S.on PI _ w5 HI4.out HE5.out, grow_below HG4.out HE5.out, HB4.out.on HE5.out⟩)
              case rest =>
                obtain ⟨rfl, HI5, HG5, HB5⟩ := hcut
                clear HI4 HG4 HB4 c0 c1
                have c0 := HB5.out.c0
                have c1 := HB5.out.c1
                cases q5
                · obtain ⟨⟨mid, ap, d4⟩, hx⟩ : ∃ r, Sort.partition lt PI a' b' PV = r := ⟨_, rfl⟩
                  obtain ⟨r1, r2, r3, r4, r5, r6, r7⟩ := round_part HO.out (partition_holds lt) hpv1 hpv2 (show b' ≤ PI.size by rw [HN3.out]; exact hbN') R.out.below hx
                  have HX := Lib.hid hx
                  have HN4 : Hid (d4.size = N) := r3.trans HN3.out
                  have H4 := Lib.hid r4
                  have H5 := Lib.hid r5
                  have H6 := Lib.hid r6
                  have H7 := Lib.hid r7
                  clear hx r3 r4 r5 r6 r7
                  go_wp2_with fail
                  refine (partition_any S PI _ HI5.out a' b' PV hpv1 hpv2 (by rw [HN3.out]; exact hbN')).mono ?_
                  rintro e w6 ⟨rfl, hi6, hg6⟩
                  rw [HX.out] at hi6
                  rw [HX.out]
                  have HI6 := Lib.hid hi6
                  have HG6 := Lib.hid (grow_trans HG5.out hg6)
                  have HB6 := Lib.hid (HB5.out.grown hg6)
                  clear hi6 hg6 HI5 HG5 HB5 c0 c1
                  have c0 := HB6.out.c0
                  have c1 := HB6.out.c1
                  by_cases hlr : mid - a' < b' - mid
                  · have hdlr : decide ((mid : Int) - (a' : Int) < (b' : Int) - (mid : Int)) = true := decide_eq_true (by omega)
                    have hpl := pdq_sorts lt HO.out d4 a' mid LIM true true (by omega) (by rw [HN4.out]; omega) H4.out
                    have HPL := Lib.hid hpl
                    have HLEFT := Lib.hid (R.out.left H12.out HL0.out HPQ.out HQ5.out mid ap d4 HX.out r1 r2 hlr)
                    clear hpl
                    go_wp2_with fail
                    refine (IH.out a' mid LIM d4 w6 (by omega) HI6.out (by omega) (by rw [HN4.out]; omega) (by omega) H4.out).mono ?_
                    rintro e w7 ⟨rfl, hi7, hg7⟩
                    have HI7 := Lib.hid hi7
                    have HG7 := Lib.hid (grow_trans HG6.out hg7)
                    have HB7 := Lib.hid (HB6.out.grown hg7)
                    clear hi7 hg7
                    go_wp2
                    go_roundw
                    case rel =>
                      refine ⟨mid + 1, b', LIM, decide (mid - a' ≥ (b' - a') / 8), ap, pdq lt d4 a' mid LIM true true, by go_num, rfl, rfl, ?_, rfl, by omega, by omega, by omega, by omega, (HPL.out.1.1).trans HN4.out, (H6.out _ HPL.out.1 HPL.out.2).1, HI7.out, HG7.out, HB7.out, ?_⟩
                      · exact congrArg Value.bool (eighth (by omega) (by omega))
                      · show _ = _
                        rw [← HEQ.out, HLEFT.out]
                    case measure => first | (simp [intOf]; done) | (simp [intOf]; omega)
                  · have hdlr : decide ((mid : Int) - (a' : Int) < (b' : Int) - (mid : Int)) = false := decide_eq_false (by omega)
                    have hpl := pdq_sorts lt HO.out d4 (mid + 1) b' LIM true true (by omega) (by rw [HN4.out]; omega) H5.out
                    have HPL := Lib.hid hpl
                    have HRIGHT := Lib.hid (R.out.right H12.out HL0.out HPQ.out HQ5.out mid ap d4 HX.out r1 r2 hlr)
                    have hih := IH.out (mid + 1) b' LIM d4 w6 (by omega) HI6.out (by omega) (by rw [HN4.out]; omega) (by omega) H5.out
                    rw [show ((mid + 1 : Nat) : Int) = (mid : Int) + 1 by omega] at hih
                    have HIH := Lib.hid hih
                    clear hpl hih
                    go_wp2_with fail
                    refine HIH.out.mono ?_
                    rintro e w7 ⟨rfl, hi7, hg7⟩
                    have HI7 := Lib.hid hi7
                    have HG7 := Lib.hid (grow_trans HG6.out hg7)
                    have HB7 := Lib.hid (HB6.out.grown hg7)
                    clear hi7 hg7
                    go_wp2
                    go_roundw
                    case rel =>
                      refine ⟨a', mid, LIM, decide (b' - mid ≥ (b' - a') / 8), ap, pdq lt d4 (mid + 1) b' LIM true true, rfl, rfl, rfl, ?_, rfl, by omega, by omega, by omega, by omega, (HPL.out.1.1).trans HN4.out, (H7.out _ HPL.out.1 HPL.out.2).1, HI7.out, HG7.out, HB7.out, ?_⟩
                      · exact congrArg Value.bool (eighth (by omega) (by omega))
                      · show _ = _
                        rw [← HEQ.out, HRIGHT.out]
                    case measure => first | (simp [intOf]; done) | (simp [intOf]; omega)
                · have hq := HQ5.out
                  simp only [Bool.and_eq_true, decide_eq_true_eq, Bool.not_eq_true'] at hq
                  obtain ⟨⟨mid, d4⟩, hx⟩ : ∃ r, Sort.partitionEqual lt PI a' b' PV = r := ⟨_, rfl⟩
                  obtain ⟨r1, r2, r3, r4, _⟩ := round_eq HO.out (partitionEqual_holds lt) hq.1 hpv1 hpv2 (show b' ≤ PI.size by rw [HN3.out]; exact hbN') R.out.below hq.2 hx
                  have HX := Lib.hid hx
                  have HN4 : Hid (d4.size = N) := r3.trans HN3.out
                  have H4 := Lib.hid r4
                  have HEE := Lib.hid (R.out.eq H12.out HL0.out HPQ.out HQ5.out mid d4 hx r1 r2)
                  clear hx r3 r4 hq
                  go_wp2_with fail
                  refine (partitionEqual_any S PI _ HI5.out a' b' PV hpv1 hpv2 (by rw [HN3.out]; exact hbN')).mono ?_
                  rintro e w6 ⟨rfl, hi6, hg6⟩
                  rw [HX.out] at hi6
                  rw [HX.out]
                  have HI6 := Lib.hid hi6
                  have HG6 := Lib.hid (grow_trans HG5.out hg6)
                  have HB6 := Lib.hid (HB5.out.grown hg6)
                  clear hi6 hg6
                  go_wp2
                  go_roundw
                  case rel => exact ⟨mid, b', LIM, wb, wp, d4, rfl, rfl, rfl, rfl, rfl, by omega, by omega, by omega, by omega, HN4.out, H4.out, HI6.out, HG6.out, HB6.out, by show _ = _; rw [← HEQ.out, HEE.out]⟩
                  case measure => first | (simp [intOf]; done) | (simp [intOf]; omega)
end
end Go.Proofs.YtjocfkkcnkpjdaaDoor

/-! sort.Slice over names, by a 'less' that makes memory: what List's own closure tells; the row is sorted. -/
namespace Go.Proofs.YtjocfkkcnkpjdaaDoor
open Go.RowKit Go.Sort
open Go.RuneMath
open Go.FsMath
set_option linter.unusedVariables false

theorem Tabs.kept {w w' : World} {F : Nat → Prop} (h : Tabs w) (hk : Kept w w' F) (h0 : ¬ F 0) (h1 : ¬ F 1) : Tabs w' := by
  obtain ⟨t1, t2⟩ := h
  have hc : ∀ b, ¬ F b → ∀ o v, w.cell? ⟨b, o, none⟩ = some v → w'.cell? ⟨b, o, none⟩ = some v := fun b hb o v e => by
    have e1 := hk.block b (World.block_lt_of_cell? w _ e) hb
    unfold World.cell? at e ⊢
    simp only [e1]
    exact e
  exact ⟨fun c hcc => hc 0 h0 _ _ (t1 c hcc), fun i hi => ⟨hc 1 h1 _ _ (t2 i hi).1, hc 1 h1 _ _ (t2 i hi).2⟩⟩
set_option maxRecDepth 100000 in
set_option maxHeartbeats 4000000 in
theorem listLess_any (w : World) (Bs blk n cap i j : Nat) (a b : ByteArray) (hB : w.cell? ⟨Bs, 0, none⟩ = some (.slice (some ⟨blk, 0, none⟩) n cap)) (hi : i < n) (hj : j < n)
    (ca : w.cell? ⟨blk, i, none⟩ = some (.string a)) (cb : w.cell? ⟨blk, j, none⟩ = some (.string b)) (hT : Tabs w) :
    Calls Tryd.prog 39 #[.int .i64 (i : Int), .int .i64 (j : Int), .pointer (some ⟨Bs, 0, none⟩)] w fun e w' => e = .returned (.bool (lessS a b)) ∧ Below w.heap.size w w' := by
  have hii : (i : Int) < (n : Int) := by omega
  have hjj : (j : Int) < (n : Int) := by omega
  have HT := Lib.hid hT
  have KS : Hid (∀ W, Below w.heap.size w W → (fun (W : World) => W.cell? ⟨Bs, 0, none⟩ = some (.slice (some ⟨blk, 0, none⟩) n cap) ∧ W.cell? ⟨blk, i, none⟩ = some (.string a) ∧ W.cell? ⟨blk, j, none⟩ = some (.string b)) W) := fun W hW => ⟨(hW.cell (p := ⟨Bs, 0, none⟩) (World.block_lt_of_cell? _ _ hB)).trans hB, (hW.cell (p := ⟨blk, i, none⟩) (World.block_lt_of_cell? _ _ ca)).trans ca, (hW.cell (p := ⟨blk, j, none⟩) (World.block_lt_of_cell? _ _ cb)).trans cb⟩
  have hdrw : Below w.heap.size w w.drew := (Below.refl _ w).drew
  obtain ⟨q, hq⟩ : ∃ q, lessS a b = q := ⟨_, rfl⟩
  have HQ := Lib.hid hq
  clear hT hB ca cb hq
  go_enter Tryd.func39, Tryd.ntmps39
  go_upto_region 1 with fail
  refine wp_region_noPanic ?_
  refine wp_region_z [] (fun (W : World) => W.cell? ⟨Bs, 0, none⟩ = some (.slice (some ⟨blk, 0, none⟩) n cap) ∧ W.cell? ⟨blk, i, none⟩ = some (.string a) ∧ W.cell? ⟨blk, j, none⟩ = some (.string b)) (by kernel_rfl) ?_
  have hHeld : (fun (W : World) => W.cell? ⟨Bs, 0, none⟩ = some (.slice (some ⟨blk, 0, none⟩) n cap) ∧ W.cell? ⟨blk, i, none⟩ = some (.string a) ∧ W.cell? ⟨blk, j, none⟩ = some (.string b)) _ := KS.out _ hdrw
  obtain ⟨u0, hu0⟩ : ∃ u, u = w.drew := ⟨_, rfl⟩
  rw [← hu0] at hHeld hdrw
  rw [← hu0]
  clear hu0
  have HB0 := Lib.hid hdrw
  clear hdrw
  refine wpAnyZ_take (i := 0) (oi := ⟨_, _, _, _, _, _⟩) (v := ?_) rfl (by kernel_rfl) (by kernel_rfl) (by kernel_rfl) (by kernel_rfl) (by kernel_rfl) (fun _ _ _ h => h) (Or.inl ⟨by rfl, ?_⟩) (by assumption) ?_
  rotate_left
  · intro W hSw
    (try dsimp only at hSw)
    go_simp
    (try with_reducible rfl)
  (try simp only [Act.put, List.setIfInBounds_toArray, List.set_cons_zero, List.set_cons_succ])
  refine wpAnyZ_take (i := 1) (oi := ⟨_, _, _, _, _, _⟩) (v := ?_) rfl (by kernel_rfl) (by kernel_rfl) (by kernel_rfl) (by kernel_rfl) (by kernel_rfl) (fun _ _ _ h => h) (Or.inl ⟨by rfl, ?_⟩) (by assumption) ?_
  rotate_left
  · intro W hSw
    (try dsimp only at hSw)
    go_simp
    (try with_reducible rfl)
  (try simp only [Act.put, List.setIfInBounds_toArray, List.set_cons_zero, List.set_cons_succ])
  refine wpAnyZ_take (i := 2) (oi := ⟨_, _, _, _, _, _⟩) (v := ?_) rfl (by kernel_rfl) (by kernel_rfl) (by kernel_rfl) (by kernel_rfl) (by kernel_rfl) (fun _ _ _ h => h) (Or.inl ⟨by rfl, ?_⟩) (by assumption) ?_
  rotate_left
  · intro W hSw
    (try dsimp only at hSw)
    go_simp
    (try with_reducible rfl)
  (try simp only [Act.put, List.setIfInBounds_toArray, List.set_cons_zero, List.set_cons_succ])
  refine wpAnyZ_take (i := 3) (oi := ⟨_, _, _, _, _, _⟩) (v := ?_) rfl (by kernel_rfl) (by kernel_rfl) (by kernel_rfl) (by kernel_rfl) (by kernel_rfl) (fun _ _ _ h => h) (Or.inl ⟨by rfl, ?_⟩) (by assumption) ?_
  rotate_left
  · intro W hSw
    (try dsimp only at hSw)
    go_simp
    (try with_reducible rfl)
  (try simp only [Act.put, List.setIfInBounds_toArray, List.set_cons_zero, List.set_cons_succ])
  refine wpAnyZ_take (i := 4) (oi := ⟨_, _, _, _, _, _⟩) (v := ?_) rfl (by kernel_rfl) (by kernel_rfl) (by kernel_rfl) (by kernel_rfl) (by kernel_rfl) (fun _ _ _ h => h) (Or.inl ⟨by rfl, ?_⟩) (by assumption) ?_
  rotate_left
  · intro W hSw
    (try dsimp only at hSw)
    go_simp
    (try with_reducible rfl)
  (try simp only [Act.put, List.setIfInBounds_toArray, List.set_cons_zero, List.set_cons_succ])
  refine wpAnyZ_take (i := 5) (oi := ⟨_, _, _, _, _, _⟩) (v := ?_) rfl (by kernel_rfl) (by kernel_rfl) (by kernel_rfl) (by kernel_rfl) (by kernel_rfl) (fun _ _ _ h => h) (Or.inl ⟨by rfl, ?_⟩) (by assumption) ?_
  rotate_left
  · intro W hSw
    (try dsimp only at hSw)
    go_simp
    (try with_reducible rfl)
  (try simp only [Act.put, List.setIfInBounds_toArray, List.set_cons_zero, List.set_cons_succ])
  refine wpAnyZ_take (i := 6) (oi := ⟨_, _, _, _, _, _⟩) (v := ?_) rfl (by kernel_rfl) (by kernel_rfl) (by kernel_rfl) (by kernel_rfl) (by kernel_rfl) (fun _ _ _ h => h) (Or.inl ⟨by rfl, ?_⟩) (by assumption) ?_
  rotate_left
  · intro W hSw
    (try dsimp only at hSw)
    go_simp
    (try with_reducible rfl)
  (try simp only [Act.put, List.setIfInBounds_toArray, List.set_cons_zero, List.set_cons_succ])
  refine wpAnyZ_take (i := 7) (oi := ⟨_, _, _, _, _, _⟩) (v := ?_) rfl (by kernel_rfl) (by kernel_rfl) (by kernel_rfl) (by kernel_rfl) (by kernel_rfl) (fun _ _ _ h => h) (Or.inl ⟨by rfl, ?_⟩) (by assumption) ?_
  rotate_left
  · intro W hSw
    (try dsimp only at hSw)
    go_simp
    (try with_reducible rfl)
  (try simp only [Act.put, List.setIfInBounds_toArray, List.set_cons_zero, List.set_cons_succ])
  refine wpAnyZ_ready (rs := [8]) (by kernel_rfl) (by simp) ?_
  refine AllReadyZ.cons (o := ⟨_, _, _, _, _, _⟩) rfl (fun C hC => ?_) AllReadyZ.nil
  go_simp
  refine (less_any _ a b (HT.out.keep HB0.out)).mono ?_
  rintro e u1 ⟨rfl, hb1⟩
  have HB1 := Lib.hid (HB0.out.trans (hb1.mono HB0.out.size))
  have HQ2 : Hid (lessB a.data.toList b.data.toList = q) := HQ.out
  rw [HQ2.out]
  clear hb1
  have hHeld : (fun (W : World) => W.cell? ⟨Bs, 0, none⟩ = some (.slice (some ⟨blk, 0, none⟩) n cap) ∧ W.cell? ⟨blk, i, none⟩ = some (.string a) ∧ W.cell? ⟨blk, j, none⟩ = some (.string b)) u1 := KS.out _ HB1.out
  refine hC.out _ _ (fun _ => hHeld) (fun _ => ?_)
  clear hC C
  (try simp only [Act.put, List.setIfInBounds_toArray, List.set_cons_zero, List.set_cons_succ])
  refine wpAnyZ_take (i := 9) (oi := ⟨_, _, _, _, _, _⟩) (v := ?_) rfl (by kernel_rfl) (by kernel_rfl) (by kernel_rfl) (by kernel_rfl) (by kernel_rfl) (fun _ _ _ h => h) (Or.inl ⟨by rfl, ?_⟩) (by assumption) ?_
  rotate_left
  · intro W hSw
    (try dsimp only at hSw)
    go_simp
    (try with_reducible rfl)
  (try simp only [Act.put, List.setIfInBounds_toArray, List.set_cons_zero, List.set_cons_succ])
  refine wpAnyZ_done (by kernel_rfl) ?_ _
  refine NoPanic.normal ?_
  clear hHeld
  go_wp2
  go_ret
  exact ⟨by rw [HQ.out]; rfl, HB1.out⟩
/-- A block that holds a row of names, and some room. -/
def RowIs (W : World) (blk cap : Nat) (d : Array ByteArray) : Prop := ∃ cur : Array Value, W.heap[blk]? = some (.cells cur 9 (0, 0)) ∧ cur.size = cap ∧ d.size ≤ cap ∧ ∀ (t : Nat) x, d[t]? = some x → cur[t]? = some (.string x)
theorem RowIs.holds {W : World} {blk cap : Nat} {d : Array ByteArray} (h : RowIs W blk cap d) : Holds Value.string W blk 0 d := by
  obtain ⟨cur, hb, hs, hd, hc⟩ := h
  intro j hj
  refine ⟨?_, frozen_of_row W blk _ _ _ hb⟩
  rw [Nat.zero_add]
  have h1 : d[j]? = some d[j]! := by rw [getElem!_pos d j hj]; exact Array.getElem?_eq_getElem hj
  have h2 := hc j _ h1
  unfold World.cell?
  simp only [hb]
  exact h2
theorem RowIs.lt {W : World} {blk cap : Nat} {d : Array ByteArray} (h : RowIs W blk cap d) : blk < W.heap.size := by
  obtain ⟨cur, hb, _⟩ := h
  exact (Array.getElem?_eq_some_iff.1 hb).1
theorem RowIs.same {W W' : World} {blk cap : Nat} {d : Array ByteArray} (h : RowIs W blk cap d) (e : W'.heap[blk]? = W.heap[blk]?) : RowIs W' blk cap d := by
  obtain ⟨cur, hb, r⟩ := h
  exact ⟨cur, e.trans hb, r⟩
theorem RowIs.put {W : World} {blk cap m : Nat} {d d' : Array ByteArray} {os : Array Obj} (h : RowIs W blk cap d) (hs : d'.size = d.size) : RowIs (sortWorld Value.string W blk 0 m d' os) blk cap d' ∧ W.grownBy (sortWorld Value.string W blk 0 m d' os) (some blk) := by
  have hlt := h.lt
  obtain ⟨cur, hb, hc, hd, hg⟩ := h
  have hsz : (putRow Value.string (Sort.ahead W m) blk 0 d').heap.size = W.heap.size := by simp [putRow, mapBlock, Sort.ahead]
  have hold : ∀ k, k < W.heap.size → (sortWorld Value.string W blk 0 m d' os).heap[k]? = (putRow Value.string (Sort.ahead W m) blk 0 d').heap[k]? := fun k hk => by
    unfold sortWorld grow
    simp only
    rw [Array.getElem?_append, if_pos (by rw [hsz]; exact hk)]
  refine ⟨⟨putCells Value.string 0 d' cur, ?_, ?_, by omega, fun t x hx => ?_⟩, ?_⟩
  · rw [hold blk hlt]
    unfold putRow mapBlock
    simp only [Array.getElem?_modify, if_true]
    show Option.map _ W.heap[blk]? = _
    rw [hb]
    rfl
  · unfold putCells
    rw [Array.size_mapIdx]
    exact hc
  · have ht : t < d'.size := (Array.getElem?_eq_some_iff.1 hx).1
    have htc : t < cur.size := by omega
    unfold putCells
    rw [Array.getElem?_mapIdx, Array.getElem?_eq_getElem htc]
    simp only [Option.map_some]
    rw [if_pos ⟨Nat.zero_le _, by omega⟩, Nat.sub_zero, getElem!_pos d' t ht]
    rw [Array.getElem?_eq_getElem ht] at hx
    rw [Option.some.inj hx]
  · refine ⟨rfl, rfl, rfl, ?_, fun k hk hne => ?_⟩
    · unfold sortWorld grow
      simp only [Array.size_append]
      rw [hsz]
      omega
    · rw [hold k hk]
      unfold putRow mapBlock
      simp only [Array.getElem?_modify]
      rw [if_neg fun e => hne (by rw [e])]
      rfl
theorem RowIs.swap {W : World} {blk cap i j : Nat} {d : Array ByteArray} (h : RowIs W blk cap d) (hi : i < d.size) (hj : j < d.size) : RowIs ((W.setCell ⟨blk, 0 + i, none⟩ (.string d[j]!)).setCell ⟨blk, 0 + j, none⟩ (.string d[i]!)) blk cap (swp d i j) := by
  obtain ⟨cur, hb, hc, hd, hg⟩ := h
  rw [Nat.zero_add, Nat.zero_add]
  have h2 := box_set (box_set hb i (.string d[j]!)) j (.string d[i]!)
  refine ⟨_, h2, by simp [hc], by rw [size_swp]; exact hd, fun t x hx => ?_⟩
  unfold swp at hx
  simp only [Array.getElem?_setIfInBounds, Array.size_setIfInBounds] at hx ⊢
  by_cases hjt : j = t
  · subst hjt
    rw [if_pos rfl, if_pos hj] at hx
    rw [if_pos rfl, if_pos (by omega)]
    rw [Option.some.inj hx]
  · rw [if_neg hjt] at hx ⊢
    by_cases hit : i = t
    · subst hit
      rw [if_pos rfl, if_pos hi] at hx
      rw [if_pos rfl, if_pos (by omega)]
      rw [Option.some.inj hx]
    · rw [if_neg hit] at hx ⊢
      exact hg t x hx
noncomputable def ssT : TypeInfo := (Tryd.prog.info? 32).get (by kernel_rfl)
noncomputable def ssE : TypeInfo := (Tryd.prog.info? 9).get (by kernel_rfl)
theorem ssK (n : Nat) (h2 : 2 ≤ n) : Lib.swapperK n ssE 24 = 4 := by
  have a : ssE.hasPointers = true := by kernel_rfl
  have b : (ssE.bytes == 8) = false := by kernel_rfl
  have c : (n == 0) = false := by simp; omega
  have d : (n == 1) = false := by simp; omega
  simp [Lib.swapperK, a, b, c, d]
/-- What is sorted: the row, and nothing else has turned since w0. -/
def SortI (w0 : World) (blk cap n : Nat) (d : Array ByteArray) (W : World) : Prop := RowIs W blk cap d ∧ Kept w0 W (fun i => i = blk) ∧ d.size = n
theorem lessS_ntrans {x y z : ByteArray} (h1 : lessS x y = false) (h2 : lessS y z = false) : lessS x z = false := by
  cases h : lessS x z
  · rfl
  · exfalso
    unfold lessS lessB at h h1 h2
    have t : ∀ a b : List Nat, lessR a b = false → lessR b a = false → a = b := less_tri
    cases hyx : lessR (runes y.data.toList) (runes x.data.toList)
    · rw [t _ _ h1 hyx] at h
      rw [h] at h2
      cases h2
    · rw [less_trans _ _ _ hyx h] at h2
      cases h2
theorem lessS_swo : SWO lessS := ⟨lessS_irr, fun x y z h k => lessS_trans h k, fun x y z h k => lessS_ntrans h k⟩
section
variable {w0 : World} {Bs blk cap n : Nat}
theorem swaps_str (blk n c : Nat) : SwapSwaps Tryd.prog 65 #[.slice (some ⟨blk, 0, none⟩) n c, typeHandle Tryd.prog 9] Value.string blk 0 n :=
  swapSwaps_of_literal true 65 (fun args W => run_callFunc_extern Tryd.func65 (by kernel_rfl) (by kernel_rfl) (by kernel_rfl) (e := Extern.ReflectliteSwapper.swap true) (by kernel_rfl) args W)
    9 ssE (by kernel_rfl) (by kernel_rfl) (fun _ => by kernel_rfl) Value.string (fun _ => rfl) blk 0 n c
theorem sort_ops (hB : w0.cell? ⟨Bs, 0, none⟩ = some (.slice (some ⟨blk, 0, none⟩) n cap)) (hne : Bs ≠ blk) (hbl : blk < w0.heap.size) (h2 : 2 ≤ blk) (hT : Tabs w0) (hn : n ≤ 1000000) :
    SortOps lessS 39 #[.pointer (some ⟨Bs, 0, none⟩)] 65 #[.slice (some ⟨blk, 0, none⟩) n cap, typeHandle Tryd.prog 9] blk w0.heap.size (SortI w0 blk cap n) where
  enters := enters_of Tryd.func39 (by kernel_rfl) rfl
  less := fun d W i j h hi hj => by
    obtain ⟨hr, hk, hd⟩ := h
    obtain ⟨cur, hb, hs, hdc, hg⟩ := hr
    have hcell : ∀ t, t < d.size → W.cell? ⟨blk, t, none⟩ = some (.string d[t]!) := fun t ht => by
      have h1 : d[t]? = some d[t]! := by rw [getElem!_pos d t ht]; exact Array.getElem?_eq_getElem ht
      have h3 := hg t _ h1
      unfold World.cell?
      simp only [hb]
      exact h3
    have hB' : W.cell? ⟨Bs, 0, none⟩ = some (.slice (some ⟨blk, 0, none⟩) n cap) := by
      have e1 := hk.block Bs (World.block_lt_of_cell? w0 _ hB) hne
      unfold World.cell? at hB ⊢
      simp only [e1]
      exact hB
    exact listLess_any W Bs blk n cap i j d[i]! d[j]! hB' (by omega) (by omega) (hcell i hi) (hcell j hj) (hT.kept hk (by omega) (by omega))
  swap := fun d W i j h hi hj => by
    obtain ⟨hr, hk, hd⟩ := h
    have hg : W.grownBy ((W.setCell ⟨blk, 0 + i, none⟩ (.string d[j]!)).setCell ⟨blk, 0 + j, none⟩ (.string d[i]!)) (some blk) := grow_set (grow_set (grow_refl W _) _ _) _ _
    exact ⟨_, swaps_str blk n cap W d hr.holds hd i j (by omega) (by omega), ⟨hr.swap hi hj, hk.trans (Kept.of_grown (F := fun i => i = blk) hg (.inl rfl)) fun i hi => .inl hi, by rw [size_swp]; exact hd⟩, hg⟩
  on := fun d W w' h hb => ⟨h.1.same (hb.block blk h.1.lt), h.2.1.trans (Kept.of_below (F := fun i => i = blk) hb) fun i hi => .inl hi, h.2.2⟩
  off := fun d W w' k h hg hk => ⟨h.1.same (hg.block blk h.1.lt fun e => by have := Option.some.inj e; omega), ⟨hg.os.trans h.2.1.os, hg.tape.trans h.2.1.tape, hg.output.trans h.2.1.output, Nat.le_trans h.2.1.size hg.size, fun j hj hn => (hg.block j (Nat.lt_of_lt_of_le hj h.2.1.size) fun e => by have := Option.some.inj e; omega).trans (h.2.1.block j hj hn)⟩, h.2.2⟩
  old := fun d W h => ⟨h.2.1.size, hbl⟩
  row := fun d W h => ⟨h.1.lt, by rw [h.2.2]; exact hn⟩
theorem sort_put {W : World} {d d' : Array ByteArray} {m : Nat} {os : Array Obj} (h : SortI w0 blk cap n d W) (hs : d'.size = d.size) : SortI w0 blk cap n d' (sortWorld Value.string W blk 0 m d' os) ∧ W.grownBy (sortWorld Value.string W blk 0 m d' os) (some blk) := by
  obtain ⟨h1, h2⟩ := h.1.put (m := m) (os := os) hs
  exact ⟨⟨h1, h.2.1.trans (Kept.of_grown (F := fun i => i = blk) h2 (.inl rfl)) fun i hi => .inl hi, hs.trans h.2.2⟩, h2⟩
theorem sort_breaks (hn : n ≤ 1000000) (lb : Array Value) : Breaks 39 lb 65 #[.slice (some ⟨blk, 0, none⟩) n cap, typeHandle Tryd.prog 9] blk (SortI w0 blk cap n) := fun d w a b h hab hb => by
  have hc := Any.breakPatterns_func_w (P := Tryd.prog) (ρ := Tryd.laysGg6_ren) { Tryd.laysGg6 with } Value.string (.func 39) #[] lb 65 _ blk 0 a b d w (by rw [h.2.2]; exact swaps_str blk n cap) h.1.holds h.1.lt hab hb (by rw [h.2.2]; omega)
  change Calls Tryd.prog 75 _ w _ at hc
  refine hc.mono ?_
  rintro e w' ⟨rfl, m, os, rfl⟩
  obtain ⟨h1, h2⟩ := sort_put h (breakPatterns_holds d a b hab hb).1 (m := m) (os := os)
  exact ⟨rfl, h1, h2⟩
theorem sort_revs (hn : n ≤ 1000000) (lb : Array Value) : Revs 39 lb 65 #[.slice (some ⟨blk, 0, none⟩) n cap, typeHandle Tryd.prog 9] blk (SortI w0 blk cap n) := fun d w a b h hab hb => by
  have hc := Any.reverseRange_func_w (P := Tryd.prog) (ρ := Tryd.laysGg6_ren) { Tryd.laysGg6 with } Value.string (.func 39) #[] lb 65 _ blk 0 a b d w (by rw [h.2.2]; exact swaps_str blk n cap) h.1.holds h.1.lt hab hb (by rw [h.2.2]; omega)
  change Calls Tryd.prog 77 _ w _ at hc
  refine hc.mono ?_
  rintro e w' ⟨rfl, m, os, rfl⟩
  obtain ⟨h1, h2⟩ := sort_put h (reverseRange_holds d a b hab hb).1 (m := m) (os := os)
  exact ⟨rfl, h1, h2⟩
/-- The row is sorted, whatever its length. -/
def Sorts (w : World) (blk cap : Nat) (d : Array ByteArray) (e : Ending) (w' : World) : Prop := e = .returned (.tuple #[]) ∧ ∃ d' : Array ByteArray, PermIn 0 d.size d d' ∧ SortedIn lessS 0 d.size d' ∧ RowIs w' blk cap d' ∧ Kept w w' (fun i => i = blk)
theorem grow_is_below (w : World) (os : Array Obj) : Below w.heap.size w (Sort.grow w os) := ⟨rfl, rfl, rfl, by rw [size_grow]; omega, fun k hk => heap_grow_old w os hk⟩
set_option maxRecDepth 100000 in
theorem slice_any (w : World) (Bs blk cap n : Nat) (d : Array ByteArray) (hd : d.size = n) (hr : RowIs w blk cap d) (hB : w.cell? ⟨Bs, 0, none⟩ = some (.slice (some ⟨blk, 0, none⟩) n cap)) (hne : Bs ≠ blk) (h2 : 2 ≤ blk) (hT : Tabs w) (hn : n ≤ 1000000) :
    Calls Tryd.prog 38 #[.iface 32 (.slice (some ⟨blk, 0, none⟩) n cap), .func (.func 39) #[] #[.pointer (some ⟨Bs, 0, none⟩)]] w (Sorts w blk cap d) := by
  by_cases hn2 : 2 ≤ n
  · have hS := sort_ops hB hne hr.lt h2 hT hn
    have hbo : ∃ os, sliceWorld Tryd.prog Tryd.laysGg6_ren 32 (some ⟨blk, 0, none⟩) n cap w = Sort.grow w os := by
      unfold sliceWorld
      rw [alloc_eq_grow, alloc_eq_grow, grow_grow]
      exact ⟨_, rfl⟩
    obtain ⟨os0, hos⟩ := hbo
    have hI : SortI w blk cap n d (sliceWorld Tryd.prog Tryd.laysGg6_ren 32 (some ⟨blk, 0, none⟩) n cap w) := by
      rw [hos]
      exact hS.on d w _ ⟨hr, Kept.refl w _, hd⟩ (grow_is_below w os0)
    have hp := pdq_any hS lessS_swo (sort_breaks hn _) (sort_revs hn _) (n + 1) 0 n (Lib.bitLen n) d _ (by omega) hI (Nat.zero_le _) (by omega) (by
      have : Lib.bitLen n ≤ 1000 := by
        have h1 : bitsLen n ≤ 20 := (bitsLen_le_iff n 20).2 (by omega)
        rw [bitLen_eq n (by omega)]
        omega
      exact this) (.inl rfl)
    have hc := Any.sort_Slice_of_pdq Tryd.laysGg6 32 9 ssT ssE (by kernel_rfl) (by kernel_rfl) (by kernel_rfl) (by kernel_rfl) 24 (fun _ => by kernel_rfl) (some ⟨blk, 0, none⟩) n cap (by omega) 65 (by rw [ssK n hn2]; kernel_rfl)
      (.func 39) #[] #[.pointer (some ⟨Bs, 0, none⟩)] w (fun w' => ∃ d' : Array ByteArray, PermIn 0 d.size d d' ∧ SortedIn lessS 0 d.size d' ∧ RowIs w' blk cap d' ∧ Kept w w' (fun i => i = blk)) (by
        have hsb : sliceBound Tryd.prog 9 ssE 24 (some ⟨blk, 0, none⟩) n cap = #[.slice (some ⟨blk, 0, none⟩) n cap, typeHandle Tryd.prog 9] := by
          unfold sliceBound
          rw [if_neg (swapperK_gt _ _ _ hn2)]
        rw [hsb]
        change Calls Tryd.prog 55 _ _ _
        refine hp.mono ?_
        rintro e w' ⟨rfl, hi, _⟩
        obtain ⟨p1, p2⟩ := pdq_sorts lessS lessS_swo d 0 n (Lib.bitLen n) true true (Nat.zero_le _) (by omega) (.inl rfl)
        exact ⟨rfl, _, by rw [hd]; exact p1, by rw [hd]; exact p2, hi.1, hi.2.1⟩)
    change Calls Tryd.prog 38 _ w _ at hc
    exact hc
  · have hc : Calls Tryd.prog 38 #[.iface 32 (.slice (some ⟨blk, 0, none⟩) n cap), .func (.func 39) #[] #[.pointer (some ⟨Bs, 0, none⟩)]] w fun e w' => e = .returned (.tuple #[]) ∧ ∃ os, w' = Sort.grow w os := by
      rcases (by omega : n = 0 ∨ n = 1) with h | h
      · rw [h]
        exact Any.sort_Slice_tiny Tryd.laysGg6 32 9 ssT ssE (by kernel_rfl) (by kernel_rfl) (by kernel_rfl) (by kernel_rfl) 24 (fun _ => by kernel_rfl) (some ⟨blk, 0, none⟩) 0 cap (by omega) 62 (by kernel_rfl) (.func 39) #[] #[.pointer (some ⟨Bs, 0, none⟩)] w
      · rw [h]
        exact Any.sort_Slice_tiny Tryd.laysGg6 32 9 ssT ssE (by kernel_rfl) (by kernel_rfl) (by kernel_rfl) (by kernel_rfl) 24 (fun _ => by kernel_rfl) (some ⟨blk, 0, none⟩) 1 cap (by omega) 63 (by kernel_rfl) (.func 39) #[] #[.pointer (some ⟨Bs, 0, none⟩)] w
    refine hc.mono ?_
    rintro e w' ⟨rfl, os, rfl⟩
    have hb := grow_is_below w os
    refine ⟨rfl, d, ⟨rfl, fun i _ => rfl, List.Perm.refl _⟩, fun i j _ hij hj => by omega, hr.same (hb.block blk hr.lt), Kept.of_below hb⟩
end
end Go.Proofs.YtjocfkkcnkpjdaaDoor
