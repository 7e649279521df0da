/- The library's sort.Slice with a 'less' that may make memory: its partitions. -/
import Derived.Test.YtjocfkkcnkpjdaaDoorSortPartA
import Derived.Sort.WalkC4
import Derived.Deep.CutBlock
namespace Go.Proofs.YtjocfkkcnkpjdaaDoor
open Go.RowKit Go.Sort
set_option linter.unusedVariables false

section
variable {α : Type} [Inhabited α] {lt : α → α → Bool} {g : Nat} {lb : Array Value} {sf : Nat} {sb : Array Value} {blk b0 B : Nat} {I : Array α → World → Prop} {W w' : World}
set_option maxHeartbeats 16000000 in
set_option maxRecDepth 100000 in
theorem partitionEqual_any (S : SortOps lt g lb sf sb blk b0 I) (d : Array α) (w : World) (h : I d w) (a b p : Nat) (hap : a ≤ p) (hpb : p < b) (hb : b ≤ d.size) :
    Calls Tryd.prog 79 #[lessSwap g lb sf sb, .int .i64 (a : Int), .int .i64 (b : Int), .int .i64 (p : Int)] w (EqEnds I blk (Sort.partitionEqual lt d a b p) w) := by
  have hd := (S.row d w h).2
  have eg := S.enters
  obtain ⟨N, hN⟩ : ∃ N, d.size = N := ⟨_, rfl⟩
  rw [hN] at hb hd
  obtain ⟨k, hk⟩ : ∃ k, k = w.heap.size := ⟨_, rfl⟩
  obtain ⟨w1, hw1⟩ : ∃ x, x = w.alloc (.cells #[.func (.func g) #[] lb, .func (.func sf) #[] sb] 89) := ⟨_, rfl⟩
  have HB1 : Hid (SBox w1 k g lb sf sb blk) := by show SBox _ _ _ _ _ _ _; rw [hw1, hk]; exact ⟨heap_alloc_new w _, by have := (S.row d w h).1; omega⟩
  have HI1 : Hid (I d w1) := by show I _ _; rw [hw1]; exact S.on d w _ h ((Below.refl _ w).alloc (Nat.le_refl _) _)
  have HG1 : Hid (w.grownBy w1 (some blk)) := by show World.grownBy _ _ _; rw [hw1]; exact grow_alloc (grow_refl w _) _
  have HDN := Lib.hid hN
  obtain ⟨d0, hd0⟩ : ∃ x, x = swp d a p := ⟨_, rfl⟩
  have HD0 := Lib.hid hd0
  have HDN0 : Hid (d0.size = N) := by show _ = _; rw [hd0, size_swp]; exact hN
  obtain ⟨i0, hi0⟩ : ∃ x, x = a + 1 := ⟨_, rfl⟩
  obtain ⟨j0, hj0⟩ : ∃ x, x = b - 1 := ⟨_, rfl⟩
  have hi0I : (a : Int) + 1 = (i0 : Int) := by omega
  have hj0I : (b : Int) - 1 = (j0 : Int) := by omega
  have hij0 : i0 ≤ j0 + 1 := by omega
  have hj0N : j0 < N := by omega
  have hai0 : a < i0 := by omega
  have HIE := Lib.hid hi0
  have HJE := Lib.hid hj0
  have HW1 := Lib.hid hw1
  have HK := Lib.hid hk
  clear h hN hd0 hi0 hj0 hw1 hk
  unfold lessSwap
  go_enter Tryd.func79, Tryd.ntmps79
  go_upto_region 1 with fail
  rw [← HW1.out, ← HK.out]
  have HBs := HB1.out
  obtain ⟨w2, hrun2, hi2, hg2⟩ := S.swap d w1 (a) (p) HI1.out (by rw [HDN.out]; omega) (by rw [HDN.out]; omega)
  have HI2 := Lib.hid hi2
  have HG2 := Lib.hid (grow_trans HG1.out hg2)
  have HB2 := Lib.hid (HBs.grown hg2)
  have cs1 := HBs.c1
  clear hi2 hg2 HBs
  rw [← HD0.out] at HI2
  clear HDN HI1 HG1 HB1
  have HDN := HDN0
  clear HDN0
  have HP : Hid (Sort.partitionEqual lt d a b p = partEqLoop lt a i0 j0 d0) := by show _ = _; unfold Sort.partitionEqual; rw [HIE.out, HJE.out, HD0.out]
  go_upto_block 0 with fail
  go_wp2_with fail
  clear hrun2 cs1 hi0I hj0I
  go_loopw [9, 10] (fun v10 v11 wr => ∃ (x y : Nat) (dk : Array α), v10 = .int .i64 (x : Int) ∧ v11 = .int .i64 (y : Int) ∧ a < x ∧ x ≤ y + 1 ∧ y < N ∧ Hid (dk.size = N) ∧ Hid (I dk wr) ∧ Hid (w.grownBy wr (some blk)) ∧ Hid (SBox wr k g lb sf sb blk) ∧ Hid (partEqLoop lt a x y dk = partEqLoop lt a i0 j0 d0)) (fun v10 v11 _ => (intOf v11 + 1 - intOf v10).toNat)
  case atStart => exact ⟨i0, j0, d0, rfl, rfl, hai0, hij0, hj0N, HDN.out, HI2.out, HG2.out, HB2.out, rfl⟩
  case round =>
    clear HI2 HG2 HB2 HDN
    obtain ⟨x, y, dk, rfl, rfl, hxa, hxy2, hyN2, HDN, HI6, HG6, HB6, HO⟩ := hrel
    obtain ⟨i3, hi3⟩ : ∃ i, i = scanUp (fun x => !lt dk[a]! x) dk y x := ⟨_, rfl⟩
    have Hi3 := Lib.hid hi3
    obtain ⟨j3, hj3⟩ : ∃ j, j = scanDown (fun x => lt dk[a]! x) dk i3 y := ⟨_, rfl⟩
    have Hj3 := Lib.hid hj3
    clear hi3 hj3
    obtain ⟨w6, hw6⟩ : ∃ z : World, z = wr := ⟨_, rfl⟩
    subst hw6
    go_upto_block 2 with fail
    go_cut [9] from 20 to 31 (fun s wx => s = .int .i64 (i3 : Int) ∧ (x ≤ i3 ∧ i3 ≤ y + 1) ∧ Hid (I dk wx) ∧ Hid (w.grownBy wx (some blk)) ∧ Hid (SBox wx k g lb sf sb blk))
    case first =>
      go_wp2_with fail
      go_loopw [9] (fun v wr => ∃ z9 : Nat, v = .int .i64 (z9 : Int) ∧ (x ≤ z9 ∧ z9 ≤ y + 1 ∧ Hid (scanUp (fun x => !lt dk[a]! x) dk y z9 = i3)) ∧ Hid (I dk wr) ∧ Hid (w.grownBy wr (some blk)) ∧ Hid (SBox wr k g lb sf sb blk)) (fun v _ => y + 1 - (intOf v).toNat)
      case atStart => exact ⟨x, rfl, ⟨Nat.le_refl _, by omega, Hi3.out.symm⟩, HI6.out, HG6.out, HB6.out⟩
      case round =>
        obtain ⟨xu, rfl, ⟨hx0, hx1, HSx⟩, HIx, HGx, HBx⟩ := hrel
        obtain ⟨wa, hwa⟩ : ∃ y : World, y = wr := ⟨_, rfl⟩
        subst hwa
        have c0 := HBx.out.c0
        by_cases hxj : (xu : Nat) ≤ y
        · have hd : decide ((xu : Int) ≤ (y : Int)) = true := decide_eq_true (by omega)
          obtain ⟨q, hq⟩ : ∃ q, lt dk[a]! dk[xu]! = q := ⟨_, rfl⟩
          have hl13 := S.less dk wa (a) (xu) HIx.out (by rw [HDN.out]; omega) (by rw [HDN.out]; omega)
          rw [hq] at hl13
          have HL13 := Lib.hid hl13
          clear hl13
          cases q
          · skip
            have hgo := scanUp_go (fun x => !lt dk[a]! x) dk y xu hxj (by simp [hq])
            rw [HSx.out] at hgo
            have HGO := Lib.hid hgo
            clear hgo hq
            go_wp2_with fail
            refine HL13.out.mono ?_
            rintro e wb ⟨rfl, hb15⟩
            have HE15 := Lib.hid hb15
            clear hb15
            go_wp2
            go_roundw
            case rel => exact ⟨xu + 1, by go_num, ⟨by omega, by omega, HGO.out.symm⟩, S.on dk wa wb HIx.out HE15.out, grow_below HGx.out HE15.out, HBx.out.on HE15.out⟩
            case measure => first | (simp [intOf]; done) | (simp [intOf]; omega)
          · skip
            have hst := scanUp_end (fun x => !lt dk[a]! x) dk y xu (.inr (by simp [hq]))
            rw [HSx.out] at hst
            have HST : Hid (xu = i3) := hst.symm
            clear hst hq
            go_wp2_with fail
            refine HL13.out.mono ?_
            rintro e wb ⟨rfl, hb14⟩
            have HE14 := Lib.hid hb14
            clear hb14
            go_wp2
            go_meet
            case rel =>
              have hx3 : xu = i3 := HST.out
              exact ⟨by rw [hx3], ⟨by omega, by omega⟩, S.on dk wa wb HIx.out HE14.out, grow_below HGx.out HE14.out, HBx.out.on HE14.out⟩
        · skip
          have hd : decide ((xu : Int) ≤ (y : Int)) = false := decide_eq_false (by omega)
          have hst := scanUp_end (fun x => !lt dk[a]! x) dk y xu (.inl hxj)
          rw [HSx.out] at hst
          have HST : Hid (xu = i3) := hst.symm
          clear hst
          go_wp2
          go_meet
          case rel =>
            have hx3 : xu = i3 := HST.out
            exact ⟨by rw [hx3], ⟨by omega, by omega⟩, HIx.out, HGx.out, HBx.out⟩
    case rest =>
      obtain ⟨rfl, ⟨hi3a, hi3b⟩, HI7, HG7, HB7⟩ := hcut
      go_upto_block 4 with fail
      go_cut [10] from 33 to 43 (fun s wx => s = .int .i64 (j3 : Int) ∧ (j3 ≤ y ∧ i3 ≤ j3 + 1) ∧ Hid (I dk wx) ∧ Hid (w.grownBy wx (some blk)) ∧ Hid (SBox wx k g lb sf sb blk))
      case first =>
        go_wp2_with fail
        go_loopw [10] (fun v wr => ∃ z9 : Nat, v = .int .i64 (z9 : Int) ∧ (z9 ≤ y ∧ i3 ≤ z9 + 1 ∧ Hid (scanDown (fun x => lt dk[a]! x) dk i3 z9 = j3)) ∧ Hid (I dk wr) ∧ Hid (w.grownBy wr (some blk)) ∧ Hid (SBox wr k g lb sf sb blk)) (fun v _ => (intOf v).toNat)
        case atStart => exact ⟨y, rfl, ⟨Nat.le_refl _, by omega, Hj3.out.symm⟩, HI7.out, HG7.out, HB7.out⟩
        case round =>
          obtain ⟨xv, rfl, ⟨hx0, hx1, HSx⟩, HIx, HGx, HBx⟩ := hrel
          obtain ⟨wa, hwa⟩ : ∃ y : World, y = wr := ⟨_, rfl⟩
          subst hwa
          have c0 := HBx.out.c0
          by_cases hxj : (i3 : Nat) ≤ xv
          · have hd : decide ((i3 : Int) ≤ (xv : Int)) = true := decide_eq_true (by omega)
            obtain ⟨q, hq⟩ : ∃ q, lt dk[a]! dk[xv]! = q := ⟨_, rfl⟩
            have hl16 := S.less dk wa (a) (xv) HIx.out (by rw [HDN.out]; omega) (by rw [HDN.out]; omega)
            rw [hq] at hl16
            have HL16 := Lib.hid hl16
            clear hl16
            cases q
            · skip
              have hst := scanDown_end (fun x => lt dk[a]! x) dk i3 xv (.inr (by simp [hq]))
              rw [HSx.out] at hst
              have HST : Hid (xv = j3) := hst.symm
              clear hst hq
              go_wp2_with fail
              refine HL16.out.mono ?_
              rintro e wb ⟨rfl, hb17⟩
              have HE17 := Lib.hid hb17
              clear hb17
              go_wp2
              go_meet
              case rel =>
                have hx3 : xv = j3 := HST.out
                exact ⟨by rw [hx3], ⟨by omega, by omega⟩, S.on dk wa wb HIx.out HE17.out, grow_below HGx.out HE17.out, HBx.out.on HE17.out⟩
            · skip
              have hgo := scanDown_go (fun x => lt dk[a]! x) dk i3 xv hxj (by omega) (by simp [hq])
              rw [HSx.out] at hgo
              have HGO := Lib.hid hgo
              clear hgo hq
              go_wp2_with fail
              refine HL16.out.mono ?_
              rintro e wb ⟨rfl, hb18⟩
              have HE18 := Lib.hid hb18
              clear hb18
              go_wp2
              go_roundw
              case rel => exact ⟨xv - 1, by go_num, ⟨by omega, by omega, HGO.out.symm⟩, S.on dk wa wb HIx.out HE18.out, grow_below HGx.out HE18.out, HBx.out.on HE18.out⟩
              case measure => first | (simp [intOf]; done) | (simp [intOf]; omega)
          · skip
            have hd : decide ((i3 : Int) ≤ (xv : Int)) = false := decide_eq_false (by omega)
            have hst := scanDown_end (fun x => lt dk[a]! x) dk i3 xv (.inl hxj)
            rw [HSx.out] at hst
            have HST : Hid (xv = j3) := hst.symm
            clear hst
            go_wp2
            go_meet
            case rel =>
              have hx3 : xv = j3 := HST.out
              exact ⟨by rw [hx3], ⟨by omega, by omega⟩, HIx.out, HGx.out, HBx.out⟩
      case rest =>
        obtain ⟨rfl, ⟨hj3a, hj3b⟩, HI8, HG8, HB8⟩ := hcut
        clear HI6 HG6 HB6 HI7 HG7 HB7
        by_cases hlt3 : j3 < i3
        · have hdl : decide ((j3 : Int) < (i3 : Int)) = true := decide_eq_true (by omega)
          have HPB := Lib.hid (partEq_break lt a x y dk Hi3.out Hj3.out hlt3)
          go_wp2
          go_ret
          refine eq_ends (d' := dk) ?_ HI8.out HG8.out
          rw [HP.out, ← HO.out, HPB.out]
        · have hdl : decide ((j3 : Int) < (i3 : Int)) = false := decide_eq_false (by omega)
          have hlt4 := scans_lt lt a x y dk (by omega) Hi3.out Hj3.out (by omega)
          have HPG := Lib.hid (partEq_go lt a x y dk Hi3.out Hj3.out (by omega))
          have HBs := HB8.out
          obtain ⟨w9, hrun9, hi9, hg9⟩ := S.swap dk _ (i3) (j3) HI8.out (by rw [HDN.out]; omega) (by rw [HDN.out]; omega)
          have HI9 := Lib.hid hi9
          have HG9 := Lib.hid (grow_trans HG8.out hg9)
          have HB9 := Lib.hid (HBs.grown hg9)
          have cs1 := HBs.c1
          clear hi9 hg9 HBs
          go_wp2
          go_roundw
          case rel => exact ⟨i3 + 1, j3 - 1, swp dk i3 j3, by go_num, by go_num, by omega, by omega, by omega, by show _ = _; rw [size_swp]; exact HDN.out, HI9.out, HG9.out, HB9.out, by show _ = _; rw [← HPG.out]; exact HO.out⟩
          case measure => first | (simp [intOf]; done) | (simp [intOf]; omega)
end
end Go.Proofs.YtjocfkkcnkpjdaaDoor
