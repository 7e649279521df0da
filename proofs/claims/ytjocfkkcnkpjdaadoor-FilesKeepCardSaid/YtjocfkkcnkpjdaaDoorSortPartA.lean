/- The library's sort.Slice with a 'less' that may make memory: its partitions. -/
import Derived.Test.YtjocfkkcnkpjdaaDoorSortOps
import Derived.Sort.WalkC4
import Derived.Deep.CutBlock
namespace Go.Proofs.YtjocfkkcnkpjdaaDoor
open Go.RowKit Go.Sort
set_option linter.unusedVariables false

section
variable {α : Type} [Inhabited α] {lt : α → α → Bool} {g : Nat} {lb : Array Value} {sf : Nat} {sb : Array Value} {blk b0 B : Nat} {I : Array α → World → Prop} {W w' : World}
def PartEnds (I : Array α → World → Prop) (blk : Nat) (r : Nat × Bool × Array α) (W : World) (e : Ending) (w' : World) : Prop := e = .returned (.tuple #[.int .i64 (r.1 : Int), .bool r.2.1]) ∧ I r.2.2 w' ∧ W.grownBy w' (some blk)
omit [Inhabited α] in
theorem part_ends {r : Nat × Bool × Array α} {m : Nat} {q : Bool} {d' : Array α} {w w1 : World} (hr : r = (m, q, d')) (hi : I d' w1) (hg : w.grownBy w1 (some blk)) : PartEnds I blk r w (.returned (.tuple #[.int .i64 (m : Int), .bool q])) w1 := by
  subst hr
  exact ⟨rfl, hi, hg⟩
def EqEnds (I : Array α → World → Prop) (blk : Nat) (r : Nat × Array α) (W : World) (e : Ending) (w' : World) : Prop := e = .returned (.int .i64 (r.1 : Int)) ∧ I r.2 w' ∧ W.grownBy w' (some blk)
omit [Inhabited α] in
theorem eq_ends {r : Nat × Array α} {m : Nat} {d' : Array α} {w w1 : World} (hr : r = (m, d')) (hi : I d' w1) (hg : w.grownBy w1 (some blk)) : EqEnds I blk r w (.returned (.int .i64 (m : Int))) w1 := by
  subst hr
  exact ⟨rfl, hi, hg⟩
set_option maxHeartbeats 16000000 in
set_option maxRecDepth 100000 in
theorem partition_any (S : SortOps lt g lb sf sb blk b0 I) (d : Array α) (w : World) (h : I d w) (a b p : Nat) (hap : a ≤ p) (hpb : p < b) (hb : b ≤ d.size) :
    Calls Tryd.prog 80 #[lessSwap g lb sf sb, .int .i64 (a : Int), .int .i64 (b : Int), .int .i64 (p : Int)] w (PartEnds I blk (Sort.partition lt d a b p) w) := by
  have hd := (S.row d w h).2
  have eg := S.enters
  obtain ⟨N, hN⟩ : ∃ N, d.size = N := ⟨_, rfl⟩
  rw [hN] at hb hd
  obtain ⟨k, hk⟩ : ∃ k, k = w.heap.size := ⟨_, rfl⟩
  obtain ⟨w1, hw1⟩ : ∃ x, x = w.alloc (.cells #[.func (.func g) #[] lb, .func (.func sf) #[] sb] 89) := ⟨_, rfl⟩
  have HB1 : Hid (SBox w1 k g lb sf sb blk) := by show SBox _ _ _ _ _ _ _; rw [hw1, hk]; exact ⟨heap_alloc_new w _, by have := (S.row d w h).1; omega⟩
  have HI1 : Hid (I d w1) := by show I _ _; rw [hw1]; exact S.on d w _ h ((Below.refl _ w).alloc (Nat.le_refl _) _)
  have HG1 : Hid (w.grownBy w1 (some blk)) := by show World.grownBy _ _ _; rw [hw1]; exact grow_alloc (grow_refl w _) _
  have HDN := Lib.hid hN
  obtain ⟨d0, hd0⟩ : ∃ x, x = swp d a p := ⟨_, rfl⟩
  have HD0 := Lib.hid hd0
  have HDN0 : Hid (d0.size = N) := by show _ = _; rw [hd0, size_swp]; exact hN
  obtain ⟨i0, hi0⟩ : ∃ x, x = a + 1 := ⟨_, rfl⟩
  obtain ⟨j0, hj0⟩ : ∃ x, x = b - 1 := ⟨_, rfl⟩
  have hi0I : (a : Int) + 1 = (i0 : Int) := by omega
  have hj0I : (b : Int) - 1 = (j0 : Int) := by omega
  have hij0 : i0 ≤ j0 + 1 := by omega
  have hj0N : j0 < N := by omega
  have hai0 : a < i0 := by omega
  have HIE := Lib.hid hi0
  have HJE := Lib.hid hj0
  have HW1 := Lib.hid hw1
  have HK := Lib.hid hk
  clear h hN hd0 hi0 hj0 hw1 hk
  unfold lessSwap
  go_enter Tryd.func80, Tryd.ntmps80
  go_upto_region 1 with fail
  rw [← HW1.out, ← HK.out]
  have HBs := HB1.out
  obtain ⟨w2, hrun2, hi2, hg2⟩ := S.swap d w1 (a) (p) HI1.out (by rw [HDN.out]; omega) (by rw [HDN.out]; omega)
  have HI2 := Lib.hid hi2
  have HG2 := Lib.hid (grow_trans HG1.out hg2)
  have HB2 := Lib.hid (HBs.grown hg2)
  have cs1 := HBs.c1
  clear hi2 hg2 HBs
  rw [← HD0.out] at HI2
  clear HDN HI1 HG1 HB1
  have HDN := HDN0
  clear HDN0
  obtain ⟨i2, hi2⟩ : ∃ i, i = scanUp (fun x => lt x d0[a]!) d0 j0 i0 := ⟨_, rfl⟩
  have Hi2 := Lib.hid hi2
  obtain ⟨j2, hj2⟩ : ∃ j, j = scanDown (fun x => !lt x d0[a]!) d0 i2 j0 := ⟨_, rfl⟩
  have Hj2 := Lib.hid hj2
  clear hi2 hj2
  go_upto_block 0 with fail
  go_cut [10] from 21 to 32 (fun s wx => s = .int .i64 (i2 : Int) ∧ (i0 ≤ i2 ∧ i2 ≤ j0 + 1) ∧ Hid (I d0 wx) ∧ Hid (w.grownBy wx (some blk)) ∧ Hid (SBox wx k g lb sf sb blk))
  case first =>
    go_wp2_with fail
    go_loopw [10] (fun v wr => ∃ z9 : Nat, v = .int .i64 (z9 : Int) ∧ (i0 ≤ z9 ∧ z9 ≤ j0 + 1 ∧ Hid (scanUp (fun x => lt x d0[a]!) d0 j0 z9 = i2)) ∧ Hid (I d0 wr) ∧ Hid (w.grownBy wr (some blk)) ∧ Hid (SBox wr k g lb sf sb blk)) (fun v _ => j0 + 1 - (intOf v).toNat)
    case atStart => exact ⟨i0, rfl, ⟨Nat.le_refl _, by omega, Hi2.out.symm⟩, HI2.out, HG2.out, HB2.out⟩
    case round =>
      obtain ⟨xu, rfl, ⟨hx0, hx1, HSx⟩, HIx, HGx, HBx⟩ := hrel
      obtain ⟨wa, hwa⟩ : ∃ y : World, y = wr := ⟨_, rfl⟩
      subst hwa
      have c0 := HBx.out.c0
      by_cases hxj : (xu : Nat) ≤ j0
      · have hd : decide ((xu : Int) ≤ (j0 : Int)) = true := decide_eq_true (by omega)
        obtain ⟨q, hq⟩ : ∃ q, lt d0[xu]! d0[a]! = q := ⟨_, rfl⟩
        have hl1 := S.less d0 wa (xu) (a) HIx.out (by rw [HDN.out]; omega) (by rw [HDN.out]; omega)
        rw [hq] at hl1
        have HL1 := Lib.hid hl1
        clear hl1
        cases q
        · skip
          have hst := scanUp_end (fun x => lt x d0[a]!) d0 j0 xu (.inr (by simp [hq]))
          rw [HSx.out] at hst
          have HST : Hid (xu = i2) := hst.symm
          clear hst hq
          go_wp2_with fail
          refine HL1.out.mono ?_
          rintro e wb ⟨rfl, hb2⟩
          have HE2 := Lib.hid hb2
          clear hb2
          go_wp2
          go_meet
          case rel =>
            have hx3 : xu = i2 := HST.out
            exact ⟨by rw [hx3], ⟨by omega, by omega⟩, S.on d0 wa wb HIx.out HE2.out, grow_below HGx.out HE2.out, HBx.out.on HE2.out⟩
        · skip
          have hgo := scanUp_go (fun x => lt x d0[a]!) d0 j0 xu hxj (by simp [hq])
          rw [HSx.out] at hgo
          have HGO := Lib.hid hgo
          clear hgo hq
          go_wp2_with fail
          refine HL1.out.mono ?_
          rintro e wb ⟨rfl, hb3⟩
          have HE3 := Lib.hid hb3
          clear hb3
          go_wp2
          go_roundw
          case rel => exact ⟨xu + 1, by go_num, ⟨by omega, by omega, HGO.out.symm⟩, S.on d0 wa wb HIx.out HE3.out, grow_below HGx.out HE3.out, HBx.out.on HE3.out⟩
          case measure => first | (simp [intOf]; done) | (simp [intOf]; omega)
      · skip
        have hd : decide ((xu : Int) ≤ (j0 : Int)) = false := decide_eq_false (by omega)
        have hst := scanUp_end (fun x => lt x d0[a]!) d0 j0 xu (.inl hxj)
        rw [HSx.out] at hst
        have HST : Hid (xu = i2) := hst.symm
        clear hst
        go_wp2
        go_meet
        case rel =>
          have hx3 : xu = i2 := HST.out
          exact ⟨by rw [hx3], ⟨by omega, by omega⟩, HIx.out, HGx.out, HBx.out⟩
  case rest =>
    obtain ⟨rfl, ⟨hi2a, hi2b⟩, HI3, HG3, HB3⟩ := hcut
    go_upto_block 2 with fail
    go_cut [11] from 33 to 45 (fun s wx => s = .int .i64 (j2 : Int) ∧ (j2 ≤ j0 ∧ i2 ≤ j2 + 1) ∧ Hid (I d0 wx) ∧ Hid (w.grownBy wx (some blk)) ∧ Hid (SBox wx k g lb sf sb blk))
    case first =>
      go_wp2_with fail
      go_loopw [11] (fun v wr => ∃ z9 : Nat, v = .int .i64 (z9 : Int) ∧ (z9 ≤ j0 ∧ i2 ≤ z9 + 1 ∧ Hid (scanDown (fun x => !lt x d0[a]!) d0 i2 z9 = j2)) ∧ Hid (I d0 wr) ∧ Hid (w.grownBy wr (some blk)) ∧ Hid (SBox wr k g lb sf sb blk)) (fun v _ => (intOf v).toNat)
      case atStart => exact ⟨j0, rfl, ⟨Nat.le_refl _, by omega, Hj2.out.symm⟩, HI3.out, HG3.out, HB3.out⟩
      case round =>
        obtain ⟨xv, rfl, ⟨hx0, hx1, HSx⟩, HIx, HGx, HBx⟩ := hrel
        obtain ⟨wa, hwa⟩ : ∃ y : World, y = wr := ⟨_, rfl⟩
        subst hwa
        have c0 := HBx.out.c0
        by_cases hxj : (i2 : Nat) ≤ xv
        · have hd : decide ((i2 : Int) ≤ (xv : Int)) = true := decide_eq_true (by omega)
          obtain ⟨q, hq⟩ : ∃ q, lt d0[xv]! d0[a]! = q := ⟨_, rfl⟩
          have hl4 := S.less d0 wa (xv) (a) HIx.out (by rw [HDN.out]; omega) (by rw [HDN.out]; omega)
          rw [hq] at hl4
          have HL4 := Lib.hid hl4
          clear hl4
          cases q
          · skip
            have hgo := scanDown_go (fun x => !lt x d0[a]!) d0 i2 xv hxj (by omega) (by simp [hq])
            rw [HSx.out] at hgo
            have HGO := Lib.hid hgo
            clear hgo hq
            go_wp2_with fail
            refine HL4.out.mono ?_
            rintro e wb ⟨rfl, hb6⟩
            have HE6 := Lib.hid hb6
            clear hb6
            go_wp2
            go_roundw
            case rel => exact ⟨xv - 1, by go_num, ⟨by omega, by omega, HGO.out.symm⟩, S.on d0 wa wb HIx.out HE6.out, grow_below HGx.out HE6.out, HBx.out.on HE6.out⟩
            case measure => first | (simp [intOf]; done) | (simp [intOf]; omega)
          · skip
            have hst := scanDown_end (fun x => !lt x d0[a]!) d0 i2 xv (.inr (by simp [hq]))
            rw [HSx.out] at hst
            have HST : Hid (xv = j2) := hst.symm
            clear hst hq
            go_wp2_with fail
            refine HL4.out.mono ?_
            rintro e wb ⟨rfl, hb5⟩
            have HE5 := Lib.hid hb5
            clear hb5
            go_wp2
            go_meet
            case rel =>
              have hx3 : xv = j2 := HST.out
              exact ⟨by rw [hx3], ⟨by omega, by omega⟩, S.on d0 wa wb HIx.out HE5.out, grow_below HGx.out HE5.out, HBx.out.on HE5.out⟩
        · skip
          have hd : decide ((i2 : Int) ≤ (xv : Int)) = false := decide_eq_false (by omega)
          have hst := scanDown_end (fun x => !lt x d0[a]!) d0 i2 xv (.inl hxj)
          rw [HSx.out] at hst
          have HST : Hid (xv = j2) := hst.symm
          clear hst
          go_wp2
          go_meet
          case rel =>
            have hx3 : xv = j2 := HST.out
            exact ⟨by rw [hx3], ⟨by omega, by omega⟩, HIx.out, HGx.out, HBx.out⟩
    case rest =>
      obtain ⟨rfl, ⟨hj2a, hj2b⟩, HI4, HG4, HB4⟩ := hcut
      clear HI2 HG2 HB2 HI3 HG3 HB3 hrun2 cs1
      by_cases hlt : j2 < i2
      · have hdl : decide ((j2 : Int) < (i2 : Int)) = true := decide_eq_true (by omega)
        have HR := Lib.hid (part_first_break lt d a b p HIE.out HJE.out HD0.out Hi2.out Hj2.out hlt)
        have HBs := HB4.out
        obtain ⟨w5, hrun5, hi5, hg5⟩ := S.swap d0 _ (j2) (a) HI4.out (by rw [HDN.out]; omega) (by rw [HDN.out]; omega)
        have HI5 := Lib.hid hi5
        have HG5 := Lib.hid (grow_trans HG4.out hg5)
        have HB5 := Lib.hid (HBs.grown hg5)
        have cs1 := HBs.c1
        clear hi5 hg5 HBs
        go_wp2
        go_ret2
        exact part_ends HR.out HI5.out HG5.out
      · have hdl : decide ((j2 : Int) < (i2 : Int)) = false := decide_eq_false (by omega)
        have hlt2 := part_scans_lt lt a i0 j0 d0 (by omega) Hi2.out Hj2.out (by omega)
        have HR := Lib.hid (part_first_go lt d a b p HIE.out HJE.out HD0.out Hi2.out Hj2.out (by omega))
        have HBs := HB4.out
        obtain ⟨w5, hrun5, hi5, hg5⟩ := S.swap d0 _ (i2) (j2) HI4.out (by rw [HDN.out]; omega) (by rw [HDN.out]; omega)
        have HI5 := Lib.hid hi5
        have HG5 := Lib.hid (grow_trans HG4.out hg5)
        have HB5 := Lib.hid (HBs.grown hg5)
        have cs1 := HBs.c1
        clear hi5 hg5 HBs
        have HDN5 : Hid ((swp d0 i2 j2).size = N) := by show _ = _; rw [size_swp]; exact HDN.out
        obtain ⟨d2, hd2⟩ : ∃ x, x = swp d0 i2 j2 := ⟨_, rfl⟩
        rw [← hd2] at HI5 HDN5 HR
        obtain ⟨x1, hx1⟩ : ∃ x, x = i2 + 1 := ⟨_, rfl⟩
        obtain ⟨y1, hy1⟩ : ∃ x, x = j2 - 1 := ⟨_, rfl⟩
        have hx1I : (i2 : Int) + 1 = (x1 : Int) := by omega
        have hy1I : (j2 : Int) - 1 = (y1 : Int) := by omega
        rw [← hx1, ← hy1] at HR
        have hxy : x1 ≤ y1 + 1 := by omega
        have hyN : y1 < N := by omega
        have hax : a < x1 := by omega
        clear hd2 hx1 hy1 HDN HI4 HG4 HB4
        go_upto_block 4 with fail
        go_wp2_with fail
        clear hrun5 cs1 hx1I hy1I
        go_loopw [10, 11] (fun v10 v11 wr => ∃ (x y : Nat) (dk : Array α), v10 = .int .i64 (x : Int) ∧ v11 = .int .i64 (y : Int) ∧ a < x ∧ x ≤ y + 1 ∧ y < N ∧ Hid (dk.size = N) ∧ Hid (I dk wr) ∧ Hid (w.grownBy wr (some blk)) ∧ Hid (SBox wr k g lb sf sb blk) ∧ Hid (partLoop lt a x y dk = partLoop lt a x1 y1 d2)) (fun v10 v11 _ => (intOf v11 + 1 - intOf v10).toNat)
        case atStart => exact ⟨x1, y1, d2, rfl, rfl, hax, hxy, hyN, HDN5.out, HI5.out, HG5.out, HB5.out, rfl⟩
        case round =>
          obtain ⟨x, y, dk, rfl, rfl, hxa, hxy2, hyN2, HDN, HI6, HG6, HB6, HO⟩ := hrel
          clear HI5 HG5 HB5 HDN5
          obtain ⟨i3, hi3⟩ : ∃ i, i = scanUp (fun x => lt x dk[a]!) dk y x := ⟨_, rfl⟩
          have Hi3 := Lib.hid hi3
          obtain ⟨j3, hj3⟩ : ∃ j, j = scanDown (fun x => !lt x dk[a]!) dk i3 y := ⟨_, rfl⟩
          have Hj3 := Lib.hid hj3
          clear hi3 hj3
          obtain ⟨w6, hw6⟩ : ∃ z : World, z = wr := ⟨_, rfl⟩
          subst hw6
          go_upto_block 6 with fail
          go_cut [10] from 64 to 75 (fun s wx => s = .int .i64 (i3 : Int) ∧ (x ≤ i3 ∧ i3 ≤ y + 1) ∧ Hid (I dk wx) ∧ Hid (w.grownBy wx (some blk)) ∧ Hid (SBox wx k g lb sf sb blk))
          case first =>
            go_wp2_with fail
            go_loopw [10] (fun v wr => ∃ z9 : Nat, v = .int .i64 (z9 : Int) ∧ (x ≤ z9 ∧ z9 ≤ y + 1 ∧ Hid (scanUp (fun x => lt x dk[a]!) dk y z9 = i3)) ∧ Hid (I dk wr) ∧ Hid (w.grownBy wr (some blk)) ∧ Hid (SBox wr k g lb sf sb blk)) (fun v _ => y + 1 - (intOf v).toNat)
            case atStart => exact ⟨x, rfl, ⟨Nat.le_refl _, by omega, Hi3.out.symm⟩, HI6.out, HG6.out, HB6.out⟩
            case round =>
              obtain ⟨xu, rfl, ⟨hx0, hx1, HSx⟩, HIx, HGx, HBx⟩ := hrel
              obtain ⟨wa, hwa⟩ : ∃ y : World, y = wr := ⟨_, rfl⟩
              subst hwa
              have c0 := HBx.out.c0
              by_cases hxj : (xu : Nat) ≤ y
              · have hd : decide ((xu : Int) ≤ (y : Int)) = true := decide_eq_true (by omega)
                obtain ⟨q, hq⟩ : ∃ q, lt dk[xu]! dk[a]! = q := ⟨_, rfl⟩
                have hl7 := S.less dk wa (xu) (a) HIx.out (by rw [HDN.out]; omega) (by rw [HDN.out]; omega)
                rw [hq] at hl7
                have HL7 := Lib.hid hl7
                clear hl7
                cases q
                · skip
                  have hst := scanUp_end (fun x => lt x dk[a]!) dk y xu (.inr (by simp [hq]))
                  rw [HSx.out] at hst
                  have HST : Hid (xu = i3) := hst.symm
                  clear hst hq
                  go_wp2_with fail
                  refine HL7.out.mono ?_
                  rintro e wb ⟨rfl, hb8⟩
                  have HE8 := Lib.hid hb8
                  clear hb8
                  go_wp2
                  go_meet
                  case rel =>
                    have hx3 : xu = i3 := HST.out
                    exact ⟨by rw [hx3], ⟨by omega, by omega⟩, S.on dk wa wb HIx.out HE8.out, grow_below HGx.out HE8.out, HBx.out.on HE8.out⟩
                · skip
                  have hgo := scanUp_go (fun x => lt x dk[a]!) dk y xu hxj (by simp [hq])
                  rw [HSx.out] at hgo
                  have HGO := Lib.hid hgo
                  clear hgo hq
                  go_wp2_with fail
                  refine HL7.out.mono ?_
                  rintro e wb ⟨rfl, hb9⟩
                  have HE9 := Lib.hid hb9
                  clear hb9
                  go_wp2
                  go_roundw
                  case rel => exact ⟨xu + 1, by go_num, ⟨by omega, by omega, HGO.out.symm⟩, S.on dk wa wb HIx.out HE9.out, grow_below HGx.out HE9.out, HBx.out.on HE9.out⟩
                  case measure => first | (simp [intOf]; done) | (simp [intOf]; omega)
              · skip
                have hd : decide ((xu : Int) ≤ (y : Int)) = false := decide_eq_false (by omega)
                have hst := scanUp_end (fun x => lt x dk[a]!) dk y xu (.inl hxj)
                rw [HSx.out] at hst
                have HST : Hid (xu = i3) := hst.symm
                clear hst
                go_wp2
                go_meet
                case rel =>
                  have hx3 : xu = i3 := HST.out
                  exact ⟨by rw [hx3], ⟨by omega, by omega⟩, HIx.out, HGx.out, HBx.out⟩
          case rest =>
            obtain ⟨rfl, ⟨hi3a, hi3b⟩, HI7, HG7, HB7⟩ := hcut
            go_upto_block 8 with fail
            go_cut [11] from 76 to 88 (fun s wx => s = .int .i64 (j3 : Int) ∧ (j3 ≤ y ∧ i3 ≤ j3 + 1) ∧ Hid (I dk wx) ∧ Hid (w.grownBy wx (some blk)) ∧ Hid (SBox wx k g lb sf sb blk))
            case first =>
              go_wp2_with fail
              go_loopw [11] (fun v wr => ∃ z9 : Nat, v = .int .i64 (z9 : Int) ∧ (z9 ≤ y ∧ i3 ≤ z9 + 1 ∧ Hid (scanDown (fun x => !lt x dk[a]!) dk i3 z9 = j3)) ∧ Hid (I dk wr) ∧ Hid (w.grownBy wr (some blk)) ∧ Hid (SBox wr k g lb sf sb blk)) (fun v _ => (intOf v).toNat)
              case atStart => exact ⟨y, rfl, ⟨Nat.le_refl _, by omega, Hj3.out.symm⟩, HI7.out, HG7.out, HB7.out⟩
              case round =>
                obtain ⟨xv, rfl, ⟨hx0, hx1, HSx⟩, HIx, HGx, HBx⟩ := hrel
                obtain ⟨wa, hwa⟩ : ∃ y : World, y = wr := ⟨_, rfl⟩
                subst hwa
                have c0 := HBx.out.c0
                by_cases hxj : (i3 : Nat) ≤ xv
                · have hd : decide ((i3 : Int) ≤ (xv : Int)) = true := decide_eq_true (by omega)
                  obtain ⟨q, hq⟩ : ∃ q, lt dk[xv]! dk[a]! = q := ⟨_, rfl⟩
                  have hl10 := S.less dk wa (xv) (a) HIx.out (by rw [HDN.out]; omega) (by rw [HDN.out]; omega)
                  rw [hq] at hl10
                  have HL10 := Lib.hid hl10
                  clear hl10
                  cases q
                  · skip
                    have hgo := scanDown_go (fun x => !lt x dk[a]!) dk i3 xv hxj (by omega) (by simp [hq])
                    rw [HSx.out] at hgo
                    have HGO := Lib.hid hgo
                    clear hgo hq
                    go_wp2_with fail
                    refine HL10.out.mono ?_
                    rintro e wb ⟨rfl, hb12⟩
                    have HE12 := Lib.hid hb12
                    clear hb12
                    go_wp2
                    go_roundw
                    case rel => exact ⟨xv - 1, by go_num, ⟨by omega, by omega, HGO.out.symm⟩, S.on dk wa wb HIx.out HE12.out, grow_below HGx.out HE12.out, HBx.out.on HE12.out⟩
                    case measure => first | (simp [intOf]; done) | (simp [intOf]; omega)
                  · skip
                    have hst := scanDown_end (fun x => !lt x dk[a]!) dk i3 xv (.inr (by simp [hq]))
                    rw [HSx.out] at hst
                    have HST : Hid (xv = j3) := hst.symm
                    clear hst hq
                    go_wp2_with fail
                    refine HL10.out.mono ?_
                    rintro e wb ⟨rfl, hb11⟩
                    have HE11 := Lib.hid hb11
                    clear hb11
                    go_wp2
                    go_meet
                    case rel =>
                      have hx3 : xv = j3 := HST.out
                      exact ⟨by rw [hx3], ⟨by omega, by omega⟩, S.on dk wa wb HIx.out HE11.out, grow_below HGx.out HE11.out, HBx.out.on HE11.out⟩
                · skip
                  have hd : decide ((i3 : Int) ≤ (xv : Int)) = false := decide_eq_false (by omega)
                  have hst := scanDown_end (fun x => !lt x dk[a]!) dk i3 xv (.inl hxj)
                  rw [HSx.out] at hst
                  have HST : Hid (xv = j3) := hst.symm
                  clear hst
                  go_wp2
                  go_meet
                  case rel =>
                    have hx3 : xv = j3 := HST.out
                    exact ⟨by rw [hx3], ⟨by omega, by omega⟩, HIx.out, HGx.out, HBx.out⟩
            case rest =>
              obtain ⟨rfl, ⟨hj3a, hj3b⟩, HI8, HG8, HB8⟩ := hcut
              clear HI6 HG6 HB6 HI7 HG7 HB7
              by_cases hlt3 : j3 < i3
              · have hdl : decide ((j3 : Int) < (i3 : Int)) = true := decide_eq_true (by omega)
                have HPB := Lib.hid (part_break lt a x y dk Hi3.out Hj3.out hlt3)
                have HBs := HB8.out
                obtain ⟨w9, hrun9, hi9, hg9⟩ := S.swap dk _ (j3) (a) HI8.out (by rw [HDN.out]; omega) (by rw [HDN.out]; omega)
                have HI9 := Lib.hid hi9
                have HG9 := Lib.hid (grow_trans HG8.out hg9)
                have HB9 := Lib.hid (HBs.grown hg9)
                have cs1 := HBs.c1
                clear hi9 hg9 HBs
                go_wp2
                go_ret2
                refine part_ends (d' := swp dk j3 a) ?_ HI9.out HG9.out
                rw [HR.out, ← HO.out, HPB.out]
              · have hdl : decide ((j3 : Int) < (i3 : Int)) = false := decide_eq_false (by omega)
                have hlt4 := part_scans_lt lt a x y dk (by omega) Hi3.out Hj3.out (by omega)
                have HPG := Lib.hid (part_go lt a x y dk Hi3.out Hj3.out (by omega))
                have HBs := HB8.out
                obtain ⟨w9, hrun9, hi9, hg9⟩ := S.swap dk _ (i3) (j3) HI8.out (by rw [HDN.out]; omega) (by rw [HDN.out]; omega)
                have HI9 := Lib.hid hi9
                have HG9 := Lib.hid (grow_trans HG8.out hg9)
                have HB9 := Lib.hid (HBs.grown hg9)
                have cs1 := HBs.c1
                clear hi9 hg9 HBs
                go_wp2
                go_roundw
                case rel => exact ⟨i3 + 1, j3 - 1, swp dk i3 j3, by go_num, by go_num, by omega, by omega, by omega, by show _ = _; rw [size_swp]; exact HDN.out, HI9.out, HG9.out, HB9.out, by show _ = _; rw [← HPG.out]; exact HO.out⟩
                case measure => first | (simp [intOf]; done) | (simp [intOf]; omega)
end
end Go.Proofs.YtjocfkkcnkpjdaaDoor
