/- The library's sort.Slice with a 'less' that may make memory: its partial insertion sort. -/
import Derived.Test.YtjocfkkcnkpjdaaDoorSortOps
import Derived.Deep.CutBlock
namespace Go.Proofs.YtjocfkkcnkpjdaaDoor
open Go.RowKit Go.Sort
set_option linter.unusedVariables false

section
variable {α : Type} [Inhabited α] {lt : α → α → Bool} {g : Nat} {lb : Array Value} {sf : Nat} {sb : Array Value} {blk b0 B : Nat} {I : Array α → World → Prop} {W w' : World}
theorem sorted_go (d : Array α) (b i : Nat) (h : i < b) (hl : lt d[i]! d[i - 1]! = false) : scanSorted lt d b i = scanSorted lt d b (i + 1) := by
  rw [scanSorted, if_pos (by simp [h, hl])]
theorem sorted_end (d : Array α) (b i : Nat) (h : ¬ i < b ∨ lt d[i]! d[i - 1]! = true) : scanSorted lt d b i = i := by
  rw [scanSorted, if_neg (by rcases h with h | h <;> simp [h])]
theorem down_go (d : Array α) (j : Nat) (hl : lt d[j + 1]! d[j]! = true) : shiftDown lt (j + 1) d = shiftDown lt j (swp d (j + 1) j) := by
  rw [shiftDown, if_neg (by simp [hl])]
theorem down_end (d : Array α) (j : Nat) (hl : lt d[j + 1]! d[j]! = false) : shiftDown lt (j + 1) d = d := by
  rw [shiftDown, if_pos (by simp [hl])]
theorem up_go (d : Array α) (b j : Nat) (h : j < b) (hl : lt d[j]! d[j - 1]! = true) : shiftUp lt b j d = shiftUp lt b (j + 1) (swp d j (j - 1)) := by
  rw [shiftUp, if_pos h, if_neg (by simp [hl])]
theorem up_end (d : Array α) (b j : Nat) (h : ¬ j < b ∨ lt d[j]! d[j - 1]! = false) : shiftUp lt b j d = d := by
  rw [shiftUp]
  by_cases hj : j < b
  · rw [if_pos hj, if_pos (by rcases h with h | h <;> simp_all)]
  · rw [if_neg hj]
def PiEnds (I : Array α → World → Prop) (blk : Nat) (r : Array α × Bool) (W : World) (e : Ending) (w' : World) : Prop := e = .returned (.bool r.2) ∧ I r.1 w' ∧ W.grownBy w' (some blk)
omit [Inhabited α] in
theorem pi_ends {r : Array α × Bool} {q : Bool} {d' : Array α} {w w1 : World} (hr : r = (d', q)) (hi : I d' w1) (hg : w.grownBy w1 (some blk)) : PiEnds I blk r w (.returned (.bool q)) w1 := by
  subst hr
  exact ⟨rfl, hi, hg⟩
set_option maxHeartbeats 16000000 in
set_option maxRecDepth 100000 in
theorem partialInsertionSort_any (S : SortOps lt g lb sf sb blk b0 I) (d : Array α) (w : World) (h : I d w) (a b : Nat) (hab : a < b) (hb : b ≤ d.size) :
    Calls Tryd.prog 78 #[lessSwap g lb sf sb, .int .i64 (a : Int), .int .i64 (b : Int)] w (PiEnds I blk (partialInsertionSort lt d a b) w) := by
  have hd := (S.row d w h).2
  have eg := S.enters
  obtain ⟨N, hN⟩ : ∃ N, d.size = N := ⟨_, rfl⟩
  rw [hN] at hb hd
  obtain ⟨k, hk⟩ : ∃ k, k = w.heap.size := ⟨_, rfl⟩
  obtain ⟨w1, hw1⟩ : ∃ x, x = w.alloc (.cells #[.func (.func g) #[] lb, .func (.func sf) #[] sb] 89) := ⟨_, rfl⟩
  have HB1 : Hid (SBox w1 k g lb sf sb blk) := by show SBox _ _ _ _ _ _ _; rw [hw1, hk]; exact ⟨heap_alloc_new w _, by have := (S.row d w h).1; omega⟩
  have HI1 : Hid (I d w1) := by show I _ _; rw [hw1]; exact S.on d w _ h ((Below.refl _ w).alloc (Nat.le_refl _) _)
  have HG1 : Hid (w.grownBy w1 (some blk)) := by show World.grownBy _ _ _; rw [hw1]; exact grow_alloc (grow_refl w _) _
  have HDN := Lib.hid hN
  have HP : Hid (partialInsertionSort lt d a b = partialIns lt a b 5 (a + 1) d) := rfl
  have HW1 := Lib.hid hw1
  have HK := Lib.hid hk
  clear h hN hw1 hk
  unfold lessSwap
  go_enter Tryd.func78, Tryd.ntmps78
  go_upto_block 0 with fail
  rw [← HW1.out, ← HK.out]
  go_wp2_with fail
  go_loopw [7, 8] (fun v7 v8 wr => ∃ (i t : Nat) (dk : Array α), v7 = .int .i64 (i : Int) ∧ v8 = .int .i64 (t : Int) ∧ a < i ∧ i ≤ b ∧ t ≤ 5 ∧ Hid (dk.size = N) ∧ Hid (I dk wr) ∧ Hid (w.grownBy wr (some blk)) ∧ Hid (SBox wr k g lb sf sb blk) ∧ Hid (partialIns lt a b (5 - t) i dk = partialIns lt a b 5 (a + 1) d)) (fun v7 v8 _ => 5 - (intOf v8).toNat)
  case atStart => exact ⟨a + 1, 0, d, by go_num, rfl, by omega, by omega, by omega, HDN.out, HI1.out, HG1.out, HB1.out, rfl⟩
  case round =>
    clear HDN HI1 HG1 HB1
    obtain ⟨i, t, dk, rfl, rfl, hai, hib, ht5, HDN, HI2, HG2, HB2, HO⟩ := hrel
    by_cases ht : t < 5
    · have hdt : decide ((t : Int) < 5) = true := decide_eq_true (by omega)
      obtain ⟨i2, hi2⟩ : ∃ j, j = scanSorted lt dk b i := ⟨_, rfl⟩
      have Hi2 := Lib.hid hi2
      obtain ⟨u, hu⟩ : ∃ u, 5 - t = u + 1 := ⟨5 - t - 1, by omega⟩
      have hu2 : 5 - (t + 1) = u := by omega
      have hst : partialIns lt a b (u + 1) i dk = partialIns lt a b 5 (a + 1) d := by rw [← hu]; exact HO.out
      rw [partialIns] at hst
      simp only [← hi2] at hst
      have HST := Lib.hid hst
      have HU2 := Lib.hid hu2
      clear hi2 hst hu hu2 HO
      go_upto_block 2 with fail
      go_cut [7] from 17 to 29 (fun s wx => s = .int .i64 (i2 : Int) ∧ (a < i2 ∧ i2 ≤ b) ∧ Hid (I dk wx) ∧ Hid (w.grownBy wx (some blk)) ∧ Hid (SBox wx k g lb sf sb blk))
      case first =>
        go_wp2_with fail
        go_loopw [7] (fun v wr => ∃ z9 : Nat, v = .int .i64 (z9 : Int) ∧ (a < z9 ∧ z9 ≤ b ∧ Hid (scanSorted lt dk b z9 = i2)) ∧ Hid (I dk wr) ∧ Hid (w.grownBy wr (some blk)) ∧ Hid (SBox wr k g lb sf sb blk)) (fun v _ => b - (intOf v).toNat)
        case atStart => exact ⟨i, rfl, ⟨hai, hib, Hi2.out.symm⟩, HI2.out, HG2.out, HB2.out⟩
        case round =>
          obtain ⟨z, rfl, ⟨hz0, hz1, HSx⟩, HIx, HGx, HBx⟩ := hrel
          obtain ⟨wa, hwa⟩ : ∃ y : World, y = wr := ⟨_, rfl⟩
          subst hwa
          have c0 := HBx.out.c0
          by_cases hzb : z < b
          · have hdz : decide ((z : Int) < (b : Int)) = true := decide_eq_true (by omega)
            obtain ⟨q, hq⟩ : ∃ q, lt dk[z]! dk[z - 1]! = q := ⟨_, rfl⟩
            have hl1 := S.less dk wa (z) (z - 1) HIx.out (by rw [HDN.out]; omega) (by rw [HDN.out]; omega)
            rw [show ((z - 1 : Nat) : Int) = (z : Int) - 1 by omega] at hl1
            rw [hq] at hl1
            have HL1 := Lib.hid hl1
            clear hl1
            cases q
            · have HGO := Lib.hid (sorted_go dk b z hzb hq)
              clear hq
              go_wp2_with fail
              refine HL1.out.mono ?_
              rintro e wb ⟨rfl, hb3⟩
              have HE3 := Lib.hid hb3
              clear hb3
              go_wp2
              go_roundw
              case rel => exact ⟨z + 1, by go_num, ⟨by omega, by omega, by show _ = _; rw [← HGO.out]; exact HSx.out⟩, S.on dk wa wb HIx.out HE3.out, grow_below HGx.out HE3.out, HBx.out.on HE3.out⟩
              case measure => first | (simp [intOf]; done) | (simp [intOf]; omega)
            · have HST2 : Hid (z = i2) := by show _ = _; rw [← HSx.out, sorted_end dk b z (.inr hq)]
              clear hq
              go_wp2_with fail
              refine HL1.out.mono ?_
              rintro e wb ⟨rfl, hb2⟩
              have HE2 := Lib.hid hb2
              clear hb2
              go_wp2
              go_meet
              case rel =>
                have hx3 : z = i2 := HST2.out
                exact ⟨by rw [hx3], ⟨by omega, by omega⟩, S.on dk wa wb HIx.out HE2.out, grow_below HGx.out HE2.out, HBx.out.on HE2.out⟩
          · have hdz : decide ((z : Int) < (b : Int)) = false := decide_eq_false (by omega)
            have HST2 : Hid (z = i2) := by show _ = _; rw [← HSx.out, sorted_end dk b z (.inl hzb)]
            go_wp2
            go_meet
            case rel =>
              have hx3 : z = i2 := HST2.out
              exact ⟨by rw [hx3], ⟨by omega, by omega⟩, HIx.out, HGx.out, HBx.out⟩
      case rest =>
        obtain ⟨rfl, ⟨h2a, h2b⟩, HI3, HG3, HB3⟩ := hcut
        clear HI2 HG2 HB2
        by_cases hend : i2 = b
        · have hst := HST.out
          rw [if_pos hend] at hst
          have HS2 := Lib.hid hst
          have hde : ((i2 : Int) == (b : Int)) = true := by rw [hend]; simp
          clear hst HST
          go_wp2
          go_ret
          exact pi_ends (by rw [HP.out, ← HS2.out]) HI3.out HG3.out
        · have hst := HST.out
          rw [if_neg hend] at hst
          have hde : ((i2 : Int) == (b : Int)) = false := beq_false_of_ne (by omega)
          by_cases h50 : b - a < 50
          · rw [if_pos h50] at hst
            have HS2 := Lib.hid hst
            have hd50 : decide ((b : Int) - (a : Int) < 50) = true := decide_eq_true (by omega)
            clear hst HST hend
            go_wp2
            go_ret
            exact pi_ends (by rw [HP.out, ← HS2.out]) HI3.out HG3.out
          · rw [if_neg h50] at hst
            have hd50 : decide ((b : Int) - (a : Int) < 50) = false := decide_eq_false (by omega)
            obtain ⟨d1, hd1⟩ : ∃ x, x = swp dk i2 (i2 - 1) := ⟨_, rfl⟩
            have HDN1 : Hid (d1.size = N) := by show _ = _; rw [hd1, size_swp]; exact HDN.out
            rw [← hd1] at hst
            obtain ⟨d2, hd2⟩ : ∃ x, x = if i2 - a ≥ 2 then shiftDown lt (i2 - 1) d1 else d1 := ⟨_, rfl⟩
            rw [← hd2] at hst
            obtain ⟨d3, hd3⟩ : ∃ x, x = if b - i2 ≥ 2 then shiftUp lt b (i2 + 1) d2 else d2 := ⟨_, rfl⟩
            rw [← hd3] at hst
            have HS2 := Lib.hid hst
            have HD1 := Lib.hid hd1
            have HD2 := Lib.hid hd2
            have HD3 := Lib.hid hd3
            have hib2 : i2 < b := by omega
            clear hst HST hend h50 hd1 hd2 hd3
            have HBs := HB3.out
            obtain ⟨w4, hrun4, hi4, hg4⟩ := S.swap dk _ (i2) (i2 - 1) HI3.out (by rw [HDN.out]; omega) (by rw [HDN.out]; omega)
            rw [show ((i2 - 1 : Nat) : Int) = (i2 : Int) - 1 by omega] at hrun4
            have HI4 := Lib.hid hi4
            have HG4 := Lib.hid (grow_trans HG3.out hg4)
            have HB4 := Lib.hid (HBs.grown hg4)
            have cs1 := HBs.c1
            clear hi4 hg4 HBs
            rw [← HD1.out] at HI4
            clear HDN
            have HDN := HDN1
            clear HDN1
            go_upto_if 47 with fail
            clear hrun4 cs1
            go_cut [9] from 44 to 67 (fun s9 wx => Hid (d2.size = N) ∧ Hid (I d2 wx) ∧ Hid (w.grownBy wx (some blk)) ∧ Hid (SBox wx k g lb sf sb blk))
            case first =>
              by_cases hge : i2 - a ≥ 2
              · have hdg : decide (2 ≤ (i2 : Int) - (a : Int)) = true := decide_eq_true (by omega)
                have hsd : shiftDown lt (i2 - 1) d1 = d2 := by rw [HD2.out, if_pos hge]
                have HSD := Lib.hid hsd
                obtain ⟨y0, hy0⟩ : ∃ y, y = i2 - 1 := ⟨_, rfl⟩
                have hy0I : (i2 : Int) - 1 = (y0 : Int) := by omega
                rw [← hy0] at HSD
                have hy0N : y0 < N := by omega
                clear hsd hy0
                rw [hdg]
                go_upto_block 4 with fail
                go_wp2_with fail
                clear hy0I
                go_loopw [9] (fun v wr => ∃ (y : Nat) (dj : Array α), v = .int .i64 (y : Int) ∧ y ≤ y0 ∧ Hid (dj.size = N) ∧ Hid (I dj wr) ∧ Hid (w.grownBy wr (some blk)) ∧ Hid (SBox wr k g lb sf sb blk) ∧ Hid (shiftDown lt y dj = d2)) (fun v _ => (intOf v).toNat)
                case atStart => exact ⟨y0, d1, rfl, Nat.le_refl _, HDN.out, HI4.out, HG4.out, HB4.out, HSD.out⟩
                case round =>
                  clear HDN HI4 HG4 HB4
                  obtain ⟨y, dj, rfl, hyy, HDN, HIx, HGx, HBx, HSx⟩ := hrel
                  obtain ⟨wa, hwa⟩ : ∃ y : World, y = wr := ⟨_, rfl⟩
                  subst hwa
                  have c0 := HBx.out.c0
                  by_cases hy1 : y = 0
                  · subst hy1
                    have he : dj = d2 := HSx.out
                    have HE := Lib.hid he
                    clear he
                    go_wp2
                    go_meet
                    case rel => rw [← HE.out]; exact ⟨HDN.out, HIx.out, HGx.out, HBx.out⟩
                  · obtain ⟨z, rfl⟩ : ∃ z, y = z + 1 := ⟨y - 1, by omega⟩
                    rw [show ((z + 1 : Nat) : Int) = (z : Int) + 1 by omega]
                    have hdy : decide (1 ≤ (z : Int) + 1) = true := decide_eq_true (by omega)
                    obtain ⟨q, hq⟩ : ∃ q, lt dj[z + 1]! dj[z]! = q := ⟨_, rfl⟩
                    have zz : ((z + 1 : Nat) : Int) - 1 = (z : Int) := by omega
                    have hl4 := S.less dj wa (z + 1) (z) HIx.out (by rw [HDN.out]; omega) (by rw [HDN.out]; omega)
                    rw [show ((z + 1 : Nat) : Int) = (z : Int) + 1 by omega] at hl4
                    rw [hq] at hl4
                    have HL4 := Lib.hid hl4
                    clear hl4
                    cases q
                    · have he : dj = d2 := by rw [← HSx.out, down_end dj z hq]
                      have HE := Lib.hid he
                      clear he hq
                      go_wp2_with fail
                      refine HL4.out.mono ?_
                      rintro e wb ⟨rfl, hb5⟩
                      have HE5 := Lib.hid hb5
                      clear hb5
                      go_wp2
                      go_meet
                      case rel =>
                        rw [← HE.out]
                        exact ⟨HDN.out, S.on dj wa wb HIx.out HE5.out, grow_below HGx.out HE5.out, HBx.out.on HE5.out⟩
                    · have HGO := Lib.hid (down_go dj z hq)
                      clear hq
                      go_wp2_with fail
                      refine HL4.out.mono ?_
                      rintro e wb ⟨rfl, hb6⟩
                      have HE6 := Lib.hid hb6
                      clear hb6
                      have hIb := Lib.hid (S.on dj wa wb HIx.out HE6.out)
                      have hGb := Lib.hid (grow_below HGx.out HE6.out)
                      have hBb := Lib.hid (HBx.out.on HE6.out)
                      have HBs := hBb.out
                      obtain ⟨w8, hrun8, hi8, hg8⟩ := S.swap dj wb (z + 1) (z) hIb.out (by rw [HDN.out]; omega) (by rw [HDN.out]; omega)
                      rw [show ((z + 1 : Nat) : Int) = (z : Int) + 1 by omega] at hrun8
                      have HI8 := Lib.hid hi8
                      have HG8 := Lib.hid (grow_trans hGb.out hg8)
                      have HB8 := Lib.hid (HBs.grown hg8)
                      have cs1 := HBs.c1
                      clear hi8 hg8 HBs
                      go_wp2
                      go_roundw
                      case rel => exact ⟨z, swp dj (z + 1) z, by go_num, by omega, by show _ = _; rw [size_swp]; exact HDN.out, HI8.out, HG8.out, HB8.out, by show _ = _; rw [← HGO.out]; exact HSx.out⟩
                      case measure => first | (simp [intOf]; done) | (simp [intOf]; omega)
              · have hdg : decide (2 ≤ (i2 : Int) - (a : Int)) = false := decide_eq_false (by omega)
                have he : d1 = d2 := by rw [HD2.out, if_neg hge]
                have HE := Lib.hid he
                clear he
                go_wp2
                go_meet
                case rel => rw [← HE.out]; exact ⟨HDN.out, HI4.out, HG4.out, HB4.out⟩
            case rest =>
              clear HDN HI4 HG4 HB4
              obtain ⟨HDN, HI5, HG5, HB5⟩ := hcut
              by_cases hge : b - i2 ≥ 2
              · have hdg : decide (2 ≤ (b : Int) - (i2 : Int)) = true := decide_eq_true (by omega)
                have hsd : shiftUp lt b (i2 + 1) d2 = d3 := by rw [HD3.out, if_pos hge]
                have HSD := Lib.hid hsd
                clear hsd
                go_upto_block 6 with fail
                go_wp2_with fail
                go_loopw [10] (fun v wr => ∃ (y : Nat) (dj : Array α), v = .int .i64 (y : Int) ∧ i2 < y ∧ y ≤ b ∧ Hid (dj.size = N) ∧ Hid (I dj wr) ∧ Hid (w.grownBy wr (some blk)) ∧ Hid (SBox wr k g lb sf sb blk) ∧ Hid (shiftUp lt b y dj = d3)) (fun v _ => b - (intOf v).toNat)
                case atStart => exact ⟨i2 + 1, d2, by go_num, by omega, by omega, HDN.out, HI5.out, HG5.out, HB5.out, HSD.out⟩
                case round =>
                  clear HDN HI5 HG5 HB5
                  obtain ⟨y, dj, rfl, hy1, hy2, HDN, HIx, HGx, HBx, HSx⟩ := hrel
                  obtain ⟨wa, hwa⟩ : ∃ y : World, y = wr := ⟨_, rfl⟩
                  subst hwa
                  have c0 := HBx.out.c0
                  by_cases hyb : y < b
                  · have hdy : decide ((y : Int) < (b : Int)) = true := decide_eq_true (by omega)
                    obtain ⟨q, hq⟩ : ∃ q, lt dj[y]! dj[y - 1]! = q := ⟨_, rfl⟩
                    have hl7 := S.less dj wa (y) (y - 1) HIx.out (by rw [HDN.out]; omega) (by rw [HDN.out]; omega)
                    rw [show ((y - 1 : Nat) : Int) = (y : Int) - 1 by omega] at hl7
                    rw [hq] at hl7
                    have HL7 := Lib.hid hl7
                    clear hl7
                    cases q
                    · have he : dj = d3 := by rw [← HSx.out, up_end dj b y (.inr hq)]
                      have HE := Lib.hid he
                      clear he hq
                      go_wp2_with fail
                      refine HL7.out.mono ?_
                      rintro e wb ⟨rfl, hb8⟩
                      have HE8 := Lib.hid hb8
                      clear hb8
                      go_wp2
                      go_roundw
                      case rel => exact ⟨i2, t + 1, dj, rfl, by go_num, by omega, by omega, by omega, HDN.out, S.on dj wa wb HIx.out HE8.out, grow_below HGx.out HE8.out, HBx.out.on HE8.out, by show _ = _; rw [HU2.out, HE.out]; exact HS2.out⟩
                      case measure => first | (simp [intOf]; done) | (simp [intOf]; omega)
                    · have HGO := Lib.hid (up_go dj b y hyb hq)
                      clear hq
                      go_wp2_with fail
                      refine HL7.out.mono ?_
                      rintro e wb ⟨rfl, hb9⟩
                      have HE9 := Lib.hid hb9
                      clear hb9
                      have hIb := Lib.hid (S.on dj wa wb HIx.out HE9.out)
                      have hGb := Lib.hid (grow_below HGx.out HE9.out)
                      have hBb := Lib.hid (HBx.out.on HE9.out)
                      have HBs := hBb.out
                      obtain ⟨w8, hrun8, hi8, hg8⟩ := S.swap dj wb (y) (y - 1) hIb.out (by rw [HDN.out]; omega) (by rw [HDN.out]; omega)
                      rw [show ((y - 1 : Nat) : Int) = (y : Int) - 1 by omega] at hrun8
                      have HI8 := Lib.hid hi8
                      have HG8 := Lib.hid (grow_trans hGb.out hg8)
                      have HB8 := Lib.hid (HBs.grown hg8)
                      have cs1 := HBs.c1
                      clear hi8 hg8 HBs
                      go_wp2
                      go_roundw
                      case rel => exact ⟨y + 1, swp dj y (y - 1), by go_num, by omega, by omega, by show _ = _; rw [size_swp]; exact HDN.out, HI8.out, HG8.out, HB8.out, by show _ = _; rw [← HGO.out]; exact HSx.out⟩
                      case measure => first | (simp [intOf]; done) | (simp [intOf]; omega)
                  · have hdy : decide ((y : Int) < (b : Int)) = false := decide_eq_false (by omega)
                    have he : dj = d3 := by rw [← HSx.out, up_end dj b y (.inl hyb)]
                    have HE := Lib.hid he
                    clear he
                    go_wp2
                    go_roundw
                    case rel => exact ⟨i2, t + 1, dj, rfl, by go_num, by omega, by omega, by omega, HDN.out, HIx.out, HGx.out, HBx.out, by show _ = _; rw [HU2.out, HE.out]; exact HS2.out⟩
                    case measure => first | (simp [intOf]; done) | (simp [intOf]; omega)
              · have hdg : decide (2 ≤ (b : Int) - (i2 : Int)) = false := decide_eq_false (by omega)
                have he : d2 = d3 := by rw [HD3.out, if_neg hge]
                have HE := Lib.hid he
                clear he
                go_wp2
                go_roundw
                case rel => exact ⟨i2, t + 1, d2, rfl, by go_num, by omega, by omega, by omega, HDN.out, HI5.out, HG5.out, HB5.out, by show _ = _; rw [HU2.out, HE.out]; exact HS2.out⟩
                case measure => first | (simp [intOf]; done) | (simp [intOf]; omega)
    · have hdt : decide ((t : Int) < 5) = false := decide_eq_false (by omega)
      have hst := HO.out
      rw [show 5 - t = 0 by omega, partialIns] at hst
      have HST := Lib.hid hst
      clear hst
      go_wp2
      go_ret
      exact pi_ends (by rw [HP.out, ← HST.out]) HI2.out HG2.out
end
end Go.Proofs.YtjocfkkcnkpjdaaDoor
