/- The library's sort.Slice with a 'less' that may make memory: pdqsort_func, whole. -/
import Derived.Test.YtjocfkkcnkpjdaaDoorSortHeap
import Derived.Test.YtjocfkkcnkpjdaaDoorSortChoose
import Derived.Test.YtjocfkkcnkpjdaaDoorSortPartB
import Derived.Test.YtjocfkkcnkpjdaaDoorSortPi
import Derived.Sort.AssemblyPlain
namespace Go.Proofs.YtjocfkkcnkpjdaaDoor
open Go.RowKit Go.Sort
set_option linter.unusedVariables false

section
variable {α : Type} [Inhabited α] {lt : α → α → Bool} {g : Nat} {lb : Array Value} {sf : Nat} {sb : Array Value} {blk b0 B : Nat} {I : Array α → World → Prop} {W w' : World}
/-- What one round makes of what it finds, ahead of its partition. -/
structure Round (lt : α → α → Bool) (dk : Array α) (a b lim : Nat) (wb wp : Bool) (D1 : Array α) (LIM CP : Nat) (CH : Hint) (D2 : Array α) (PV : Nat) (HT : Hint) (PI : Array α) (PQ : Bool) : Prop where
  b0 : wb = false → D1 = breakPatterns dk a b ∧ LIM = lim - 1
  b1 : wb = true → D1 = dk ∧ LIM = lim
  c : choosePivot lt D1 a b = (CP, CH)
  r0 : CH = .decreasing → D2 = reverseRange D1 a b ∧ PV = (b - 1) - (CP - a) ∧ HT = .increasing
  r1 : CH ≠ .decreasing → D2 = D1 ∧ PV = CP ∧ HT = CH
  p1 : (wb && wp && decide (HT = .increasing)) = true → partialInsertionSort lt D2 a b = (PI, PQ)
  p0 : (wb && wp && decide (HT = .increasing)) = false → D2 = PI ∧ PQ = false
  s1 : D1.size = dk.size
  s2 : D2.size = dk.size
  s3 : PI.size = dk.size
  cp : a ≤ CP ∧ CP < b
  pv : a ≤ PV ∧ PV < b
  ll : LIM ≤ lim
  below : Go.Sort.Below lt a b PI
  done : ¬ b - a ≤ 12 → ¬ lim = 0 → PQ = true → pdq lt dk a b lim wb wp = PI
  eq : ¬ b - a ≤ 12 → ¬ lim = 0 → PQ = false → (decide (a > 0) && !lt PI[a - 1]! PI[PV]!) = true → ∀ mid d4, partitionEqual lt PI a b PV = (mid, d4) → a < mid → mid ≤ b → pdq lt dk a b lim wb wp = pdq lt d4 mid b LIM wb wp
  left : ¬ b - a ≤ 12 → ¬ lim = 0 → PQ = false → (decide (a > 0) && !lt PI[a - 1]! PI[PV]!) = false → ∀ mid ap d4, Sort.partition lt PI a b PV = (mid, ap, d4) → a ≤ mid → mid < b → mid - a < b - mid → pdq lt dk a b lim wb wp = pdq lt (pdq lt d4 a mid LIM true true) (mid + 1) b LIM (decide (mid - a ≥ (b - a) / 8)) ap
  right : ¬ b - a ≤ 12 → ¬ lim = 0 → PQ = false → (decide (a > 0) && !lt PI[a - 1]! PI[PV]!) = false → ∀ mid ap d4, Sort.partition lt PI a b PV = (mid, ap, d4) → a ≤ mid → mid < b → ¬ mid - a < b - mid → pdq lt dk a b lim wb wp = pdq lt (pdq lt d4 (mid + 1) b LIM true true) a mid LIM (decide (b - mid ≥ (b - a) / 8)) ap
theorem round_of (hO : SWO lt) (dk : Array α) (a b lim : Nat) (wb wp : Bool) (hab : a < b) (hb : b ≤ dk.size) (hB : Go.Sort.Below lt a b dk) : ∃ D1 LIM CP CH D2 PV HT PI PQ, Round lt dk a b lim wb wp D1 LIM CP CH D2 PV HT PI PQ := by
  obtain ⟨s1, B1, hc1, s2, B2, hpv, s3, B3⟩ := rd_facts (lt := lt) (limit := lim) (wb := wb) (wp := wp) hO partialInsertionSort_holds reverseRange_holds hab hb hB
  refine ⟨(rd lt dk a b lim wb wp).d1, (rd lt dk a b lim wb wp).lim, (rd lt dk a b lim wb wp).c.1, (rd lt dk a b lim wb wp).c.2, (rd lt dk a b lim wb wp).d2, (rd lt dk a b lim wb wp).pivot, (rd lt dk a b lim wb wp).hint, (rd lt dk a b lim wb wp).pi.1, (rd lt dk a b lim wb wp).pi.2, ?_⟩
  refine ⟨fun h => by subst h; exact rd_false, fun h => by subst h; exact rd_true, rd_c.symm, rd_dec, rd_not, fun h => (rd_pi_yes h).symm, fun h => ?_, s1, s2, s3, hc1, hpv, rd_lim_le, B3, fun h1 h2 h3 => pdq_done h1 h2 h3, fun h1 h2 h3 h4 mid d4 h5 h6 h7 => ?_, fun h1 h2 h3 h4 mid ap d4 h5 h6 h7 h8 => ?_, fun h1 h2 h3 h4 mid ap d4 h5 h6 h7 h8 => ?_⟩
  · rw [rd_pi_no h]
    exact ⟨rfl, rfl⟩
  · rw [pdq_eq h1 h2 h3 h4 (by rw [h5]; exact ⟨h6, h7⟩), h5]
  · rw [pdq_left h1 h2 h3 h4 (by rw [h5]; exact ⟨h6, h7⟩) (by rw [h5]; exact h8), h5]
  · rw [pdq_right h1 h2 h3 h4 (by rw [h5]; exact ⟨h6, h7⟩) (by rw [h5]; exact h8), h5]
def Breaks (g : Nat) (lb : Array Value) (sf : Nat) (sb : Array Value) (blk : Nat) (I : Array α → World → Prop) : Prop :=
  ∀ (d : Array α) w (a b : Nat), I d w → a ≤ b → b ≤ d.size → Calls Tryd.prog 75 #[lessSwap g lb sf sb, .int .i64 (a : Int), .int .i64 (b : Int)] w (SEnds I blk (breakPatterns d a b) w)
def Revs (g : Nat) (lb : Array Value) (sf : Nat) (sb : Array Value) (blk : Nat) (I : Array α → World → Prop) : Prop :=
  ∀ (d : Array α) w (a b : Nat), I d w → a ≤ b → b ≤ d.size → Calls Tryd.prog 77 #[lessSwap g lb sf sb, .int .i64 (a : Int), .int .i64 (b : Int)] w (SEnds I blk (reverseRange d a b) w)
theorem hint_two {h : Hint} (hd : h ≠ .decreasing) : (hintCode h == 2) = false := beq_false_of_ne fun e => hd (hintCode_two e)
theorem hint_one (h : Hint) : (hintCode h == 1) = decide (h = .increasing) := by cases h <;> rfl
set_option maxHeartbeats 32000000 in
set_option maxRecDepth 1000000 in
theorem pdq_any (S : SortOps lt g lb sf sb blk b0 I) (hO : SWO lt) (HBR : Breaks g lb sf sb blk I) (HRV : Revs g lb sf sb blk I) :
    ∀ (n a b limit : Nat) (d : Array α) (w : World), b - a < n → I d w → a ≤ b → b ≤ d.size → limit ≤ 1000 → Go.Sort.Below lt a b d →
    Calls Tryd.prog 55 #[lessSwap g lb sf sb, .int .i64 (a : Int), .int .i64 (b : Int), .int .i64 (limit : Int)] w (SEnds I blk (pdq lt d a b limit true true) w) := by
  have HBR := Lib.hid HBR
  have HRV := Lib.hid HRV
  have HO := Lib.hid hO
  clear hO
  intro n
  induction n with
  | zero => intro _ _ _ _ _ h; exact absurd h (Nat.not_lt_zero _)
  | succ n ih =>
    intro a b limit d w hn h hab hb hlimit hbel
    have hd := (S.row d w h).2
    have eg := S.enters
    have IH := Lib.hid ih
    clear ih
    obtain ⟨N, hN⟩ : ∃ N, d.size = N := ⟨_, rfl⟩
    rw [hN] at hb hd
    obtain ⟨k, hk⟩ : ∃ k, k = w.heap.size := ⟨_, rfl⟩
    obtain ⟨w1, hw1⟩ : ∃ x, x = w.alloc (.cells #[.func (.func g) #[] lb, .func (.func sf) #[] sb] 89) := ⟨_, rfl⟩
    have HB1 : Hid (SBox w1 k g lb sf sb blk) := by show SBox _ _ _ _ _ _ _; rw [hw1, hk]; exact ⟨heap_alloc_new w _, by have := (S.row d w h).1; omega⟩
    have HI1 : Hid (I d w1) := by show I _ _; rw [hw1]; exact S.on d w _ h ((Below.refl _ w).alloc (Nat.le_refl _) _)
    have HG1 : Hid (w.grownBy w1 (some blk)) := by show World.grownBy _ _ _; rw [hw1]; exact grow_alloc (grow_refl w _) _
    have HDN := Lib.hid hN
    have HBEL := Lib.hid hbel
    have HW1 := Lib.hid hw1
    have HK := Lib.hid hk
    clear h hN hw1 hk hbel
    unfold lessSwap
    go_enter Tryd.func55, Tryd.ntmps55
    go_upto_block 0 with fail
    rw [← HW1.out, ← HK.out]
    go_wp2_with fail
    go_loopw [1, 2, 3, 8, 9] (fun s1 s2 s3 s8 s9 wr => ∃ (a' b' lim : Nat) (wb wp : Bool) (dk : Array α), s1 = .int .i64 (a' : Int) ∧ s2 = .int .i64 (b' : Int) ∧ s3 = .int .i64 (lim : Int) ∧ s8 = .bool wb ∧ s9 = .bool wp ∧
      a' ≤ b' ∧ b' ≤ N ∧ b' - a' ≤ b - a ∧ lim ≤ limit ∧ Hid (dk.size = N) ∧ Hid (Go.Sort.Below lt a' b' dk) ∧ Hid (I dk wr) ∧ Hid (w.grownBy wr (some blk)) ∧ Hid (SBox wr k g lb sf sb blk) ∧ Hid (pdq lt dk a' b' lim wb wp = pdq lt d a b limit true true)) (fun s1 s2 _ _ _ _ => (intOf s2 - intOf s1).toNat)
    case atStart => exact ⟨a, b, limit, true, true, d, rfl, rfl, rfl, rfl, rfl, hab, hb, Nat.le_refl _, Nat.le_refl _, HDN.out, HBEL.out, HI1.out, HG1.out, HB1.out, rfl⟩
    case round =>
      clear HDN HBEL HI1 HG1 HB1
      obtain ⟨a', b', lim, wb, wp, dk, rfl, rfl, rfl, rfl, rfl, hab', hbN', hk', hlim, HDN, HBEL, HI, HG, HB, HEQ⟩ := hrel
      obtain ⟨wz, hwz⟩ : ∃ z : World, z = wr := ⟨_, rfl⟩
      subst hwz
      have c0 := HB.out.c0
      have c1 := HB.out.c1
      by_cases h12 : b' - a' ≤ 12
      · have hd12 : decide ((b' : Int) - (a' : Int) ≤ 12) = true := decide_eq_true (by omega)
        have HSM := Lib.hid (pdq_small (lt := lt) (d := dk) (limit := lim) (wb := wb) (wp := wp) h12)
        go_wp2_with fail
        refine (insertion_any S dk wz HI.out a' b' hab' (by rw [HDN.out]; exact hbN')).mono ?_
        rintro e w2 ⟨rfl, hi2, hg2⟩
        have HI2 := Lib.hid hi2
        have HG2 := Lib.hid (grow_trans HG.out hg2)
        clear hi2 hg2
        go_wp2
        go_end0
        exact ⟨rfl, by rw [← HEQ.out, HSM.out]; exact HI2.out, HG2.out⟩
      have hd12 : decide ((b' : Int) - (a' : Int) ≤ 12) = false := decide_eq_false (by omega)
      by_cases hl0 : lim = 0
      · have hdl : ((lim : Int) == 0) = true := by rw [hl0]; rfl
        have HSM := Lib.hid (pdq_heap (lt := lt) (d := dk) (wb := wb) (wp := wp) h12 hl0)
        clear hl0
        go_wp2_with fail
        refine (heapSort_any S dk wz HI.out a' b' hab' (by rw [HDN.out]; exact hbN')).mono ?_
        rintro e w2 ⟨rfl, hi2, hg2⟩
        have HI2 := Lib.hid hi2
        have HG2 := Lib.hid (grow_trans HG.out hg2)
        clear hi2 hg2
        go_wp2
        go_end0
        exact ⟨rfl, by rw [← HEQ.out, HSM.out]; exact HI2.out, HG2.out⟩
      have hdl : ((lim : Int) == 0) = false := beq_false_of_ne (by omega)
      obtain ⟨D1, LIM, CP, CH, D2, PV, HT, PI, PQ, R0⟩ := round_of HO.out dk a' b' lim wb wp (by omega) (by rw [HDN.out]; exact hbN') HBEL.out
      have R := Lib.hid R0
      obtain ⟨hcp1, hcp2⟩ := R0.cp
      obtain ⟨hpv1, hpv2⟩ := R0.pv
      have hll := R0.ll
      have HN1 : Hid (D1.size = N) := R0.s1.trans HDN.out
      have HN2 : Hid (D2.size = N) := R0.s2.trans HDN.out
      have HN3 : Hid (PI.size = N) := R0.s3.trans HDN.out
      have H12 := Lib.hid h12
      have HL0 := Lib.hid hl0
      clear R0
      go_upto_if 35 with fail
      go_cut [3] from 19 (fun s3 wc => s3 = .int .i64 (LIM : Int) ∧ Hid (I D1 wc) ∧ Hid (w.grownBy wc (some blk)) ∧ Hid (SBox wc k g lb sf sb blk))
      case first =>
        cases wb
        · obtain ⟨e1, e2⟩ := R.out.b0 rfl
          have E1 := Lib.hid e1
          have E2 : Hid ((lim : Int) - 1 = (LIM : Int)) := by show _ = _; omega
          clear e1 e2
          go_wp2_with fail
          refine (HBR.out dk wz a' b' HI.out hab' (by rw [HDN.out]; exact hbN')).mono ?_
          rintro e w2 ⟨rfl, hi2, hg2⟩
          have HI2 := Lib.hid hi2
          have HG2 := Lib.hid (grow_trans HG.out hg2)
          have HB2 := Lib.hid (HB.out.grown hg2)
          clear hi2 hg2
          go_wp2
          go_meet
          case rel => exact ⟨by rw [E2.out], by rw [E1.out]; exact HI2.out, HG2.out, HB2.out⟩
        · obtain ⟨e1, e2⟩ := R.out.b1 rfl
          have E1 := Lib.hid e1
          have E2 := Lib.hid e2
          clear e1 e2
          go_wp2
          go_meet
          case rel => exact ⟨by rw [E2.out], by rw [E1.out]; exact HI.out, HG.out, HB.out⟩
      case rest =>
        obtain ⟨rfl, HI1, HG1, HB1⟩ := hcut
        clear HI HG HB c0 c1 HDN
        have c0 := HB1.out.c0
        have c1 := HB1.out.c1
        have HC := Lib.hid R.out.c
        go_wp2_with fail
        refine (choosePivot_any S D1 _ HI1.out a' b' (by omega) (by rw [HN1.out]; exact hbN')).mono ?_
        rintro e w2 ⟨rfl, hi2, hbe2⟩
        rw [HC.out]
        have HI2 := Lib.hid hi2
        have HG2 := Lib.hid (grow_below HG1.out hbe2)
        have HB2 := Lib.hid (HB1.out.on hbe2)
        clear hi2 hbe2 HI1 HG1 HB1 c0 c1
        have c0 := HB2.out.c0
        have c1 := HB2.out.c1
        go_upto_if 50 with fail
        go_cut [11, 12] from 19 (fun s11 s12 wc => s11 = .int .i64 (PV : Int) ∧ s12 = .int .i64 (hintCode HT) ∧ Hid (I D2 wc) ∧ Hid (w.grownBy wc (some blk)) ∧ Hid (SBox wc k g lb sf sb blk))
        case first =>
          by_cases hh : CH = .decreasing
          · obtain ⟨e1, e2, e3⟩ := R.out.r0 hh
            have hcd : (hintCode CH == 2) = true := by rw [hh]; rfl
            have E1 := Lib.hid e1
            have E2 : Hid ((b' : Int) - 1 - ((CP : Int) - (a' : Int)) = (PV : Int)) := by show _ = _; omega
            have E3 : Hid ((1 : Int) = hintCode HT) := by show _ = _; rw [e3]; rfl
            clear e1 e2 e3 hh
            go_wp2_with fail
            refine (HRV.out D1 w2 a' b' HI2.out hab' (by rw [HN1.out]; exact hbN')).mono ?_
            rintro e w3 ⟨rfl, hi3, hg3⟩
            have HI3 := Lib.hid hi3
            have HG3 := Lib.hid (grow_trans HG2.out hg3)
            have HB3 := Lib.hid (HB2.out.grown hg3)
            clear hi3 hg3
            go_wp2
            go_meet
            case rel => exact ⟨by rw [E2.out], by rw [E3.out], by rw [E1.out]; exact HI3.out, HG3.out, HB3.out⟩
          · obtain ⟨e1, e2, e3⟩ := R.out.r1 hh
            have hcd := hint_two hh
            have E1 := Lib.hid e1
            have E2 := Lib.hid e2
            have E3 := Lib.hid e3
            clear e1 e2 e3 hh
            go_wp2
            go_meet
            case rel => exact ⟨by rw [E2.out], by rw [E3.out], by rw [E1.out]; exact HI2.out, HG2.out, HB2.out⟩
        case rest =>
          obtain ⟨rfl, rfl, HI3, HG3, HB3⟩ := hcut
          clear HI2 HG2 HB2 c0 c1
          have c0 := HB3.out.c0
          have c1 := HB3.out.c1
          obtain ⟨w3, hw3⟩ : ∃ z : World, z = wc := ⟨_, rfl⟩
          subst hw3
          obtain ⟨qt, hqt⟩ : ∃ q, q = (wb && wp && decide (HT = .increasing)) := ⟨_, rfl⟩
          have HQT := Lib.hid hqt
          obtain ⟨hz, hhz⟩ : ∃ z : Int, z = hintCode HT := ⟨_, rfl⟩
          have hz1 : (hz == 1) = decide (HT = .increasing) := by rw [hhz]; exact hint_one HT
          rw [← hhz]
          have HZ := Lib.hid hhz
          clear hqt hhz
          go_upto_region 16 with fail
          go_cut [68] from 19 (fun s68 wx => s68 = .bool qt ∧ w3 = wx)
          case first =>
            obtain ⟨qi, hqi⟩ : ∃ q, q = decide (HT = .increasing) := ⟨_, rfl⟩
            rw [← hqi] at hz1 HQT
            clear hqi
            cases wb <;> cases wp <;> cases qi <;>
              (have hq2 : qt = _ := HQT.out
               go_wp2_with fail
               go_meet
               case rel => exact ⟨by rw [HQT.out]; rfl, rfl⟩)
          case rest =>
            obtain ⟨rfl, rfl⟩ := hcut
            go_upto_if 68 with fail
            go_cut [] from 19 (fun wx => Hid (PQ = false) ∧ Hid (I PI wx) ∧ Hid (w.grownBy wx (some blk)) ∧ Hid (SBox wx k g lb sf sb blk))
            case first =>
              cases qt
              · obtain ⟨e1, e2⟩ := R.out.p0 HQT.out.symm
                have E1 := Lib.hid e1
                have E2 := Lib.hid e2
                clear e1 e2
                go_wp2
                go_meet
                case rel => exact ⟨E2.out, by rw [← E1.out]; exact HI3.out, HG3.out, HB3.out⟩
              · have E1 := Lib.hid (R.out.p1 HQT.out.symm)
                go_wp2_with fail
                refine (partialInsertionSort_any S D2 w3 HI3.out a' b' (by omega) (by rw [HN2.out]; exact hbN')).mono ?_
                rintro e w4 ⟨rfl, hi4, hg4⟩
                rw [E1.out] at hi4
                rw [E1.out]
                have HI4 := Lib.hid hi4
                have HG4 := Lib.hid (grow_trans HG3.out hg4)
                have HB4 := Lib.hid (HB3.out.grown hg4)
                clear hi4 hg4 E1
                cases PQ
                · go_wp2
                  go_meet
                  case rel => exact ⟨by first | exact rfl | exact trivial, HI4.out, HG4.out, HB4.out⟩
                · have HDONE := Lib.hid (R.out.done H12.out HL0.out rfl)
                  go_wp2
                  go_end0
                  exact ⟨rfl, by rw [← HEQ.out, HDONE.out]; exact HI4.out, HG4.out⟩
            case rest =>
              obtain ⟨HPQ, HI4, HG4, HB4⟩ := hcut
              clear HI3 HG3 HB3 c0 c1
              have c0 := HB4.out.c0
              have c1 := HB4.out.c1
              obtain ⟨q5, hq5⟩ : ∃ q, (decide (a' > 0) && !lt PI[a' - 1]! PI[PV]!) = q := ⟨_, rfl⟩
              have HQ5 := Lib.hid hq5
              clear hq5
              go_upto_region 18 with fail
              go_cut [83] from 19 (fun s83 wx => s83 = .bool q5 ∧ Hid (I PI wx) ∧ Hid (w.grownBy wx (some blk)) ∧ Hid (SBox wx k g lb sf sb blk))
              case first =>
                by_cases ha0 : a' = 0
                · have hda : decide (0 < (a' : Int)) = false := decide_eq_false (by omega)
                  have E5 : Hid (q5 = false) := by show _ = _; rw [← HQ5.out, ha0]; rfl
                  have ha1 : ¬ 0 < (a' : Int) := by omega
                  clear ha0
                  go_wp2_with fail
                  go_meet
                  case rel => exact ⟨by rw [E5.out], HI4.out, HG4.out, HB4.out⟩
                · have hda : decide (0 < (a' : Int)) = true := decide_eq_true (by omega)
                  obtain ⟨ql, hql⟩ : ∃ q, lt PI[a' - 1]! PI[PV]! = q := ⟨_, rfl⟩
                  have E5 : Hid (q5 = !ql) := by show _ = _; rw [← HQ5.out, hql, decide_eq_true (by omega : a' > 0)]; rfl
                  have hl := S.less PI _ (a' - 1) PV HI4.out (by rw [HN3.out]; omega) (by rw [HN3.out]; omega)
                  rw [hql, show ((a' - 1 : Nat) : Int) = (a' : Int) - 1 by omega] at hl
                  have HL := Lib.hid hl
                  have ha1 : 0 < (a' : Int) := by omega
                  clear hl hql ha0
                  cases ql <;>
                    (go_wp2_with fail
                     refine HL.out.mono ?_
                     rintro e w5 ⟨rfl, hb5⟩
                     have HE5 := Lib.hid hb5
                     clear hb5 HL
                     go_wp2_with fail
                     go_meet
                     case rel => exact ⟨by rw [E5.out]; rfl, S.on PI _ w5 HI4.out HE5.out, grow_below HG4.out HE5.out, HB4.out.on HE5.out⟩)
              case rest =>
                obtain ⟨rfl, HI5, HG5, HB5⟩ := hcut
                clear HI4 HG4 HB4 c0 c1
                have c0 := HB5.out.c0
                have c1 := HB5.out.c1
                cases q5
                · obtain ⟨⟨mid, ap, d4⟩, hx⟩ : ∃ r, Sort.partition lt PI a' b' PV = r := ⟨_, rfl⟩
                  obtain ⟨r1, r2, r3, r4, r5, r6, r7⟩ := round_part HO.out (partition_holds lt) hpv1 hpv2 (show b' ≤ PI.size by rw [HN3.out]; exact hbN') R.out.below hx
                  have HX := Lib.hid hx
                  have HN4 : Hid (d4.size = N) := r3.trans HN3.out
                  have H4 := Lib.hid r4
                  have H5 := Lib.hid r5
                  have H6 := Lib.hid r6
                  have H7 := Lib.hid r7
                  clear hx r3 r4 r5 r6 r7
                  go_wp2_with fail
                  refine (partition_any S PI _ HI5.out a' b' PV hpv1 hpv2 (by rw [HN3.out]; exact hbN')).mono ?_
                  rintro e w6 ⟨rfl, hi6, hg6⟩
                  rw [HX.out] at hi6
                  rw [HX.out]
                  have HI6 := Lib.hid hi6
                  have HG6 := Lib.hid (grow_trans HG5.out hg6)
                  have HB6 := Lib.hid (HB5.out.grown hg6)
                  clear hi6 hg6 HI5 HG5 HB5 c0 c1
                  have c0 := HB6.out.c0
                  have c1 := HB6.out.c1
                  by_cases hlr : mid - a' < b' - mid
                  · have hdlr : decide ((mid : Int) - (a' : Int) < (b' : Int) - (mid : Int)) = true := decide_eq_true (by omega)
                    have hpl := pdq_sorts lt HO.out d4 a' mid LIM true true (by omega) (by rw [HN4.out]; omega) H4.out
                    have HPL := Lib.hid hpl
                    have HLEFT := Lib.hid (R.out.left H12.out HL0.out HPQ.out HQ5.out mid ap d4 HX.out r1 r2 hlr)
                    clear hpl
                    go_wp2_with fail
                    refine (IH.out a' mid LIM d4 w6 (by omega) HI6.out (by omega) (by rw [HN4.out]; omega) (by omega) H4.out).mono ?_
                    rintro e w7 ⟨rfl, hi7, hg7⟩
                    have HI7 := Lib.hid hi7
                    have HG7 := Lib.hid (grow_trans HG6.out hg7)
                    have HB7 := Lib.hid (HB6.out.grown hg7)
                    clear hi7 hg7
                    go_wp2
                    go_roundw
                    case rel =>
                      refine ⟨mid + 1, b', LIM, decide (mid - a' ≥ (b' - a') / 8), ap, pdq lt d4 a' mid LIM true true, by go_num, rfl, rfl, ?_, rfl, by omega, by omega, by omega, by omega, (HPL.out.1.1).trans HN4.out, (H6.out _ HPL.out.1 HPL.out.2).1, HI7.out, HG7.out, HB7.out, ?_⟩
                      · exact congrArg Value.bool (eighth (by omega) (by omega))
                      · show _ = _
                        rw [← HEQ.out, HLEFT.out]
                    case measure => first | (simp [intOf]; done) | (simp [intOf]; omega)
                  · have hdlr : decide ((mid : Int) - (a' : Int) < (b' : Int) - (mid : Int)) = false := decide_eq_false (by omega)
                    have hpl := pdq_sorts lt HO.out d4 (mid + 1) b' LIM true true (by omega) (by rw [HN4.out]; omega) H5.out
                    have HPL := Lib.hid hpl
                    have HRIGHT := Lib.hid (R.out.right H12.out HL0.out HPQ.out HQ5.out mid ap d4 HX.out r1 r2 hlr)
                    have hih := IH.out (mid + 1) b' LIM d4 w6 (by omega) HI6.out (by omega) (by rw [HN4.out]; omega) (by omega) H5.out
                    rw [show ((mid + 1 : Nat) : Int) = (mid : Int) + 1 by omega] at hih
                    have HIH := Lib.hid hih
                    clear hpl hih
                    go_wp2_with fail
                    refine HIH.out.mono ?_
                    rintro e w7 ⟨rfl, hi7, hg7⟩
                    have HI7 := Lib.hid hi7
                    have HG7 := Lib.hid (grow_trans HG6.out hg7)
                    have HB7 := Lib.hid (HB6.out.grown hg7)
                    clear hi7 hg7
                    go_wp2
                    go_roundw
                    case rel =>
                      refine ⟨a', mid, LIM, decide (b' - mid ≥ (b' - a') / 8), ap, pdq lt d4 (mid + 1) b' LIM true true, rfl, rfl, rfl, ?_, rfl, by omega, by omega, by omega, by omega, (HPL.out.1.1).trans HN4.out, (H7.out _ HPL.out.1 HPL.out.2).1, HI7.out, HG7.out, HB7.out, ?_⟩
                      · exact congrArg Value.bool (eighth (by omega) (by omega))
                      · show _ = _
                        rw [← HEQ.out, HRIGHT.out]
                    case measure => first | (simp [intOf]; done) | (simp [intOf]; omega)
                · have hq := HQ5.out
                  simp only [Bool.and_eq_true, decide_eq_true_eq, Bool.not_eq_true'] at hq
                  obtain ⟨⟨mid, d4⟩, hx⟩ : ∃ r, Sort.partitionEqual lt PI a' b' PV = r := ⟨_, rfl⟩
                  obtain ⟨r1, r2, r3, r4, _⟩ := round_eq HO.out (partitionEqual_holds lt) hq.1 hpv1 hpv2 (show b' ≤ PI.size by rw [HN3.out]; exact hbN') R.out.below hq.2 hx
                  have HX := Lib.hid hx
                  have HN4 : Hid (d4.size = N) := r3.trans HN3.out
                  have H4 := Lib.hid r4
                  have HEE := Lib.hid (R.out.eq H12.out HL0.out HPQ.out HQ5.out mid d4 hx r1 r2)
                  clear hx r3 r4 hq
                  go_wp2_with fail
                  refine (partitionEqual_any S PI _ HI5.out a' b' PV hpv1 hpv2 (by rw [HN3.out]; exact hbN')).mono ?_
                  rintro e w6 ⟨rfl, hi6, hg6⟩
                  rw [HX.out] at hi6
                  rw [HX.out]
                  have HI6 := Lib.hid hi6
                  have HG6 := Lib.hid (grow_trans HG5.out hg6)
                  have HB6 := Lib.hid (HB5.out.grown hg6)
                  clear hi6 hg6
                  go_wp2
                  go_roundw
                  case rel => exact ⟨mid, b', LIM, wb, wp, d4, rfl, rfl, rfl, rfl, rfl, by omega, by omega, by omega, by omega, HN4.out, H4.out, HI6.out, HG6.out, HB6.out, by show _ = _; rw [← HEQ.out, HEE.out]⟩
                  case measure => first | (simp [intOf]; done) | (simp [intOf]; omega)
end
end Go.Proofs.YtjocfkkcnkpjdaaDoor
