/- The code's own batch, chapter 6: Right, Size. -/
import Derived.Test.YtlpmfhccfihnfaaBatCode3
import Derived.Test.YtlpmfhccfihnfaaBatUse
namespace Go.Proofs.Ytlpmfhccfihnfaa
open Go.RowKit
open Go.SeqMath
open Go.BatMath hiding AllB getD_lt take_all
set_option linter.unusedVariables false

theorem right_low {b : Bat} (h : ¬ (0 ≤ b.base ∧ b.base ≤ 1099511627776)) : rightE b = 18 := by
  unfold rightE; rw [if_pos (by omega)]
theorem right_rd {b : Bat} (h : 0 ≤ b.base ∧ b.base ≤ 1099511627776) (hm : b.marker = 0) : rightE b = rdE b := by
  unfold rightE rdE; rw [if_neg (by omega), if_neg (by simpa using hm)]
theorem right_rm {b : Bat} (h : 0 ≤ b.base ∧ b.base ≤ 1099511627776) (hm : b.marker ≠ 0) : rightE b = rmE b := by
  unfold rightE rmE; rw [if_neg (by omega), if_pos hm]
set_option maxRecDepth 100000 in
theorem batRight_any (w : World) (b : Bat) (ad : Option Addr) (len cap : Nat) (hr : RecsAt w ad len cap b.recs) (ht : TextsOk b.recs) (hL : len ≤ 140737488355328) :
    Calls Try.prog 26 #[.agg #[.int .i64 b.base, .int .i64 b.prod, .int .i64 b.epoch, .int .i64 b.seq, .bool b.txn, .int .i64 b.marker, .slice ad len cap]] w (Says (rightE b) w) := by
  have e18 := @right_low b
  have eD := @right_rd b
  have eM := @right_rm b
  have hlr := hr.length
  have CD : Hid (∀ W, Below w.heap.size w W → Calls Try.prog 46 #[.agg #[.int .i64 b.base, .int .i64 b.prod, .int .i64 b.epoch, .int .i64 b.seq, .bool b.txn, .int .i64 b.marker, .slice ad len cap]] W (Says (rdE b) W)) := fun W hW => rightData_any W b ad len cap (hr.keep hW) ht hL
  have CM : Hid (∀ W, Below w.heap.size w W → Calls Try.prog 47 #[.agg #[.int .i64 b.base, .int .i64 b.prod, .int .i64 b.epoch, .int .i64 b.seq, .bool b.txn, .int .i64 b.marker, .slice ad len cap]] W (Says (rmE b) W)) := fun W hW => rightMarker_any W b ad len cap hlr
  have CL : Hid (rightE b = 0 → ∀ W, Below w.heap.size w W → Calls Try.prog 44 #[.agg #[.int .i64 b.base, .int .i64 b.prod, .int .i64 b.epoch, .int .i64 b.seq, .bool b.txn, .int .i64 b.marker, .slice ad len cap]] W (Says ((bytesB b).length : Int) W)) := by
    intro h W hW
    have ho := ok_of h
    exact length_any W b ad len cap (hr.keep hW) ho.texts (by have := ho.recs; omega)
  have HLE : Hid (rightE b = 0 → (bytesB b).length ≤ 4096) := by
    intro h
    have := (ok_len (ok_of h)).1
    omega
  obtain ⟨N, hN⟩ : ∃ N, N = (bytesB b).length := ⟨_, rfl⟩
  rw [← hN] at CL HLE
  obtain ⟨ev, hev⟩ : ∃ ev, ev = rightE b := ⟨_, rfl⟩
  rw [← hev] at e18 eD eM CL HLE ⊢
  obtain ⟨dv, hdv⟩ : ∃ dv, dv = rdE b := ⟨_, rfl⟩
  rw [← hdv] at eD CD
  obtain ⟨mv, hmv⟩ : ∃ mv, mv = rmE b := ⟨_, rfl⟩
  rw [← hmv] at eM CM
  clear hev hdv hmv hN hr ht hL hlr
  obtain ⟨base, prod, epoch, seq, txn, marker, recs⟩ := b
  simp only at CD CM CL e18 eD eM ⊢
  obtain ⟨W0, hW0⟩ : ∃ W0, W0 = (w.alloc (.cells #[.int .i64 base, .int .i64 prod, .int .i64 epoch, .int .i64 seq, .bool txn, .int .i64 marker, .slice ad len cap] 24)) := ⟨_, rfl⟩
  have HX := Lib.hid (show BoxAt W0 w.heap.size base prod epoch seq txn marker (.slice ad len cap) by rw [hW0]; exact boxAt_new w _ _ _ _ _ _ _)
  have HB := Lib.hid (show Below w.heap.size w W0 by rw [hW0]; exact (Below.refl _ _).alloc (Nat.le_refl _) _)
  have HW0 := Lib.hid hW0
  clear hW0
  have E18 := Lib.hid e18
  have ED := Lib.hid eD
  have EM := Lib.hid eM
  clear e18 eD eM
  go_enter Try.func26, Try.ntmps26
  go_wp2_with fail
  rw [← HW0.out]
  by_cases hb0 : 0 ≤ base ∧ base ≤ 1099511627776
  · refine (batOffset_any base _ true (by simp [hb0])).mono ?_
    rintro e w' ⟨rfl, rfl⟩
    have hc0 := HX.out.c0
    have hc1 := HX.out.c1
    have hc2 := HX.out.c2
    have hc3 := HX.out.c3
    have hc4 := HX.out.c4
    have hc5 := HX.out.c5
    have hc6 := HX.out.c6
    go_wp2_with fail
    refine (CD.out W0 HB.out).mono ?_
    rintro e w1 ⟨rfl, hb⟩
    have HX1 := Lib.hid (HX.out.on hb)
    have HB1 := Lib.hid (HB.out.trans (hb.mono HB.out.size))
    clear hb hc0 hc1 hc2 hc3 hc4 hc5 hc6
    have hc0 := HX1.out.c0
    have hc1 := HX1.out.c1
    have hc2 := HX1.out.c2
    have hc3 := HX1.out.c3
    have hc4 := HX1.out.c4
    have hc5 := HX1.out.c5
    have hc6 := HX1.out.c6
    have hlt1 := HX1.out.lt
    have hfz : ∀ j, w1.frozen? ⟨w.heap.size, j, none⟩ = false := HX1.out.free
    by_cases hm : marker = 0
    · have hm1 : (marker != 0) = false := by simpa using hm
      obtain rfl : ev = dv := ED.out hb0 hm
      have HM := Lib.hid hm
      clear hm
      by_cases h0 : ev = 0
      · have h1 : (ev != 0) = false := by simpa using h0
        have H0 := Lib.hid h0
        have hN4 := HLE.out h0
        clear h0
        go_wp2_with fail
        refine (CL.out H0.out w1 HB1.out).mono ?_
        rintro e w2 ⟨rfl, hb⟩
        have HB2 := Lib.hid (HB1.out.trans (hb.mono HB1.out.size))
        clear hb hc0 hc1 hc2 hc3 hc4 hc5 hc6
        go_wp2
        go_ret
        exact says_mk H0.out.symm HB2.out
      · have h1 : (ev != 0) = true := by simpa using h0
        go_wp2
        go_ret
        exact says_mk rfl HB1.out
    · have hm1 : (marker != 0) = true := by simpa using hm
      obtain rfl : ev = mv := EM.out hb0 hm
      have HM := Lib.hid hm
      clear hm
      go_wp2_with fail
      refine (CM.out w1 HB1.out).mono ?_
      rintro e w2 ⟨rfl, hb⟩
      have HX2 := Lib.hid (HX1.out.on hb)
      have HB2 := Lib.hid (HB1.out.trans (hb.mono HB1.out.size))
      clear hb hc0 hc1 hc2 hc3 hc4 hc5 hc6
      have hc0 := HX2.out.c0
      have hc1 := HX2.out.c1
      have hc2 := HX2.out.c2
      have hc3 := HX2.out.c3
      have hc4 := HX2.out.c4
      have hc5 := HX2.out.c5
      have hc6 := HX2.out.c6
      by_cases h0 : ev = 0
      · have h1 : (ev != 0) = false := by simpa using h0
        have H0 := Lib.hid h0
        have hN4 := HLE.out h0
        clear h0
        go_wp2_with fail
        refine (CL.out H0.out w2 HB2.out).mono ?_
        rintro e w3 ⟨rfl, hb⟩
        have HB3 := Lib.hid (HB2.out.trans (hb.mono HB2.out.size))
        clear hb hc0 hc1 hc2 hc3 hc4 hc5 hc6
        go_wp2
        go_ret
        exact says_mk H0.out.symm HB3.out
      · have h1 : (ev != 0) = true := by simpa using h0
        go_wp2
        go_ret
        exact says_mk rfl HB2.out
  · refine (batOffset_any base _ false (by
      rcases Classical.em (0 ≤ base) with h | h
      · have : ¬ base ≤ 1099511627776 := fun h2 => hb0 ⟨h, h2⟩
        simp [this]
      · simp [h])).mono ?_
    rintro e w' ⟨rfl, rfl⟩
    have H18 := Lib.hid (E18.out hb0)
    clear hb0
    go_wp2
    go_ret
    exact says_mk H18.out.symm HB.out
theorem batSize_any (w : World) (b : Bat) (ad : Option Addr) (len cap : Nat) (hr : RecsAt w ad len cap b.recs) (ht : TextsOk b.recs) (hL : len ≤ 140737488355328) :
    Calls Try.prog 22 #[.agg #[.int .i64 b.base, .int .i64 b.prod, .int .i64 b.epoch, .int .i64 b.seq, .bool b.txn, .int .i64 b.marker, .slice ad len cap]] w (Says (sizeB b) w) := by
  have CP : Hid (∀ W, Below w.heap.size w W → Calls Try.prog 26 #[.agg #[.int .i64 b.base, .int .i64 b.prod, .int .i64 b.epoch, .int .i64 b.seq, .bool b.txn, .int .i64 b.marker, .slice ad len cap]] W (Says (rightE b) W)) := fun W hW => batRight_any W b ad len cap (hr.keep hW) ht hL
  have CL : Hid (rightE b = 0 → ∀ W, Below w.heap.size w W → Calls Try.prog 44 #[.agg #[.int .i64 b.base, .int .i64 b.prod, .int .i64 b.epoch, .int .i64 b.seq, .bool b.txn, .int .i64 b.marker, .slice ad len cap]] W (Says ((bytesB b).length : Int) W)) := by
    intro h W hW
    have ho := ok_of h
    have hlr := hr.length
    exact length_any W b ad len cap (hr.keep hW) ho.texts (by have := ho.recs; omega)
  have HY : Hid (rightE b = 0 → ((bytesB b).length : Int) = sizeB b) := fun h => by unfold sizeB; rw [if_pos h]
  have HN : Hid (rightE b ≠ 0 → 0 = sizeB b) := fun h => by unfold sizeB; rw [if_neg h]
  obtain ⟨P, hP⟩ : ∃ P, P = sizeB b := ⟨_, rfl⟩
  rw [← hP] at HY HN ⊢
  obtain ⟨ev, hev⟩ : ∃ ev, ev = rightE b := ⟨_, rfl⟩
  rw [← hev] at HY HN CP CL
  obtain ⟨N, hN⟩ : ∃ N, N = (bytesB b).length := ⟨_, rfl⟩
  rw [← hN] at HY CL
  clear hev hP hr ht hN hL
  obtain ⟨base, prod, epoch, seq, txn, marker, recs⟩ := b
  simp only at CP CL ⊢
  obtain ⟨W0, hW0⟩ : ∃ W0, W0 = (w.alloc (.cells #[.int .i64 base, .int .i64 prod, .int .i64 epoch, .int .i64 seq, .bool txn, .int .i64 marker, .slice ad len cap] 24)) := ⟨_, rfl⟩
  have HX := Lib.hid (show BoxAt W0 w.heap.size base prod epoch seq txn marker (.slice ad len cap) by rw [hW0]; exact boxAt_new w _ _ _ _ _ _ _)
  have HB := Lib.hid (show Below w.heap.size w W0 by rw [hW0]; exact (Below.refl _ _).alloc (Nat.le_refl _) _)
  have HW0 := Lib.hid hW0
  clear hW0
  go_enter Try.func22, Try.ntmps22
  go_wp2_with fail
  rw [← HW0.out]
  refine (CP.out W0 HB.out).mono ?_
  rintro e w1 ⟨rfl, hb⟩
  have HX1 := Lib.hid (HX.out.on hb)
  have HB1 := Lib.hid (HB.out.trans (hb.mono HB.out.size))
  clear hb
  by_cases h0 : ev = 0
  · have h1 : (ev != 0) = false := by simpa using h0
    have H0 := Lib.hid h0
    clear h0
    have hc0 := HX1.out.c0
    have hc1 := HX1.out.c1
    have hc2 := HX1.out.c2
    have hc3 := HX1.out.c3
    have hc4 := HX1.out.c4
    have hc5 := HX1.out.c5
    have hc6 := HX1.out.c6
    go_wp2_with fail
    refine (CL.out H0.out w1 HB1.out).mono ?_
    rintro e w2 ⟨rfl, hb⟩
    have HB2 := Lib.hid (HB1.out.trans (hb.mono HB1.out.size))
    clear hb hc0 hc1 hc2 hc3 hc4 hc5 hc6
    go_wp2
    go_ret
    exact says_mk (HY.out H0.out) HB2.out
  · have h1 : (ev != 0) = true := by simpa using h0
    have H0 := Lib.hid h0
    clear h0
    go_wp2
    go_ret
    exact says_mk (HN.out H0.out) HB1.out
end Go.Proofs.Ytlpmfhccfihnfaa
