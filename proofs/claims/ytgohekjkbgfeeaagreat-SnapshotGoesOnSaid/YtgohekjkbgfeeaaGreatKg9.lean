/- Package producer's own small functions: open, offset, end, element, behind; batch's Count; three numbers held against three. -/
import Derived.Laws.StructEq
import Derived.Test.YtgohekjkbgfeeaaGreatKg3
import Derived.Test.YtgohekjkbgfeeaaGreatKg7
import Derived.Test.YtgohekjkbgfeeaaGreatKg8
namespace Go.Proofs.YtgohekjkbgfeeaaGreat
open Go.RowKit
open Go.SeqMath
open Go.ProdMath
open Go.BatMath hiding AllB getD_lt take_all
set_option linter.unusedVariables false

/-- Three numbers as a value. -/
def Tr.val (x : Tr) : Value := .agg #[.int .i64 x.f, .int .i64 x.l, .int .i64 x.b]
theorem eq_three (a b c d e f : Int) (w : World) : (Op.equalIn 10000 79 (.agg #[.int .i64 a, .int .i64 b, .int .i64 c]) (.agg #[.int .i64 d, .int .i64 e, .int .i64 f])).run Tryz.prog w = .ok (a == d && (b == e && c == f)) w := by
  have u3 := Tryz.underlying2
  have a3 := Tryz.isAgg2
  have z3 := Tryz.sizeOf2
  rw [show (10000 : Nat) = 9999 + 1 from rfl, Op.equalIn]
  simp only [Sem.run_bind, run_underlying Tryz.underlying79, Result.andThen_ok]
  simp only [Std.Legacy.Range.forIn_eq_forIn_range', Std.Legacy.Range.size, Nat.sub_zero, Nat.add_sub_cancel, Nat.div_one, List.range'_succ, List.range'_zero, List.forIn_cons, List.forIn_nil]
  go_simp
  by_cases h1 : a = d <;> by_cases h2 : b = e <;> by_cases h3 : c = f <;> simp [h1, h2, h3]
theorem guard_three : Tryz.prog.eqGuardType Tryz.prog.depth 79 = false := by kernel_rfl
theorem neq_three (a b c d e f : Int) (r : Bool) (hr : (a == d && (b == e && c == f)) = r) (w : World) : (binOp .neq 79 (.agg #[.int .i64 a, .int .i64 b, .int .i64 c]) (.agg #[.int .i64 d, .int .i64 e, .int .i64 f])).run Tryz.prog w = .ok (.bool (!r)) w := by
  rw [run_neq_struct, eq_three, hr]; rfl
theorem prOpen_any (w : World) (id ep op : Int) (ad : Option Addr) (n cap : Nat) (r : Bool) (hr : decide (0 ≤ op) = r) :
    Calls Tryz.prog 82 #[.agg #[.int .i64 id, .int .i64 ep, .slice ad n cap, .int .i64 op]] w fun e w' => e = .returned (.bool r) ∧ Below w.heap.size w w' := by
  have HR := Lib.hid hr
  clear hr
  obtain ⟨W0, hW0⟩ : ∃ W0, W0 = (w.alloc (.cells #[.int .i64 id, .int .i64 ep, .slice ad n cap, .int .i64 op] 78)) := ⟨_, rfl⟩
  have HB0 : Hid (Below w.heap.size w W0) := by show Below _ _ _; rw [hW0]; exact (Below.refl _ _).alloc (Nat.le_refl _) _
  have HP0 : Hid (PBox W0 w.heap.size (id) (ep) (.slice ad n cap) (op)) := by
    show PBox _ w.heap.size (id) (ep) (.slice ad n cap) (op)
    rw [hW0]
    have h1 := pbox_new w (id) (ep) (.slice ad n cap) (op)
    simpa using h1
  have HW0 := Lib.hid hW0
  clear hW0
  obtain ⟨B1, hB1⟩ : ∃ B, B = w.heap.size := ⟨_, rfl⟩
  rw [← hB1] at HP0
  go_enter Tryz.func82, Tryz.ntmps82
  go_upto_region 1 with fail
  rw [← HW0.out, ← hB1]
  clear HW0 hB1
  have q3 := HP0.out.c3
  go_wp2
  go_ret
  exact ⟨by rw [← HR.out]; rfl, HB0.out⟩
theorem prOffset_any (w : World) (n : Int) (r : Bool) (hr : (decide (0 ≤ n) && decide (n ≤ 1099511627776)) = r) :
    Calls Tryz.prog 140 #[.int .i64 n] w fun e w' => e = .returned (.bool r) ∧ w = w' := by
  have HR := Lib.hid hr
  clear hr
  by_cases h0 : 0 ≤ n
  · have hd0 : decide (0 ≤ n) = true := decide_eq_true h0
    go_enter Tryz.func140, Tryz.ntmps140
    go_wp2
    go_ret
    exact ⟨by rw [← HR.out, hd0]; rfl, rfl⟩
  · have hd0 : decide (0 ≤ n) = false := decide_eq_false h0
    go_enter Tryz.func140, Tryz.ntmps140
    go_wp2
    go_ret
    exact ⟨by rw [← HR.out, hd0]; rfl, rfl⟩
set_option maxHeartbeats 1000000 in
theorem prEnd_any (w : World) (b0 b1 b2 b3 : Int) (b4 : Bool) (b5 : Int) (rd : Option Addr) (rn rc : Nat) (hm : b5 = 0) (hrn : rn ≤ 140737488355328) (v : Int) (hv : lastI b3 rn = v) :
    Calls Tryz.prog 81 #[.agg #[.int .i64 b0, .int .i64 b1, .int .i64 b2, .int .i64 b3, .bool b4, .int .i64 b5, .slice rd rn rc]] w fun e w' => e = .returned (.int .i64 v) ∧ Below w.heap.size w w' := by
  have HM := Lib.hid hm
  have HV := Lib.hid hv
  clear hm hv
  obtain ⟨W0, hW0⟩ : ∃ W0, W0 = (w.alloc (.cells #[.int .i64 b0, .int .i64 b1, .int .i64 b2, .int .i64 b3, .bool b4, .int .i64 b5, .slice rd rn rc] 56)) := ⟨_, rfl⟩
  have HB0 : Hid (Below w.heap.size w W0) := by show Below _ _ _; rw [hW0]; exact (Below.refl _ _).alloc (Nat.le_refl _) _
  have HX0 : Hid (BoxAt W0 w.heap.size b0 b1 b2 b3 b4 b5 (.slice rd rn rc)) := by
    show BoxAt _ w.heap.size b0 b1 b2 b3 b4 b5 (.slice rd rn rc)
    rw [hW0]
    have h1 := boxAt_new w b0 b1 b2 b3 b4 b5 (.slice rd rn rc)
    simpa using h1
  have HW0 := Lib.hid hW0
  clear hW0
  obtain ⟨B1, hB1⟩ : ∃ B, B = w.heap.size := ⟨_, rfl⟩
  rw [← hB1] at HX0
  go_enter Tryz.func81, Tryz.ntmps81
  go_upto_region 1 with fail
  rw [← HW0.out, ← hB1]
  clear HW0 hB1
  have KS : Hid (∀ W, Below W0.heap.size W0 W → (fun (W : World) => W.cell? ⟨B1, 0, none⟩ = some (.int .i64 b0) ∧ W.cell? ⟨B1, 1, none⟩ = some (.int .i64 b1) ∧ W.cell? ⟨B1, 2, none⟩ = some (.int .i64 b2) ∧ W.cell? ⟨B1, 3, none⟩ = some (.int .i64 b3) ∧ W.cell? ⟨B1, 4, none⟩ = some (.bool b4) ∧ W.cell? ⟨B1, 5, none⟩ = some (.int .i64 b5) ∧ W.cell? ⟨B1, 6, none⟩ = some (.slice rd rn rc) ∧ Below W0.heap.size W0 W) W) := by
    intro W hW
    have hX := HX0.out.on hW
    exact ⟨hX.c0, hX.c1, hX.c2, hX.c3, hX.c4, hX.c5, hX.c6, hW⟩
  refine wp_region_noPanic ?_
  refine wp_region_z [] (fun (W : World) => W.cell? ⟨B1, 0, none⟩ = some (.int .i64 b0) ∧ W.cell? ⟨B1, 1, none⟩ = some (.int .i64 b1) ∧ W.cell? ⟨B1, 2, none⟩ = some (.int .i64 b2) ∧ W.cell? ⟨B1, 3, none⟩ = some (.int .i64 b3) ∧ W.cell? ⟨B1, 4, none⟩ = some (.bool b4) ∧ W.cell? ⟨B1, 5, none⟩ = some (.int .i64 b5) ∧ W.cell? ⟨B1, 6, none⟩ = some (.slice rd rn rc) ∧ Below W0.heap.size W0 W) (by kernel_rfl) ?_
  have hHeld : (fun (W : World) => W.cell? ⟨B1, 0, none⟩ = some (.int .i64 b0) ∧ W.cell? ⟨B1, 1, none⟩ = some (.int .i64 b1) ∧ W.cell? ⟨B1, 2, none⟩ = some (.int .i64 b2) ∧ W.cell? ⟨B1, 3, none⟩ = some (.int .i64 b3) ∧ W.cell? ⟨B1, 4, none⟩ = some (.bool b4) ∧ W.cell? ⟨B1, 5, none⟩ = some (.int .i64 b5) ∧ W.cell? ⟨B1, 6, none⟩ = some (.slice rd rn rc) ∧ Below W0.heap.size W0 W) _ := KS.out _ (Below.refl _ W0).drew
  obtain ⟨u0, hu0⟩ : ∃ u, u = W0.drew := ⟨_, rfl⟩
  have HU0 : Hid (Below W0.heap.size W0 u0) := by show Below _ _ _; rw [hu0]; exact (Below.refl _ W0).drew
  rw [← hu0] at hHeld
  rw [← hu0]
  clear hu0
  refine wpAnyZ_take (i := 0) (oi := ⟨_, _, _, _, _, _⟩) (v := ?_) rfl (by kernel_rfl) (by kernel_rfl) (by kernel_rfl) (by kernel_rfl) (by kernel_rfl) (fun _ _ _ h => h) (Or.inl ⟨by rfl, ?_⟩) (by assumption) ?_
  rotate_left
  · intro W hSw
    (try dsimp only at hSw)
    go_simp
    (try with_reducible rfl)
  (try simp only [Act.put, List.setIfInBounds_toArray, List.set_cons_zero, List.set_cons_succ])
  refine wpAnyZ_take (i := 1) (oi := ⟨_, _, _, _, _, _⟩) (v := ?_) rfl (by kernel_rfl) (by kernel_rfl) (by kernel_rfl) (by kernel_rfl) (by kernel_rfl) (fun _ _ _ h => h) (Or.inl ⟨by rfl, ?_⟩) (by assumption) ?_
  rotate_left
  · intro W hSw
    (try dsimp only at hSw)
    go_simp
    (try with_reducible rfl)
  (try simp only [Act.put, List.setIfInBounds_toArray, List.set_cons_zero, List.set_cons_succ])
  refine wpAnyZ_take (i := 2) (oi := ⟨_, _, _, _, _, _⟩) (v := ?_) rfl (by kernel_rfl) (by kernel_rfl) (by kernel_rfl) (by kernel_rfl) (by kernel_rfl) (fun _ _ _ h => h) (Or.inl ⟨by rfl, ?_⟩) (by assumption) ?_
  rotate_left
  · intro W hSw
    (try dsimp only at hSw)
    go_simp
    (try with_reducible rfl)
  (try simp only [Act.put, List.setIfInBounds_toArray, List.set_cons_zero, List.set_cons_succ])
  refine wpAnyZ_ready (rs := [3]) (by kernel_rfl) (by simp) ?_
  refine AllReadyZ.cons (o := ⟨_, _, _, _, _, _⟩) rfl (fun C hC => ?_) AllReadyZ.nil
  go_simp
  refine (batCount_any u0 b0 b1 b2 b3 b4 b5 rd rn rc (rn : Int) (by rw [if_neg (fun h => h HM.out)])).mono ?_
  rintro e u1 ⟨rfl, hb1⟩
  have HU1 := Lib.hid (HU0.out.trans (hb1.mono HU0.out.size))
  clear hb1
  go_wp2_with fail
  have hHeld : (fun (W : World) => W.cell? ⟨B1, 0, none⟩ = some (.int .i64 b0) ∧ W.cell? ⟨B1, 1, none⟩ = some (.int .i64 b1) ∧ W.cell? ⟨B1, 2, none⟩ = some (.int .i64 b2) ∧ W.cell? ⟨B1, 3, none⟩ = some (.int .i64 b3) ∧ W.cell? ⟨B1, 4, none⟩ = some (.bool b4) ∧ W.cell? ⟨B1, 5, none⟩ = some (.int .i64 b5) ∧ W.cell? ⟨B1, 6, none⟩ = some (.slice rd rn rc) ∧ Below W0.heap.size W0 W) u1 := KS.out _ HU1.out
  refine hC.out _ _ (fun _ => hHeld) (fun _ => ?_)
  clear hC C
  (try simp only [Act.put, List.setIfInBounds_toArray, List.set_cons_zero, List.set_cons_succ])
  refine wpAnyZ_ready (rs := [4]) (by kernel_rfl) (by simp) ?_
  refine AllReadyZ.cons (o := ⟨_, _, _, _, _, _⟩) rfl (fun C hC => ?_) AllReadyZ.nil
  go_simp
  refine (seq_last b3 rn u1 v (by omega) (by omega) HV.out).mono ?_
  rintro e u2 ⟨rfl, rfl⟩
  go_wp2_with fail
  have hHeld : (fun (W : World) => W.cell? ⟨B1, 0, none⟩ = some (.int .i64 b0) ∧ W.cell? ⟨B1, 1, none⟩ = some (.int .i64 b1) ∧ W.cell? ⟨B1, 2, none⟩ = some (.int .i64 b2) ∧ W.cell? ⟨B1, 3, none⟩ = some (.int .i64 b3) ∧ W.cell? ⟨B1, 4, none⟩ = some (.bool b4) ∧ W.cell? ⟨B1, 5, none⟩ = some (.int .i64 b5) ∧ W.cell? ⟨B1, 6, none⟩ = some (.slice rd rn rc) ∧ Below W0.heap.size W0 W) _ := hHeld
  refine hC.out _ _ (fun _ => hHeld) (fun _ => ?_)
  clear hC C
  (try simp only [Act.put, List.setIfInBounds_toArray, List.set_cons_zero, List.set_cons_succ])
  refine wpAnyZ_take (i := 5) (oi := ⟨_, _, _, _, _, _⟩) (v := ?_) rfl (by kernel_rfl) (by kernel_rfl) (by kernel_rfl) (by kernel_rfl) (by kernel_rfl) (fun _ _ _ h => h) (Or.inl ⟨by rfl, ?_⟩) (by assumption) ?_
  rotate_left
  · intro W hSw
    (try dsimp only at hSw)
    go_simp
    (try with_reducible rfl)
  (try simp only [Act.put, List.setIfInBounds_toArray, List.set_cons_zero, List.set_cons_succ])
  refine wpAnyZ_done (by kernel_rfl) ?_ _
  refine NoPanic.normal ?_
  clear hHeld
  go_wp2
  go_ret
  exact ⟨rfl, HB0.out.trans (HU1.out.mono HB0.out.size)⟩
theorem trOk_iff {x : Tr} {r : Bool} (hr : r = true ↔ TrOk x) : r = (decide (0 ≤ gapI x.f x.l) && decide (gapI x.f x.l < 16) && (decide (0 ≤ x.b) && decide (x.b ≤ 1099511627776))) := by
  rw [Bool.eq_iff_iff, hr]
  simp [TrOk, and_assoc]
theorem trNext_iff {y x : Tr} {r : Bool} (hr : r = true ↔ TrNext y x) : r = (decide (y.b < x.b) && followsB y.l x.f) := by
  rw [Bool.eq_iff_iff, hr]
  simp [TrNext]
set_option maxHeartbeats 1000000 in
theorem prElement_any (w : World) (x : Tr) (r : Bool) (hr : r = true ↔ TrOk x) :
    Calls Tryz.prog 141 #[.agg #[.int .i64 x.f, .int .i64 x.l, .int .i64 x.b]] w fun e w' => e = .returned (.bool r) ∧ Below w.heap.size w w' := by
  have HR := Lib.hid (trOk_iff hr)
  clear hr
  obtain ⟨g, hg⟩ : ∃ g, gapI x.f x.l = g := ⟨_, rfl⟩
  rw [hg] at HR
  have HG := Lib.hid hg
  clear hg
  obtain ⟨o, ho⟩ : ∃ o, (decide (0 ≤ x.b) && decide (x.b ≤ 1099511627776)) = o := ⟨_, rfl⟩
  rw [ho] at HR
  have HO := Lib.hid ho
  clear ho
  obtain ⟨W0, hW0⟩ : ∃ W0, W0 = (w.alloc (.cells #[.int .i64 x.f, .int .i64 x.l, .int .i64 x.b] 79)) := ⟨_, rfl⟩
  have HB0 : Hid (Below w.heap.size w W0) := by show Below _ _ _; rw [hW0]; exact (Below.refl _ _).alloc (Nat.le_refl _) _
  have HT0 : Hid (TBox W0 w.heap.size x) := by
    show TBox _ w.heap.size x
    rw [hW0]
    have h1 := tbox_new w x
    simpa using h1
  have HW0 := Lib.hid hW0
  clear hW0
  obtain ⟨B1, hB1⟩ : ∃ B, B = w.heap.size := ⟨_, rfl⟩
  rw [← hB1] at HT0
  go_enter Tryz.func141, Tryz.ntmps141
  go_upto_region 1 with fail
  rw [← HW0.out, ← hB1]
  clear HW0 hB1
  have t0 := HT0.out.c0
  have t1 := HT0.out.c1
  have t2 := HT0.out.c2
  by_cases h0 : 0 ≤ g
  · have hd0 : decide (0 ≤ g) = true := decide_eq_true h0
    by_cases h1 : g < 16
    · have hd1 : decide (g < 16) = true := decide_eq_true h1
      have HE : Hid (r = o) := by show r = o; rw [HR.out, hd0, hd1]; rfl
      clear HR h0 h1
      go_wp2_with fail
      refine (seq_gap x.f x.l _ g HG.out).mono ?_
      rintro e w' ⟨rfl, rfl⟩
      go_wp2_with fail
      refine (prOffset_any _ x.b o HO.out).mono ?_
      rintro e w' ⟨rfl, rfl⟩
      go_wp2
      go_ret
      exact ⟨by rw [HE.out]; rfl, HB0.out⟩
    · have hd1 : decide (g < 16) = false := decide_eq_false h1
      have HE : Hid (r = false) := by show r = _; rw [HR.out, hd0, hd1]; rfl
      clear HR h0 h1
      go_wp2_with fail
      refine (seq_gap x.f x.l _ g HG.out).mono ?_
      rintro e w' ⟨rfl, rfl⟩
      go_wp2
      go_ret
      exact ⟨by rw [HE.out]; rfl, HB0.out⟩
  · have hd0 : decide (0 ≤ g) = false := decide_eq_false h0
    have HE : Hid (r = false) := by show r = _; rw [HR.out, hd0]; rfl
    clear HR h0
    go_wp2_with fail
    refine (seq_gap x.f x.l _ g HG.out).mono ?_
    rintro e w' ⟨rfl, rfl⟩
    go_wp2
    go_ret
    exact ⟨by rw [HE.out]; rfl, HB0.out⟩
theorem prBehind_any (w : World) (y x : Tr) (r : Bool) (hr : r = true ↔ TrNext y x) :
    Calls Tryz.prog 142 #[.agg #[.int .i64 y.f, .int .i64 y.l, .int .i64 y.b], .agg #[.int .i64 x.f, .int .i64 x.l, .int .i64 x.b]] w fun e w' => e = .returned (.bool r) ∧ Below w.heap.size w w' := by
  have HR := Lib.hid (trNext_iff hr)
  clear hr
  obtain ⟨o, ho⟩ : ∃ o, followsB y.l x.f = o := ⟨_, rfl⟩
  rw [ho] at HR
  have HO := Lib.hid ho
  clear ho
  obtain ⟨W0, hW0⟩ : ∃ W0, W0 = ((w.alloc (.cells #[.int .i64 y.f, .int .i64 y.l, .int .i64 y.b] 79)).alloc (.cells #[.int .i64 x.f, .int .i64 x.l, .int .i64 x.b] 79)) := ⟨_, rfl⟩
  have HB0 : Hid (Below w.heap.size w W0) := by show Below _ _ _; rw [hW0]; exact ((Below.refl _ _).alloc (Nat.le_refl _) _).alloc (by simp) _
  have HT0 : Hid (TBox W0 w.heap.size y) := by
    show TBox _ w.heap.size y
    rw [hW0]
    have h1 := tbox_new w y
    have h2 := h1.on ((Below.refl _ _).alloc (Nat.le_refl _) (.cells #[.int .i64 x.f, .int .i64 x.l, .int .i64 x.b] 79))
    simpa using h2
  have HT1 : Hid (TBox W0 (w.heap.size + 1) x) := by
    show TBox _ (w.heap.size + 1) x
    rw [hW0]
    have h1 := tbox_new (w.alloc (.cells #[.int .i64 y.f, .int .i64 y.l, .int .i64 y.b] 79)) x
    simpa using h1
  have HW0 := Lib.hid hW0
  clear hW0
  obtain ⟨B1, hB1⟩ : ∃ B, B = w.heap.size := ⟨_, rfl⟩
  obtain ⟨B2, hB2⟩ : ∃ B, B = w.heap.size + 1 := ⟨_, rfl⟩
  rw [← hB1] at HT0
  rw [← hB2] at HT1
  go_enter Tryz.func142, Tryz.ntmps142
  go_upto_region 1 with fail
  rw [← HW0.out, ← hB2, ← hB1]
  clear HW0 hB1 hB2
  have t0 := HT0.out.c0
  have t1 := HT0.out.c1
  have t2 := HT0.out.c2
  have s0 := HT1.out.c0
  have s1 := HT1.out.c1
  have s2 := HT1.out.c2
  by_cases h0 : y.b < x.b
  · have hd0 : decide (y.b < x.b) = true := decide_eq_true h0
    have HE : Hid (r = o) := by show r = o; rw [HR.out, hd0]; rfl
    clear HR h0
    go_wp2_with fail
    refine (seq_follows y.l x.f _ o HO.out).mono ?_
    rintro e w' ⟨rfl, rfl⟩
    go_wp2
    go_ret
    exact ⟨by rw [HE.out]; rfl, HB0.out⟩
  · have hd0 : decide (y.b < x.b) = false := decide_eq_false h0
    have HE : Hid (r = false) := by show r = _; rw [HR.out, hd0]; rfl
    clear HR h0
    go_wp2
    go_ret
    exact ⟨by rw [HE.out]; rfl, HB0.out⟩
end Go.Proofs.YtgohekjkbgfeeaaGreat
