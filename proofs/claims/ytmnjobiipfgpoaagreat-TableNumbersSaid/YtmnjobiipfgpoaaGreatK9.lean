/- Parts of a proof, merged: PrCheck, PrApply, TcCheck. -/
import Derived.Test.YtmnjobiipfgpoaaGreatK8
import Derived.Test.YtmnjobiipfgpoaaGreatK6
import Derived.Test.YtmnjobiipfgpoaaGreatK3
import Derived.Test.YtmnjobiipfgpoaaGreatK4
namespace Go.Proofs.YtmnjobiipfgpoaaGreat
open Go.RowKit
open Go.SeqMath
open Go.ProdMath
open Go.BatMath hiding AllB getD_lt take_all
set_option linter.unusedVariables false

def markC (known : Bool) (ep op b2 : Int) : Int := if known = false then 16 else if b2 < ep then 14 else if op < 0 then 16 else 0
def laterC (op s : Int) : Int := if 0 ≤ op then 16 else if s ≠ 0 then 15 else 0
def nextC (last : List Tr) (op s : Int) (t : Bool) : Int := if last ≠ [] ∧ followsB (lastSeq last) s = false then 15 else if 0 ≤ op ∧ t = false then 16 else 0
def pickC (r : Option Int) (k : Int) : Int × Int := match r with
  | some v => (v, 0)
  | none => (-1, k)
def GivesErr (w : World) (c : Int) (e : Ending) (w' : World) : Prop := e = .returned (.int .i64 c) ∧ Below w.heap.size w w'
theorem gives_err {w w' : World} {c k : Int} (h : c = k) (hb : Below w.heap.size w w') : GivesErr w c (.returned (.int .i64 k)) w' := ⟨by rw [h], hb⟩
set_option maxRecDepth 100000 in
theorem prMarker_any (w : World) (id ep op : Int) (ad : Option Addr) (n cap : Nat) (known : Bool) (b0 b1 b2 b3 : Int) (b4 : Bool) (b5 : Int) (rd : Option Addr) (rn rc : Nat) (c : Int) (hc : markC known ep op b2 = c) :
    Calls Tryz.prog 56 #[.agg #[.int .i64 id, .int .i64 ep, .slice ad n cap, .int .i64 op], .bool known, .agg #[.int .i64 b0, .int .i64 b1, .int .i64 b2, .int .i64 b3, .bool b4, .int .i64 b5, .slice rd rn rc]] w (GivesErr w c) := by
  have HC := Lib.hid hc
  clear hc
  obtain ⟨W0, hW0⟩ : ∃ W0, W0 = ((w.alloc (.cells #[.int .i64 id, .int .i64 ep, .slice ad n cap, .int .i64 op] 36)).alloc (.cells #[.int .i64 b0, .int .i64 b1, .int .i64 b2, .int .i64 b3, .bool b4, .int .i64 b5, .slice rd rn rc] 30)) := ⟨_, rfl⟩
  have HB0 : Hid (Below w.heap.size w W0) := by show Below _ _ _; rw [hW0]; exact ((Below.refl _ _).alloc (Nat.le_refl _) _).alloc (by simp) _
  have HP0 : Hid (PBox W0 w.heap.size (id) (ep) (.slice ad n cap) (op)) := by
    show PBox _ w.heap.size (id) (ep) (.slice ad n cap) (op)
    rw [hW0]
    have h1 := pbox_new w (id) (ep) (.slice ad n cap) (op)
    have h2 := h1.on ((Below.refl _ _).alloc (Nat.le_refl _) (.cells #[.int .i64 b0, .int .i64 b1, .int .i64 b2, .int .i64 b3, .bool b4, .int .i64 b5, .slice rd rn rc] 30))
    simpa using h2
  have HX1 : Hid (BoxAt W0 (w.heap.size + 1) b0 b1 b2 b3 b4 b5 (.slice rd rn rc)) := by
    show BoxAt _ (w.heap.size + 1) b0 b1 b2 b3 b4 b5 (.slice rd rn rc)
    rw [hW0]
    have h1 := boxAt_new (w.alloc (.cells #[.int .i64 id, .int .i64 ep, .slice ad n cap, .int .i64 op] 36)) b0 b1 b2 b3 b4 b5 (.slice rd rn rc)
    simpa using h1
  have HW0 := Lib.hid hW0
  clear hW0
  obtain ⟨B1, hB1⟩ : ∃ B, B = w.heap.size := ⟨_, rfl⟩
  obtain ⟨B2, hB2⟩ : ∃ B, B = w.heap.size + 1 := ⟨_, rfl⟩
  rw [← hB1] at HP0
  rw [← hB2] at HX1
  go_enter Tryz.func56, Tryz.ntmps56
  go_upto_region 1 with fail
  rw [← HW0.out, ← hB2, ← hB1]
  clear HW0 hB1 hB2
  have q0 := HP0.out.c0
  have q1 := HP0.out.c1
  have q2 := HP0.out.c2
  have q3 := HP0.out.c3
  have p0 := HX1.out.c0
  have p1 := HX1.out.c1
  have p2 := HX1.out.c2
  have p3 := HX1.out.c3
  have p4 := HX1.out.c4
  have p5 := HX1.out.c5
  have p6 := HX1.out.c6
  cases known
  · have HE : Hid (c = 16) := by show c = _; rw [← HC.out]; rfl
    clear HC
    go_wp2
    go_ret
    exact gives_err HE.out HB0.out
  · by_cases h1 : b2 < ep
    · have hd2 : decide (b2 < ep) = true := decide_eq_true h1
      have HE : Hid (c = 14) := by show c = _; rw [← HC.out]; simp [markC, h1]
      clear HC h1
      go_wp2
      go_ret
      exact gives_err HE.out HB0.out
    · have hd2 : decide (b2 < ep) = false := decide_eq_false h1
      by_cases h2 : 0 ≤ op
      · have HD : Hid (decide (0 ≤ op) = true) := decide_eq_true h2
        have HE : Hid (c = 0) := by show c = _; rw [← HC.out]; simp [markC, h1, Int.not_lt.2 h2]
        clear HC h1 h2
        go_wp2_with fail
        refine (prOpen_any W0 id ep op ad n cap true HD.out).mono ?_
        rintro e w1 ⟨rfl, hb1⟩
        have HB1 := Lib.hid (HB0.out.trans (hb1.mono HB0.out.size))
        clear hb1
        go_wp2
        go_ret
        exact gives_err HE.out HB1.out
      · have HD : Hid (decide (0 ≤ op) = false) := decide_eq_false h2
        have HE : Hid (c = 16) := by show c = _; rw [← HC.out]; simp [markC, h1, Int.not_le.1 h2]
        clear HC h1 h2
        go_wp2_with fail
        refine (prOpen_any W0 id ep op ad n cap false HD.out).mono ?_
        rintro e w1 ⟨rfl, hb1⟩
        have HB1 := Lib.hid (HB0.out.trans (hb1.mono HB0.out.size))
        clear hb1
        go_wp2
        go_ret
        exact gives_err HE.out HB1.out
theorem prLater_any (w : World) (id ep op : Int) (ad : Option Addr) (n cap : Nat) (b0 b1 b2 b3 : Int) (b4 : Bool) (b5 : Int) (rd : Option Addr) (rn rc : Nat) (c : Int) (hc : laterC op b3 = c) :
    Calls Tryz.prog 79 #[.agg #[.int .i64 id, .int .i64 ep, .slice ad n cap, .int .i64 op], .agg #[.int .i64 b0, .int .i64 b1, .int .i64 b2, .int .i64 b3, .bool b4, .int .i64 b5, .slice rd rn rc]] w (GivesErr w c) := by
  have HC := Lib.hid hc
  clear hc
  obtain ⟨W0, hW0⟩ : ∃ W0, W0 = ((w.alloc (.cells #[.int .i64 id, .int .i64 ep, .slice ad n cap, .int .i64 op] 36)).alloc (.cells #[.int .i64 b0, .int .i64 b1, .int .i64 b2, .int .i64 b3, .bool b4, .int .i64 b5, .slice rd rn rc] 30)) := ⟨_, rfl⟩
  have HB0 : Hid (Below w.heap.size w W0) := by show Below _ _ _; rw [hW0]; exact ((Below.refl _ _).alloc (Nat.le_refl _) _).alloc (by simp) _
  have HP0 : Hid (PBox W0 w.heap.size (id) (ep) (.slice ad n cap) (op)) := by
    show PBox _ w.heap.size (id) (ep) (.slice ad n cap) (op)
    rw [hW0]
    have h1 := pbox_new w (id) (ep) (.slice ad n cap) (op)
    have h2 := h1.on ((Below.refl _ _).alloc (Nat.le_refl _) (.cells #[.int .i64 b0, .int .i64 b1, .int .i64 b2, .int .i64 b3, .bool b4, .int .i64 b5, .slice rd rn rc] 30))
    simpa using h2
  have HX1 : Hid (BoxAt W0 (w.heap.size + 1) b0 b1 b2 b3 b4 b5 (.slice rd rn rc)) := by
    show BoxAt _ (w.heap.size + 1) b0 b1 b2 b3 b4 b5 (.slice rd rn rc)
    rw [hW0]
    have h1 := boxAt_new (w.alloc (.cells #[.int .i64 id, .int .i64 ep, .slice ad n cap, .int .i64 op] 36)) b0 b1 b2 b3 b4 b5 (.slice rd rn rc)
    simpa using h1
  have HW0 := Lib.hid hW0
  clear hW0
  obtain ⟨B1, hB1⟩ : ∃ B, B = w.heap.size := ⟨_, rfl⟩
  obtain ⟨B2, hB2⟩ : ∃ B, B = w.heap.size + 1 := ⟨_, rfl⟩
  rw [← hB1] at HP0
  rw [← hB2] at HX1
  go_enter Tryz.func79, Tryz.ntmps79
  go_upto_region 1 with fail
  rw [← HW0.out, ← hB2, ← hB1]
  clear HW0 hB1 hB2
  have q0 := HP0.out.c0
  have q1 := HP0.out.c1
  have q2 := HP0.out.c2
  have q3 := HP0.out.c3
  have p0 := HX1.out.c0
  have p1 := HX1.out.c1
  have p2 := HX1.out.c2
  have p3 := HX1.out.c3
  have p4 := HX1.out.c4
  have p5 := HX1.out.c5
  have p6 := HX1.out.c6
  by_cases h2 : 0 ≤ op
  · have HD : Hid (decide (0 ≤ op) = true) := decide_eq_true h2
    have HE : Hid (c = 16) := by show c = _; rw [← HC.out]; simp [laterC, h2]
    clear HC h2
    go_wp2_with fail
    refine (prOpen_any W0 id ep op ad n cap true HD.out).mono ?_
    rintro e w1 ⟨rfl, hb1⟩
    have HB1 := Lib.hid (HB0.out.trans (hb1.mono HB0.out.size))
    clear hb1
    go_wp2
    go_ret
    exact gives_err HE.out HB1.out
  · have HD : Hid (decide (0 ≤ op) = false) := decide_eq_false h2
    by_cases h3 : b3 = 0
    · have hd5 : (b3 == 0) = true := by rw [h3]; rfl
      have hd5n : (b3 != 0) = false := by rw [h3]; rfl
      have HE : Hid (c = 0) := by show c = _; rw [← HC.out]; simp [laterC, h2, h3]
      clear HC h2 h3
      go_wp2_with fail
      refine (prOpen_any W0 id ep op ad n cap false HD.out).mono ?_
      rintro e w1 ⟨rfl, hb1⟩
      have p3 := (HX1.out.on hb1).c3
      have HB1 := Lib.hid (HB0.out.trans (hb1.mono HB0.out.size))
      clear hb1
      go_wp2
      go_ret
      exact gives_err HE.out HB1.out
    · have hd5 : (b3 == 0) = false := beq_false_of_ne h3
      have hd5n : (b3 != 0) = true := by unfold bne; rw [hd5]; rfl
      have HE : Hid (c = 15) := by show c = _; rw [← HC.out]; simp [laterC, h2, h3]
      clear HC h2 h3
      go_wp2_with fail
      refine (prOpen_any W0 id ep op ad n cap false HD.out).mono ?_
      rintro e w1 ⟨rfl, hb1⟩
      have p3 := (HX1.out.on hb1).c3
      have HB1 := Lib.hid (HB0.out.trans (hb1.mono HB0.out.size))
      clear hb1
      go_wp2
      go_ret
      exact gives_err HE.out HB1.out
set_option maxRecDepth 100000 in
set_option maxHeartbeats 4000000 in
theorem prNext_any (w : World) (id ep op : Int) (last : List Tr) (ad : Option Addr) (n cap : Nat) (hl : RowAt trK w ad n cap last) (hn : n ≤ 100000000000) (b0 b1 b2 b3 : Int) (b4 : Bool) (b5 : Int) (rd : Option Addr) (rn rc : Nat) (c : Int) (hc : nextC last op b3 b4 = c) :
    Calls Tryz.prog 81 #[.agg #[.int .i64 id, .int .i64 ep, .slice ad n cap, .int .i64 op], .agg #[.int .i64 b0, .int .i64 b1, .int .i64 b2, .int .i64 b3, .bool b4, .int .i64 b5, .slice rd rn rc]] w (GivesErr w c) := by
  have HC := Lib.hid hc
  clear hc
  obtain ⟨W0, hW0⟩ : ∃ W0, W0 = ((w.alloc (.cells #[.int .i64 id, .int .i64 ep, .slice ad n cap, .int .i64 op] 36)).alloc (.cells #[.int .i64 b0, .int .i64 b1, .int .i64 b2, .int .i64 b3, .bool b4, .int .i64 b5, .slice rd rn rc] 30)) := ⟨_, rfl⟩
  have HB0 : Hid (Below w.heap.size w W0) := by show Below _ _ _; rw [hW0]; exact ((Below.refl _ _).alloc (Nat.le_refl _) _).alloc (by simp) _
  have HP0 : Hid (PBox W0 w.heap.size (id) (ep) (.slice ad n cap) (op)) := by
    show PBox _ w.heap.size (id) (ep) (.slice ad n cap) (op)
    rw [hW0]
    have h1 := pbox_new w (id) (ep) (.slice ad n cap) (op)
    have h2 := h1.on ((Below.refl _ _).alloc (Nat.le_refl _) (.cells #[.int .i64 b0, .int .i64 b1, .int .i64 b2, .int .i64 b3, .bool b4, .int .i64 b5, .slice rd rn rc] 30))
    simpa using h2
  have HX1 : Hid (BoxAt W0 (w.heap.size + 1) b0 b1 b2 b3 b4 b5 (.slice rd rn rc)) := by
    show BoxAt _ (w.heap.size + 1) b0 b1 b2 b3 b4 b5 (.slice rd rn rc)
    rw [hW0]
    have h1 := boxAt_new (w.alloc (.cells #[.int .i64 id, .int .i64 ep, .slice ad n cap, .int .i64 op] 36)) b0 b1 b2 b3 b4 b5 (.slice rd rn rc)
    simpa using h1
  have HW0 := Lib.hid hW0
  clear hW0
  obtain ⟨B1, hB1⟩ : ∃ B, B = w.heap.size := ⟨_, rfl⟩
  obtain ⟨B2, hB2⟩ : ∃ B, B = w.heap.size + 1 := ⟨_, rfl⟩
  rw [← hB1] at HP0
  rw [← hB2] at HX1
  go_enter Tryz.func81, Tryz.ntmps81
  go_upto_region 1 with fail
  rw [← HW0.out, ← hB2, ← hB1]
  clear HW0 hB1 hB2
  have HL0 := Lib.hid (hl.keep HB0.out)
  clear hl
  have q0 := HP0.out.c0
  have q1 := HP0.out.c1
  have q2 := HP0.out.c2
  have q3 := HP0.out.c3
  have p0 := HX1.out.c0
  have p1 := HX1.out.c1
  have p2 := HX1.out.c2
  have p3 := HX1.out.c3
  have p4 := HX1.out.c4
  have p5 := HX1.out.c5
  have p6 := HX1.out.c6
  by_cases h0 : n = 0
  · subst h0
    have hln := HL0.out.length
    have HCE : Hid (c = (if 0 ≤ op ∧ b4 = false then 16 else 0)) := by
      show c = _
      rw [← HC.out]
      unfold nextC
      rw [if_neg (fun h => h.1 (List.eq_nil_of_length_eq_zero hln))]
    clear hln HC
    go_upto_region 2 with fail
    have hb1d : Below W0.heap.size W0 W0.drew := (Below.refl _ W0).drew
    refine wp_region_noPanic ?_
    refine wp_region_z [] (fun (W : World) => True) (by kernel_rfl) ?_
    have hHeld : (fun (W : World) => True) W0.drew := trivial
    obtain ⟨u0, hu0⟩ : ∃ u, u = W0.drew := ⟨_, rfl⟩
    rw [← hu0] at hb1d
    rw [← hu0]
    clear hu0
    have HU := Lib.hid hb1d
    clear hb1d
    refine wpAnyZ_take (i := 0) (oi := ⟨_, _, _, _, _, _⟩) (v := ?_) rfl (by kernel_rfl) (by kernel_rfl) (by kernel_rfl) (by kernel_rfl) (by kernel_rfl) (fun _ _ _ h => h) (Or.inl ⟨by rfl, ?_⟩) (by assumption) ?_
    rotate_left
    · intro W hSw
      (try dsimp only at hSw)
      go_simp
      (try with_reducible rfl)
    (try simp only [Act.put, List.setIfInBounds_toArray, List.set_cons_zero, List.set_cons_succ])
    refine wpAnyZ_take (i := 1) (oi := ⟨_, _, _, _, _, _⟩) (v := ?_) rfl (by kernel_rfl) (by kernel_rfl) (by kernel_rfl) (by kernel_rfl) (by kernel_rfl) (fun _ _ _ h => h) (Or.inl ⟨by rfl, ?_⟩) (by assumption) ?_
    rotate_left
    · intro W hSw
      (try dsimp only at hSw)
      go_simp
      (try with_reducible rfl)
    (try simp only [Act.put, List.setIfInBounds_toArray, List.set_cons_zero, List.set_cons_succ])
    refine wpAnyZ_take (i := 2) (oi := ⟨_, _, _, _, _, _⟩) (v := ?_) rfl (by kernel_rfl) (by kernel_rfl) (by kernel_rfl) (by kernel_rfl) (by kernel_rfl) (fun _ _ _ h => h) (Or.inl ⟨by rfl, ?_⟩) (by assumption) ?_
    rotate_left
    · intro W hSw
      (try dsimp only at hSw)
      go_simp
      (try with_reducible rfl)
    (try simp only [Act.put, List.setIfInBounds_toArray, List.set_cons_zero, List.set_cons_succ])
    refine wpAnyZ_take (i := 3) (oi := ⟨_, _, _, _, _, _⟩) (v := undef) rfl (by kernel_rfl) (by kernel_rfl) (by kernel_rfl) (by kernel_rfl) (by kernel_rfl) (fun _ _ _ h => h) (Or.inr ⟨by rfl, rfl⟩) (by assumption) ?_
    (try simp only [Act.put, List.setIfInBounds_toArray, List.set_cons_zero, List.set_cons_succ])
    refine wpAnyZ_take (i := 4) (oi := ⟨_, _, _, _, _, _⟩) (v := undef) rfl (by kernel_rfl) (by kernel_rfl) (by kernel_rfl) (by kernel_rfl) (by kernel_rfl) (fun _ _ _ h => h) (Or.inr ⟨by rfl, rfl⟩) (by assumption) ?_
    (try simp only [Act.put, List.setIfInBounds_toArray, List.set_cons_zero, List.set_cons_succ])
    refine wpAnyZ_take (i := 5) (oi := ⟨_, _, _, _, _, _⟩) (v := undef) rfl (by kernel_rfl) (by kernel_rfl) (by kernel_rfl) (by kernel_rfl) (by kernel_rfl) (fun _ _ _ h => h) (Or.inr ⟨by rfl, rfl⟩) (by assumption) ?_
    (try simp only [Act.put, List.setIfInBounds_toArray, List.set_cons_zero, List.set_cons_succ])
    refine wpAnyZ_take (i := 6) (oi := ⟨_, _, _, _, _, _⟩) (v := undef) rfl (by kernel_rfl) (by kernel_rfl) (by kernel_rfl) (by kernel_rfl) (by kernel_rfl) (fun _ _ _ h => h) (Or.inr ⟨by rfl, rfl⟩) (by assumption) ?_
    (try simp only [Act.put, List.setIfInBounds_toArray, List.set_cons_zero, List.set_cons_succ])
    refine wpAnyZ_take (i := 7) (oi := ⟨_, _, _, _, _, _⟩) (v := undef) rfl (by kernel_rfl) (by kernel_rfl) (by kernel_rfl) (by kernel_rfl) (by kernel_rfl) (fun _ _ _ h => h) (Or.inr ⟨by rfl, rfl⟩) (by assumption) ?_
    (try simp only [Act.put, List.setIfInBounds_toArray, List.set_cons_zero, List.set_cons_succ])
    refine wpAnyZ_take (i := 8) (oi := ⟨_, _, _, _, _, _⟩) (v := undef) rfl (by kernel_rfl) (by kernel_rfl) (by kernel_rfl) (by kernel_rfl) (by kernel_rfl) (fun _ _ _ h => h) (Or.inr ⟨by rfl, rfl⟩) (by assumption) ?_
    (try simp only [Act.put, List.setIfInBounds_toArray, List.set_cons_zero, List.set_cons_succ])
    refine wpAnyZ_take (i := 9) (oi := ⟨_, _, _, _, _, _⟩) (v := undef) rfl (by kernel_rfl) (by kernel_rfl) (by kernel_rfl) (by kernel_rfl) (by kernel_rfl) (fun _ _ _ h => h) (Or.inr ⟨by rfl, rfl⟩) (by assumption) ?_
    (try simp only [Act.put, List.setIfInBounds_toArray, List.set_cons_zero, List.set_cons_succ])
    refine wpAnyZ_take (i := 10) (oi := ⟨_, _, _, _, _, _⟩) (v := undef) rfl (by kernel_rfl) (by kernel_rfl) (by kernel_rfl) (by kernel_rfl) (by kernel_rfl) (fun _ _ _ h => h) (Or.inr ⟨by rfl, rfl⟩) (by assumption) ?_
    (try simp only [Act.put, List.setIfInBounds_toArray, List.set_cons_zero, List.set_cons_succ])
    refine wpAnyZ_take (i := 11) (oi := ⟨_, _, _, _, _, _⟩) (v := undef) rfl (by kernel_rfl) (by kernel_rfl) (by kernel_rfl) (by kernel_rfl) (by kernel_rfl) (fun _ _ _ h => h) (Or.inr ⟨by rfl, rfl⟩) (by assumption) ?_
    (try simp only [Act.put, List.setIfInBounds_toArray, List.set_cons_zero, List.set_cons_succ])
    refine wpAnyZ_take (i := 12) (oi := ⟨_, _, _, _, _, _⟩) (v := undef) rfl (by kernel_rfl) (by kernel_rfl) (by kernel_rfl) (by kernel_rfl) (by kernel_rfl) (fun _ _ _ h => h) (Or.inr ⟨by rfl, rfl⟩) (by assumption) ?_
    (try simp only [Act.put, List.setIfInBounds_toArray, List.set_cons_zero, List.set_cons_succ])
    refine wpAnyZ_take (i := 13) (oi := ⟨_, _, _, _, _, _⟩) (v := undef) rfl (by kernel_rfl) (by kernel_rfl) (by kernel_rfl) (by kernel_rfl) (by kernel_rfl) (fun _ _ _ h => h) (Or.inr ⟨by rfl, rfl⟩) (by assumption) ?_
    (try simp only [Act.put, List.setIfInBounds_toArray, List.set_cons_zero, List.set_cons_succ])
    refine wpAnyZ_take (i := 14) (oi := ⟨_, _, _, _, _, _⟩) (v := ?_) rfl (by kernel_rfl) (by kernel_rfl) (by kernel_rfl) (by kernel_rfl) (by kernel_rfl) (fun _ _ _ h => h) (Or.inl ⟨by rfl, ?_⟩) (by assumption) ?_
    rotate_left
    · intro W hSw
      (try dsimp only at hSw)
      go_simp
      (try with_reducible rfl)
    (try simp only [Act.put, List.setIfInBounds_toArray, List.set_cons_zero, List.set_cons_succ])
    refine wpAnyZ_done (by kernel_rfl) ?_ _
    refine NoPanic.normal ?_
    clear hHeld
    have HB1 := Lib.hid (HB0.out.trans (HU.out.mono HB0.out.size))
    have HP1 := Lib.hid (HP0.out.on HU.out)
    have HXX := Lib.hid (HX1.out.on HU.out)
    clear q0 q1 q2 q3 p0 p1 p2 p3 p4 p5 p6
    have q0 := HP1.out.c0
    have q1 := HP1.out.c1
    have q2 := HP1.out.c2
    have q3 := HP1.out.c3
    by_cases h3 : 0 ≤ op
    · have HD : Hid (decide (0 ≤ op) = true) := decide_eq_true h3
      go_wp2_with fail
      refine (prOpen_any _ id ep op ad 0 cap true HD.out).mono ?_
      rintro e w2 ⟨rfl, hb2⟩
      have HB2 := Lib.hid (HB1.out.trans (hb2.mono HB1.out.size))
      have p4 := (HXX.out.on hb2).c4
      clear hb2 q0 q1 q2 q3
      cases hb4 : b4
      · have HE : Hid (c = 16) := by show c = _; rw [HCE.out, if_pos ⟨h3, hb4⟩]
        clear HCE h3
        rw [hb4] at p4
        go_wp2
        go_ret
        exact gives_err HE.out HB2.out
      · have HE : Hid (c = 0) := by show c = _; rw [HCE.out, if_neg (fun h => by rw [hb4] at h; cases h.2)]
        clear HCE h3
        rw [hb4] at p4
        go_wp2
        go_ret
        exact gives_err HE.out HB2.out
    · have HD : Hid (decide (0 ≤ op) = false) := decide_eq_false h3
      have HE : Hid (c = 0) := by show c = _; rw [HCE.out, if_neg (fun h => h3 h.1)]
      clear HCE h3
      go_wp2_with fail
      refine (prOpen_any _ id ep op ad 0 cap false HD.out).mono ?_
      rintro e w2 ⟨rfl, hb2⟩
      have HB2 := Lib.hid (HB1.out.trans (hb2.mono HB1.out.size))
      clear hb2 q0 q1 q2 q3
      go_wp2
      go_ret
      exact gives_err HE.out HB2.out
  · obtain ⟨bk, off, x, rfl, hbk, hx, c0, c1, c2⟩ := tr_get HL0.out (i := n - 1) (by omega)
    have hlast : lastSeq last = x.l := by
      have hln := HL0.out.length
      unfold lastSeq
      rw [List.getLast?_eq_getElem?, hln, hx]
    have hne : last ≠ [] := fun h => by rw [h] at hx; cases hx
    obtain ⟨fo, hfo⟩ : ∃ fo, followsB x.l b3 = fo := ⟨_, rfl⟩
    have HFO := Lib.hid hfo
    have HCF : Hid (c = (if fo = false then 15 else if 0 ≤ op ∧ b4 = false then 16 else 0)) := by
      show c = _
      rw [← HC.out]
      unfold nextC
      rw [hlast, hfo]
      simp [hne]
    clear HC hlast hne hfo hx hbk
    have hn0 : decide ((0 : Int) < (n : Int)) = true := decide_eq_true (by omega)
    have hn00 : decide (0 < n) = true := decide_eq_true (by omega)
    have hnp : 0 < n := by omega
    have hi1 : (1 : Int) ≤ (n : Int) := by omega
    have hi2 : (n : Int) - 1 < (n : Int) := by omega
    have hi3 : ((n : Int) - 1).toNat = n - 1 := by omega
    have hi4 : IntKind.i64.wrap ((n : Int) - 1) = (n : Int) - 1 := IntWalk.i64_in _ (by omega)
    have KS : Hid (∀ W, Below W0.heap.size W0 W → (fun (W : World) => W.cell? ⟨B1, 0, none⟩ = some (.int .i64 id) ∧ W.cell? ⟨B1, 1, none⟩ = some (.int .i64 ep) ∧ W.cell? ⟨B1, 2, none⟩ = some (.slice (some ⟨bk, off, none⟩) n cap) ∧ W.cell? ⟨B1, 3, none⟩ = some (.int .i64 op) ∧ W.cell? ⟨B2, 0, none⟩ = some (.int .i64 b0) ∧ W.cell? ⟨B2, 1, none⟩ = some (.int .i64 b1) ∧ W.cell? ⟨B2, 2, none⟩ = some (.int .i64 b2) ∧ W.cell? ⟨B2, 3, none⟩ = some (.int .i64 b3) ∧ W.cell? ⟨B2, 4, none⟩ = some (.bool b4) ∧ W.cell? ⟨B2, 5, none⟩ = some (.int .i64 b5) ∧ W.cell? ⟨B2, 6, none⟩ = some (.slice rd rn rc) ∧ W.cell? ⟨bk, off + (n - 1) * 3 + 1, none⟩ = some (.int .i64 x.l) ∧ Below W0.heap.size W0 W) W) := by
      intro W hW
      have hP := HP0.out.on hW
      have hX := HX1.out.on hW
      refine ⟨hP.c0, hP.c1, hP.c2, hP.c3, hX.c0, hX.c1, hX.c2, hX.c3, hX.c4, hX.c5, hX.c6, ?_, hW⟩
      rw [hW.cell (p := ⟨bk, off + (n - 1) * 3 + 1, none⟩) (World.block_lt_of_cell? _ _ c1)]
      exact c1
    have hb1d : Below W0.heap.size W0 W0.drew := (Below.refl _ W0).drew
    go_upto_region 2 with fail
    refine wp_region_noPanic ?_
    refine wp_region_z [] (fun (W : World) => W.cell? ⟨B1, 0, none⟩ = some (.int .i64 id) ∧ W.cell? ⟨B1, 1, none⟩ = some (.int .i64 ep) ∧ W.cell? ⟨B1, 2, none⟩ = some (.slice (some ⟨bk, off, none⟩) n cap) ∧ W.cell? ⟨B1, 3, none⟩ = some (.int .i64 op) ∧ W.cell? ⟨B2, 0, none⟩ = some (.int .i64 b0) ∧ W.cell? ⟨B2, 1, none⟩ = some (.int .i64 b1) ∧ W.cell? ⟨B2, 2, none⟩ = some (.int .i64 b2) ∧ W.cell? ⟨B2, 3, none⟩ = some (.int .i64 b3) ∧ W.cell? ⟨B2, 4, none⟩ = some (.bool b4) ∧ W.cell? ⟨B2, 5, none⟩ = some (.int .i64 b5) ∧ W.cell? ⟨B2, 6, none⟩ = some (.slice rd rn rc) ∧ W.cell? ⟨bk, off + (n - 1) * 3 + 1, none⟩ = some (.int .i64 x.l) ∧ Below W0.heap.size W0 W) (by kernel_rfl) ?_
    have hHeld : (fun (W : World) => W.cell? ⟨B1, 0, none⟩ = some (.int .i64 id) ∧ W.cell? ⟨B1, 1, none⟩ = some (.int .i64 ep) ∧ W.cell? ⟨B1, 2, none⟩ = some (.slice (some ⟨bk, off, none⟩) n cap) ∧ W.cell? ⟨B1, 3, none⟩ = some (.int .i64 op) ∧ W.cell? ⟨B2, 0, none⟩ = some (.int .i64 b0) ∧ W.cell? ⟨B2, 1, none⟩ = some (.int .i64 b1) ∧ W.cell? ⟨B2, 2, none⟩ = some (.int .i64 b2) ∧ W.cell? ⟨B2, 3, none⟩ = some (.int .i64 b3) ∧ W.cell? ⟨B2, 4, none⟩ = some (.bool b4) ∧ W.cell? ⟨B2, 5, none⟩ = some (.int .i64 b5) ∧ W.cell? ⟨B2, 6, none⟩ = some (.slice rd rn rc) ∧ W.cell? ⟨bk, off + (n - 1) * 3 + 1, none⟩ = some (.int .i64 x.l) ∧ Below W0.heap.size W0 W) _ := KS.out _ hb1d
    obtain ⟨u0, hu0⟩ : ∃ u, u = W0.drew := ⟨_, rfl⟩
    rw [← hu0] at hHeld hb1d
    rw [← hu0]
    clear hu0
    have HU := Lib.hid hb1d
    clear hb1d
    refine wpAnyZ_take (i := 0) (oi := ⟨_, _, _, _, _, _⟩) (v := ?_) rfl (by kernel_rfl) (by kernel_rfl) (by kernel_rfl) (by kernel_rfl) (by kernel_rfl) (fun _ _ _ h => h) (Or.inl ⟨by rfl, ?_⟩) (by assumption) ?_
    rotate_left
    · intro W hSw
      (try dsimp only at hSw)
      go_simp
      (try with_reducible rfl)
    (try simp only [Act.put, List.setIfInBounds_toArray, List.set_cons_zero, List.set_cons_succ])
    refine wpAnyZ_take (i := 1) (oi := ⟨_, _, _, _, _, _⟩) (v := ?_) rfl (by kernel_rfl) (by kernel_rfl) (by kernel_rfl) (by kernel_rfl) (by kernel_rfl) (fun _ _ _ h => h) (Or.inl ⟨by rfl, ?_⟩) (by assumption) ?_
    rotate_left
    · intro W hSw
      (try dsimp only at hSw)
      go_simp
      (try with_reducible rfl)
    (try simp only [Act.put, List.setIfInBounds_toArray, List.set_cons_zero, List.set_cons_succ])
    refine wpAnyZ_take (i := 2) (oi := ⟨_, _, _, _, _, _⟩) (v := ?_) rfl (by kernel_rfl) (by kernel_rfl) (by kernel_rfl) (by kernel_rfl) (by kernel_rfl) (fun _ _ _ h => h) (Or.inl ⟨by rfl, ?_⟩) (by assumption) ?_
    rotate_left
    · intro W hSw
      (try dsimp only at hSw)
      go_simp
      (try with_reducible rfl)
    (try simp only [Act.put, List.setIfInBounds_toArray, List.set_cons_zero, List.set_cons_succ])
    refine wpAnyZ_take (i := 3) (oi := ⟨_, _, _, _, _, _⟩) (v := ?_) rfl (by kernel_rfl) (by kernel_rfl) (by kernel_rfl) (by kernel_rfl) (by kernel_rfl) (fun _ _ _ h => h) (Or.inl ⟨by rfl, ?_⟩) (by assumption) ?_
    rotate_left
    · intro W hSw
      (try dsimp only at hSw)
      go_simp
      (try with_reducible rfl)
    (try simp only [Act.put, List.setIfInBounds_toArray, List.set_cons_zero, List.set_cons_succ])
    refine wpAnyZ_take (i := 4) (oi := ⟨_, _, _, _, _, _⟩) (v := ?_) rfl (by kernel_rfl) (by kernel_rfl) (by kernel_rfl) (by kernel_rfl) (by kernel_rfl) (fun _ _ _ h => h) (Or.inl ⟨by rfl, ?_⟩) (by assumption) ?_
    rotate_left
    · intro W hSw
      (try dsimp only at hSw)
      go_simp
      (try with_reducible rfl)
    (try simp only [Act.put, List.setIfInBounds_toArray, List.set_cons_zero, List.set_cons_succ])
    refine wpAnyZ_take (i := 5) (oi := ⟨_, _, _, _, _, _⟩) (v := ?_) rfl (by kernel_rfl) (by kernel_rfl) (by kernel_rfl) (by kernel_rfl) (by kernel_rfl) (fun _ _ _ h => h) (Or.inl ⟨by rfl, ?_⟩) (by assumption) ?_
    rotate_left
    · intro W hSw
      (try dsimp only at hSw)
      go_simp
      (try with_reducible rfl)
    (try simp only [Act.put, List.setIfInBounds_toArray, List.set_cons_zero, List.set_cons_succ])
    refine wpAnyZ_take (i := 6) (oi := ⟨_, _, _, _, _, _⟩) (v := ?_) rfl (by kernel_rfl) (by kernel_rfl) (by kernel_rfl) (by kernel_rfl) (by kernel_rfl) (fun _ _ _ h => h) (Or.inl ⟨by rfl, ?_⟩) (by assumption) ?_
    rotate_left
    · intro W hSw
      (try dsimp only at hSw)
      go_simp
      (try with_reducible rfl)
    (try simp only [Act.put, List.setIfInBounds_toArray, List.set_cons_zero, List.set_cons_succ])
    refine wpAnyZ_take (i := 7) (oi := ⟨_, _, _, _, _, _⟩) (v := ?_) rfl (by kernel_rfl) (by kernel_rfl) (by kernel_rfl) (by kernel_rfl) (by kernel_rfl) (fun _ _ _ h => h) (Or.inl ⟨by rfl, ?_⟩) (by assumption) ?_
    rotate_left
    · intro W hSw
      (try dsimp only at hSw)
      go_simp
      (try with_reducible rfl)
    (try simp only [Act.put, List.setIfInBounds_toArray, List.set_cons_zero, List.set_cons_succ])
    refine wpAnyZ_take (i := 8) (oi := ⟨_, _, _, _, _, _⟩) (v := ?_) rfl (by kernel_rfl) (by kernel_rfl) (by kernel_rfl) (by kernel_rfl) (by kernel_rfl) (fun _ _ _ h => h) (Or.inl ⟨by rfl, ?_⟩) (by assumption) ?_
    rotate_left
    · intro W hSw
      (try dsimp only at hSw)
      go_simp
      (try with_reducible rfl)
    (try simp only [Act.put, List.setIfInBounds_toArray, List.set_cons_zero, List.set_cons_succ])
    refine wpAnyZ_take (i := 9) (oi := ⟨_, _, _, _, _, _⟩) (v := ?_) rfl (by kernel_rfl) (by kernel_rfl) (by kernel_rfl) (by kernel_rfl) (by kernel_rfl) (fun _ _ _ h => h) (Or.inl ⟨by rfl, ?_⟩) (by assumption) ?_
    rotate_left
    · intro W hSw
      (try dsimp only at hSw)
      go_simp
      (try with_reducible rfl)
    (try simp only [Act.put, List.setIfInBounds_toArray, List.set_cons_zero, List.set_cons_succ])
    refine wpAnyZ_take (i := 10) (oi := ⟨_, _, _, _, _, _⟩) (v := ?_) rfl (by kernel_rfl) (by kernel_rfl) (by kernel_rfl) (by kernel_rfl) (by kernel_rfl) (fun _ _ _ h => h) (Or.inl ⟨by rfl, ?_⟩) (by assumption) ?_
    rotate_left
    · intro W hSw
      (try dsimp only at hSw)
      go_simp
      (try with_reducible rfl)
    (try simp only [Act.put, List.setIfInBounds_toArray, List.set_cons_zero, List.set_cons_succ])
    refine wpAnyZ_take (i := 11) (oi := ⟨_, _, _, _, _, _⟩) (v := ?_) rfl (by kernel_rfl) (by kernel_rfl) (by kernel_rfl) (by kernel_rfl) (by kernel_rfl) (fun _ _ _ h => h) (Or.inl ⟨by rfl, ?_⟩) (by assumption) ?_
    rotate_left
    · intro W hSw
      (try dsimp only at hSw)
      go_simp
      (try with_reducible rfl)
    (try simp only [Act.put, List.setIfInBounds_toArray, List.set_cons_zero, List.set_cons_succ])
    refine wpAnyZ_ready (rs := [12]) (by kernel_rfl) (by simp) ?_
    refine AllReadyZ.cons (o := ⟨_, _, _, _, _, _⟩) rfl (fun C hC => ?_) AllReadyZ.nil
    go_simp
    refine (seq_follows x.l b3 u0 fo HFO.out).mono ?_
    rintro e u1 ⟨rfl, rfl⟩
    go_wp2_with fail
    have hHeld : (fun (W : World) => W.cell? ⟨B1, 0, none⟩ = some (.int .i64 id) ∧ W.cell? ⟨B1, 1, none⟩ = some (.int .i64 ep) ∧ W.cell? ⟨B1, 2, none⟩ = some (.slice (some ⟨bk, off, none⟩) n cap) ∧ W.cell? ⟨B1, 3, none⟩ = some (.int .i64 op) ∧ W.cell? ⟨B2, 0, none⟩ = some (.int .i64 b0) ∧ W.cell? ⟨B2, 1, none⟩ = some (.int .i64 b1) ∧ W.cell? ⟨B2, 2, none⟩ = some (.int .i64 b2) ∧ W.cell? ⟨B2, 3, none⟩ = some (.int .i64 b3) ∧ W.cell? ⟨B2, 4, none⟩ = some (.bool b4) ∧ W.cell? ⟨B2, 5, none⟩ = some (.int .i64 b5) ∧ W.cell? ⟨B2, 6, none⟩ = some (.slice rd rn rc) ∧ W.cell? ⟨bk, off + (n - 1) * 3 + 1, none⟩ = some (.int .i64 x.l) ∧ Below W0.heap.size W0 W) _ := hHeld
    refine hC.out _ _ (fun _ => hHeld) (fun _ => ?_)
    clear hC C
    (try simp only [Act.put, List.setIfInBounds_toArray, List.set_cons_zero, List.set_cons_succ])
    refine wpAnyZ_take (i := 13) (oi := ⟨_, _, _, _, _, _⟩) (v := ?_) rfl (by kernel_rfl) (by kernel_rfl) (by kernel_rfl) (by kernel_rfl) (by kernel_rfl) (fun _ _ _ h => h) (Or.inl ⟨by rfl, ?_⟩) (by assumption) ?_
    rotate_left
    · intro W hSw
      (try dsimp only at hSw)
      go_simp
      (try with_reducible rfl)
    (try simp only [Act.put, List.setIfInBounds_toArray, List.set_cons_zero, List.set_cons_succ])
    refine wpAnyZ_take (i := 14) (oi := ⟨_, _, _, _, _, _⟩) (v := ?_) rfl (by kernel_rfl) (by kernel_rfl) (by kernel_rfl) (by kernel_rfl) (by kernel_rfl) (fun _ _ _ h => h) (Or.inl ⟨by rfl, ?_⟩) (by assumption) ?_
    rotate_left
    · intro W hSw
      (try dsimp only at hSw)
      go_simp
      (try with_reducible rfl)
    (try simp only [Act.put, List.setIfInBounds_toArray, List.set_cons_zero, List.set_cons_succ])
    refine wpAnyZ_done (by kernel_rfl) ?_ _
    refine NoPanic.normal ?_
    clear hHeld
    have HB1 := Lib.hid (HB0.out.trans (HU.out.mono HB0.out.size))
    have HP1 := Lib.hid (HP0.out.on HU.out)
    have HXX := Lib.hid (HX1.out.on HU.out)
    clear q0 q1 q2 q3 p0 p1 p2 p3 p4 p5 p6 KS c0 c1 c2
    cases fo with
    | false =>
      have HE : Hid (c = 15) := HCF.out
      clear HCF
      go_wp2
      go_ret
      exact gives_err HE.out HB1.out
    | true =>
      have HCE : Hid (c = (if 0 ≤ op ∧ b4 = false then 16 else 0)) := HCF.out
      clear HCF
      have q0 := HP1.out.c0
      have q1 := HP1.out.c1
      have q2 := HP1.out.c2
      have q3 := HP1.out.c3
      by_cases h3 : 0 ≤ op
      · have HD : Hid (decide (0 ≤ op) = true) := decide_eq_true h3
        go_wp2_with fail
        refine (prOpen_any _ id ep op (some ⟨bk, off, none⟩) n cap true HD.out).mono ?_
        rintro e w2 ⟨rfl, hb2⟩
        have HB2 := Lib.hid (HB1.out.trans (hb2.mono HB1.out.size))
        have p4 := (HXX.out.on hb2).c4
        clear hb2 q0 q1 q2 q3
        cases hb4 : b4
        · have HE : Hid (c = 16) := by show c = _; rw [HCE.out, if_pos ⟨h3, hb4⟩]
          clear HCE h3
          rw [hb4] at p4
          go_wp2
          go_ret
          exact gives_err HE.out HB2.out
        · have HE : Hid (c = 0) := by show c = _; rw [HCE.out, if_neg (fun h => by rw [hb4] at h; cases h.2)]
          clear HCE h3
          rw [hb4] at p4
          go_wp2
          go_ret
          exact gives_err HE.out HB2.out
      · have HD : Hid (decide (0 ≤ op) = false) := decide_eq_false h3
        have HE : Hid (c = 0) := by show c = _; rw [HCE.out, if_neg (fun h => h3 h.1)]
        clear HCE h3
        go_wp2_with fail
        refine (prOpen_any _ id ep op (some ⟨bk, off, none⟩) n cap false HD.out).mono ?_
        rintro e w2 ⟨rfl, hb2⟩
        have HB2 := Lib.hid (HB1.out.trans (hb2.mono HB1.out.size))
        clear hb2 q0 q1 q2 q3
        go_wp2
        go_ret
        exact gives_err HE.out HB2.out
set_option maxRecDepth 100000 in
set_option maxHeartbeats 4000000 in
theorem prData_any (w : World) (id ep op : Int) (last : List Tr) (ad : Option Addr) (n cap : Nat) (hl : RowAt trK w ad n cap last) (hn : n ≤ 100000000000) (b0 b1 b2 b3 : Int) (b4 : Bool) (b5 : Int) (rd : Option Addr) (rn rc : Nat) (hm : b5 = 0) (hrn : rn ≤ 140737488355328) (c : Int × Int) (hc : (if b2 < ep then (-1, 14) else if ep < b2 then (-1, laterC op b3) else pickC (dupL last b3 rn) (nextC last op b3 b4)) = c) :
    Calls Tryz.prog 57 #[.agg #[.int .i64 id, .int .i64 ep, .slice ad n cap, .int .i64 op], .agg #[.int .i64 b0, .int .i64 b1, .int .i64 b2, .int .i64 b3, .bool b4, .int .i64 b5, .slice rd rn rc]] w (GivesPair w c) := by
  have HC := Lib.hid hc
  have HM := Lib.hid hm
  clear hc hm
  obtain ⟨W0, hW0⟩ : ∃ W0, W0 = ((w.alloc (.cells #[.int .i64 id, .int .i64 ep, .slice ad n cap, .int .i64 op] 36)).alloc (.cells #[.int .i64 b0, .int .i64 b1, .int .i64 b2, .int .i64 b3, .bool b4, .int .i64 b5, .slice rd rn rc] 30)) := ⟨_, rfl⟩
  have HB0 : Hid (Below w.heap.size w W0) := by show Below _ _ _; rw [hW0]; exact ((Below.refl _ _).alloc (Nat.le_refl _) _).alloc (by simp) _
  have HP0 : Hid (PBox W0 w.heap.size (id) (ep) (.slice ad n cap) (op)) := by
    show PBox _ w.heap.size (id) (ep) (.slice ad n cap) (op)
    rw [hW0]
    have h1 := pbox_new w (id) (ep) (.slice ad n cap) (op)
    have h2 := h1.on ((Below.refl _ _).alloc (Nat.le_refl _) (.cells #[.int .i64 b0, .int .i64 b1, .int .i64 b2, .int .i64 b3, .bool b4, .int .i64 b5, .slice rd rn rc] 30))
    simpa using h2
  have HX1 : Hid (BoxAt W0 (w.heap.size + 1) b0 b1 b2 b3 b4 b5 (.slice rd rn rc)) := by
    show BoxAt _ (w.heap.size + 1) b0 b1 b2 b3 b4 b5 (.slice rd rn rc)
    rw [hW0]
    have h1 := boxAt_new (w.alloc (.cells #[.int .i64 id, .int .i64 ep, .slice ad n cap, .int .i64 op] 36)) b0 b1 b2 b3 b4 b5 (.slice rd rn rc)
    simpa using h1
  have HW0 := Lib.hid hW0
  clear hW0
  obtain ⟨B1, hB1⟩ : ∃ B, B = w.heap.size := ⟨_, rfl⟩
  obtain ⟨B2, hB2⟩ : ∃ B, B = w.heap.size + 1 := ⟨_, rfl⟩
  rw [← hB1] at HP0
  rw [← hB2] at HX1
  go_enter Tryz.func57, Tryz.ntmps57
  go_upto_region 1 with fail
  rw [← HW0.out, ← hB2, ← hB1]
  clear HW0 hB1 hB2
  have HL0 := Lib.hid (hl.keep HB0.out)
  clear hl
  have q0 := HP0.out.c0
  have q1 := HP0.out.c1
  have q2 := HP0.out.c2
  have q3 := HP0.out.c3
  have p0 := HX1.out.c0
  have p1 := HX1.out.c1
  have p2 := HX1.out.c2
  have p3 := HX1.out.c3
  have p4 := HX1.out.c4
  have p5 := HX1.out.c5
  have p6 := HX1.out.c6
  by_cases h1 : b2 < ep
  · have hd2 : decide (b2 < ep) = true := decide_eq_true h1
    have HE : Hid (c = (-1, 14)) := by show c = _; rw [← HC.out, if_pos h1]
    clear HC h1
    go_wp2
    go_ret2
    exact gives_pair HE.out HB0.out
  · have hd2 : decide (b2 < ep) = false := decide_eq_false h1
    by_cases h2 : ep < b2
    · have hd3 : decide (ep < b2) = true := decide_eq_true h2
      obtain ⟨k, hk⟩ : ∃ k, laterC op b3 = k := ⟨_, rfl⟩
      have HE : Hid (c = (-1, k)) := by show c = _; rw [← HC.out, if_neg h1, if_pos h2, hk]
      have HK := Lib.hid hk
      clear HC h1 h2 hk
      go_wp2_with fail
      refine (prLater_any W0 id ep op ad n cap b0 b1 b2 b3 b4 b5 rd rn rc k HK.out).mono ?_
      rintro e w1 ⟨rfl, hb1⟩
      have HB1 := Lib.hid (HB0.out.trans (hb1.mono HB0.out.size))
      clear hb1
      go_wp2
      go_ret2
      exact gives_pair HE.out HB1.out
    · have hd3 : decide (ep < b2) = false := decide_eq_false h2
      have heq : b2 = ep := by omega
      obtain ⟨r, hr⟩ : ∃ r, dupL last b3 rn = r := ⟨_, rfl⟩
      have HRR : Hid ((if b2 = ep ∧ b5 = 0 then dupL last b3 rn else none) = r) := by show _ = _; rw [if_pos ⟨heq, HM.out⟩]; exact hr
      have HCC : Hid (c = pickC r (nextC last op b3 b4)) := by show c = _; rw [← HC.out, if_neg h1, if_neg h2, hr]
      clear HC hr heq h1 h2
      go_wp2_with fail
      refine (prDup_any W0 id ep op last ad n cap HL0.out hn b0 b1 b2 b3 b4 b5 rd rn rc hrn r HRR.out).mono ?_
      rintro e w1 ⟨rfl, hb1⟩
      have HP1 := Lib.hid (HP0.out.on hb1)
      have HX2 := Lib.hid (HX1.out.on hb1)
      have HL1 := Lib.hid (HL0.out.keep hb1)
      have HBB := Lib.hid (HB0.out.trans (hb1.mono HB0.out.size))
      clear hb1 HRR q0 q1 q2 q3 p0 p1 p2 p3 p4 p5 p6
      cases r with
      | some v =>
        have HE : Hid (c = (v, 0)) := HCC.out
        clear HCC
        simp only [Option.getD_some, Option.isSome_some]
        go_wp2
        go_ret2
        exact gives_pair HE.out HBB.out
      | none =>
        simp only [Option.getD_none, Option.isSome_none]
        obtain ⟨k, hk⟩ : ∃ k, nextC last op b3 b4 = k := ⟨_, rfl⟩
        have HE : Hid (c = (-1, k)) := by show c = _; rw [HCC.out, hk]; rfl
        have HK := Lib.hid hk
        clear HCC hk
        have q0 := HP1.out.c0
        have q1 := HP1.out.c1
        have q2 := HP1.out.c2
        have q3 := HP1.out.c3
        have p0 := HX2.out.c0
        have p1 := HX2.out.c1
        have p2 := HX2.out.c2
        have p3 := HX2.out.c3
        have p4 := HX2.out.c4
        have p5 := HX2.out.c5
        have p6 := HX2.out.c6
        go_wp2_with fail
        refine (prNext_any w1 id ep op last ad n cap HL1.out hn b0 b1 b2 b3 b4 b5 rd rn rc k HK.out).mono ?_
        rintro e w2 ⟨rfl, hb2⟩
        have HB2 := Lib.hid (HBB.out.trans (hb2.mono HBB.out.size))
        clear hb2
        go_wp2
        go_ret2
        exact gives_pair HE.out HB2.out
theorem check_parts (id ep op : Int) (last : List Tr) (known : Bool) (b0 b1 b2 b3 : Int) (b4 : Bool) (b5 : Int) (recs : List Rc) :
    checkD ⟨id, ep, last, op⟩ known ⟨b0, b1, b2, b3, b4, b5, recs⟩ = (if b5 ≠ 0 then (-1, markC known ep op b2) else if known = false then (-1, 0) else (if b2 < ep then (-1, 14) else if ep < b2 then (-1, laterC op b3) else pickC (dupL last b3 recs.length) (nextC last op b3 b4))) := by
  unfold checkD markC laterC nextC pickC
  simp only
  split
  · repeat' split
    all_goals rfl
  · split
    · rfl
    · split
      · rfl
      · split
        · repeat' split
          all_goals rfl
        · cases dupL last b3 recs.length with
          | some v => rfl
          | none =>
            simp only
            repeat' split
            all_goals rfl
set_option maxRecDepth 100000 in
theorem prCheck_any (w : World) (id ep op : Int) (last : List Tr) (ad : Option Addr) (n cap : Nat) (hl : RowAt trK w ad n cap last) (hn : n ≤ 100000000000) (known : Bool) (b0 b1 b2 b3 : Int) (b4 : Bool) (b5 : Int) (recs : List Rc) (rd : Option Addr) (rn rc : Nat) (hrl : recs.length = rn) (hrn : rn ≤ 140737488355328) (c : Int × Int) (hc : checkD ⟨id, ep, last, op⟩ known ⟨b0, b1, b2, b3, b4, b5, recs⟩ = c) :
    Calls Tryz.prog 36 #[.agg #[.int .i64 id, .int .i64 ep, .slice ad n cap, .int .i64 op], .bool known, .agg #[.int .i64 b0, .int .i64 b1, .int .i64 b2, .int .i64 b3, .bool b4, .int .i64 b5, .slice rd rn rc]] w (GivesPair w c) := by
  rw [check_parts, hrl] at hc
  have HC := Lib.hid hc
  clear hc hrl
  obtain ⟨W0, hW0⟩ : ∃ W0, W0 = ((w.alloc (.cells #[.int .i64 id, .int .i64 ep, .slice ad n cap, .int .i64 op] 36)).alloc (.cells #[.int .i64 b0, .int .i64 b1, .int .i64 b2, .int .i64 b3, .bool b4, .int .i64 b5, .slice rd rn rc] 30)) := ⟨_, rfl⟩
  have HB0 : Hid (Below w.heap.size w W0) := by show Below _ _ _; rw [hW0]; exact ((Below.refl _ _).alloc (Nat.le_refl _) _).alloc (by simp) _
  have HP0 : Hid (PBox W0 w.heap.size (id) (ep) (.slice ad n cap) (op)) := by
    show PBox _ w.heap.size (id) (ep) (.slice ad n cap) (op)
    rw [hW0]
    have h1 := pbox_new w (id) (ep) (.slice ad n cap) (op)
    have h2 := h1.on ((Below.refl _ _).alloc (Nat.le_refl _) (.cells #[.int .i64 b0, .int .i64 b1, .int .i64 b2, .int .i64 b3, .bool b4, .int .i64 b5, .slice rd rn rc] 30))
    simpa using h2
  have HX1 : Hid (BoxAt W0 (w.heap.size + 1) b0 b1 b2 b3 b4 b5 (.slice rd rn rc)) := by
    show BoxAt _ (w.heap.size + 1) b0 b1 b2 b3 b4 b5 (.slice rd rn rc)
    rw [hW0]
    have h1 := boxAt_new (w.alloc (.cells #[.int .i64 id, .int .i64 ep, .slice ad n cap, .int .i64 op] 36)) b0 b1 b2 b3 b4 b5 (.slice rd rn rc)
    simpa using h1
  have HW0 := Lib.hid hW0
  clear hW0
  obtain ⟨B1, hB1⟩ : ∃ B, B = w.heap.size := ⟨_, rfl⟩
  obtain ⟨B2, hB2⟩ : ∃ B, B = w.heap.size + 1 := ⟨_, rfl⟩
  rw [← hB1] at HP0
  rw [← hB2] at HX1
  go_enter Tryz.func36, Tryz.ntmps36
  go_upto_region 1 with fail
  rw [← HW0.out, ← hB2, ← hB1]
  clear HW0 hB1 hB2
  have HL0 := Lib.hid (hl.keep HB0.out)
  clear hl
  have q0 := HP0.out.c0
  have q1 := HP0.out.c1
  have q2 := HP0.out.c2
  have q3 := HP0.out.c3
  have p0 := HX1.out.c0
  have p1 := HX1.out.c1
  have p2 := HX1.out.c2
  have p3 := HX1.out.c3
  have p4 := HX1.out.c4
  have p5 := HX1.out.c5
  have p6 := HX1.out.c6
  by_cases hm : b5 = 0
  · have hd1 : (b5 == 0) = true := by rw [hm]; rfl
    have hd1n : (b5 != 0) = false := by rw [hm]; rfl
    cases known
    · have HE : Hid (c = (-1, 0)) := by show c = _; rw [← HC.out, if_neg (fun h => h hm), if_pos rfl]
      clear HC hm
      go_wp2
      go_ret2
      exact gives_pair HE.out HB0.out
    · have HE : Hid ((if b2 < ep then (-1, 14) else if ep < b2 then (-1, laterC op b3) else pickC (dupL last b3 rn) (nextC last op b3 b4)) = c) := by
        have h3 := HC.out
        rw [if_neg (fun h => h hm), if_neg (fun h => by cases h)] at h3
        exact h3
      have HM := Lib.hid hm
      clear HC hm
      go_wp2_with fail
      refine (prData_any W0 id ep op last ad n cap HL0.out hn b0 b1 b2 b3 b4 b5 rd rn rc HM.out hrn c HE.out).mono ?_
      rintro e w1 ⟨rfl, hb1⟩
      have HB1 := Lib.hid (HB0.out.trans (hb1.mono HB0.out.size))
      clear hb1 HE
      obtain ⟨x, y⟩ := c
      go_wp2
      go_ret2
      exact gives_pair rfl HB1.out
  · have hd1 : (b5 == 0) = false := beq_false_of_ne hm
    have hd1n : (b5 != 0) = true := by unfold bne; rw [hd1]; rfl
    obtain ⟨k, hk⟩ : ∃ k, markC known ep op b2 = k := ⟨_, rfl⟩
    have HE : Hid (c = (-1, k)) := by show c = _; rw [← HC.out, if_pos hm, hk]
    have HK := Lib.hid hk
    clear HC hm hk
    go_wp2_with fail
    refine (prMarker_any W0 id ep op ad n cap known b0 b1 b2 b3 b4 b5 rd rn rc k HK.out).mono ?_
    rintro e w1 ⟨rfl, hb1⟩
    have HB1 := Lib.hid (HB0.out.trans (hb1.mono HB0.out.size))
    clear hb1
    go_wp2
    go_ret2
    exact gives_pair HE.out HB1.out
end Go.Proofs.YtmnjobiipfgpoaaGreat
namespace Go.Proofs.YtmnjobiipfgpoaaGreat
open Go.RowKit
open Go.SeqMath
open Go.ProdMath
open Go.BatMath hiding AllB getD_lt take_all
set_option linter.unusedVariables false

/-- The blocks ahead of the result: the batch that came in, the result's, and how many there are. -/
structure AP (w : World) (xo : Obj) (W : World) : Prop where
  xb : W.heap[w.heap.size + 1]? = some xo
  rb : PBox W (w.heap.size + 2) 0 0 (.slice none 0 0) 0
  sz : W.heap.size = w.heap.size + 3
  bel : Below w.heap.size w W
theorem AP.p {w W : World} {xo : Obj} (h : AP w xo W) (j : Nat) (u : Value) : AP w xo (W.setCell ⟨w.heap.size, j, none⟩ u) :=
  ⟨box_off h.xb (by omega) _, h.rb.off (by omega) _, by rw [size_set]; exact h.sz, h.bel.setCell (Nat.le_refl _) _⟩
theorem resultsPrApply {tmps : Array Value} {B : Nat} {W : World} {b0 b1 b3 : Int} {v : Value} (h : PBox W B b0 b1 v b3) (ht : tmps.getD 6 undef = .pointer (some ⟨B, 0, none⟩)) :
    (results Tryz.f39 tmps).run Tryz.prog W = .ok (.agg #[.int .i64 b0, .int .i64 b1, v, .int .i64 b3]) W := by
  rw [results_cell_one (p := 6) (ty := 36) Tryz.results39, ht]
  have hl := run_loadVar_row (P := Tryz.prog) W B 36 36 _ (0, 0) _ h Tryz.underlying36 rfl (by kernel_rfl)
  simp only [asAddr, Sem.run_pure, Result.andThen, hl]
/-- What the walk knows ahead of the new state. -/
def ApCut (w : World) (xo : Obj) (b2 : Int) (l0 : List Tr) (o0 : Int) (W : World) : Prop :=
  ∃ i1 e1 a1 n1 c1 o1 l1, AP w xo W ∧ PBox W w.heap.size i1 e1 (.slice a1 n1 c1) o1 ∧ RowAt trK W a1 n1 c1 l1 ∧ n1 ≤ 1000000 ∧ Hid ((if b2 = e1 then l1 else []) = l0) ∧ Hid (o1 = o0)
set_option maxRecDepth 100000 in
set_option maxHeartbeats 8000000 in
theorem prApply_any (w : World) (id ep op : Int) (last : List Tr) (ad : Option Addr) (n cap : Nat) (hl : RowAt trK w ad n cap last) (hn : n ≤ 1000000) (known : Bool) (b0 b1 b2 b3 : Int) (b4 : Bool) (b5 : Int) (recs : List Rc) (rd : Option Addr) (rn rc : Nat) (hrl : recs.length = rn) (hrn : rn ≤ 140737488355328) (p : Pd) (hp : applyD ⟨id, ep, last, op⟩ known ⟨b0, b1, b2, b3, b4, b5, recs⟩ = p) :
    Calls Tryz.prog 39 #[.agg #[.int .i64 id, .int .i64 ep, .slice ad n cap, .int .i64 op], .bool known, .agg #[.int .i64 b0, .int .i64 b1, .int .i64 b2, .int .i64 b3, .bool b4, .int .i64 b5, .slice rd rn rc]] w (GivesApply w p) := by
  obtain ⟨xo, hxo⟩ : ∃ xo : Obj, xo = (.cells #[.int .i64 b0, .int .i64 b1, .int .i64 b2, .int .i64 b3, .bool b4, .int .i64 b5, .slice rd rn rc] 30 (0, 0)) := ⟨_, rfl⟩
  obtain ⟨W0, hW0⟩ : ∃ W0, W0 = (((w.alloc (.cells #[.int .i64 id, .int .i64 ep, .slice ad n cap, .int .i64 op] 36)).alloc (.cells #[.int .i64 b0, .int .i64 b1, .int .i64 b2, .int .i64 b3, .bool b4, .int .i64 b5, .slice rd rn rc] 30)).alloc (.cells #[.int .i64 0, .int .i64 0, .slice none 0 0, .int .i64 0] 36)) := ⟨_, rfl⟩
  have HA0 : Hid (AP w xo W0) := by
    show AP _ _ _
    rw [hW0, hxo]
    have e2 := Below.refl w.heap.size w
    refine ⟨?_, ?_, by simp, ((e2.alloc (Nat.le_refl _) _).alloc (by simp) _).alloc (by simp <;> omega) _⟩
    · rw [heap_alloc_old _ _ (by simp)]
      have := heap_alloc_new (w.alloc (.cells #[.int .i64 id, .int .i64 ep, .slice ad n cap, .int .i64 op] 36)) (.cells #[.int .i64 b0, .int .i64 b1, .int .i64 b2, .int .i64 b3, .bool b4, .int .i64 b5, .slice rd rn rc] 30)
      simpa using this
    · show (_ : World).heap[_]? = _
      have := heap_alloc_new ((w.alloc (.cells #[.int .i64 id, .int .i64 ep, .slice ad n cap, .int .i64 op] 36)).alloc (.cells #[.int .i64 b0, .int .i64 b1, .int .i64 b2, .int .i64 b3, .bool b4, .int .i64 b5, .slice rd rn rc] 30)) (.cells #[.int .i64 0, .int .i64 0, .slice none 0 0, .int .i64 0] 36)
      simpa using this
  have HPB : Hid (PBox W0 w.heap.size id ep (.slice ad n cap) op) := by
    show (_ : World).heap[_]? = _
    rw [hW0, heap_alloc_old _ _ (by simp <;> omega), heap_alloc_old _ _ (by simp)]
    exact heap_alloc_new w _
  have HL0 := Lib.hid (hl.keep HA0.out.bel)
  have HPP : Hid (applyD ⟨id, ep, last, op⟩ known ⟨b0, b1, b2, b3, b4, b5, recs⟩ = p) := hp
  have HRL := Lib.hid hrl
  have HXO := Lib.hid hxo
  clear hl hp hrl hxo
  go_enter Tryz.func39, Tryz.ntmps39
  go_upto_if 9 with (fail)
  rw [← hW0]
  clear hW0
  obtain ⟨l0, hl0⟩ : ∃ l0, l0 = oldLast ⟨id, ep, last, op⟩ known ⟨b0, b1, b2, b3, b4, b5, recs⟩ := ⟨_, rfl⟩
  obtain ⟨o0, ho0⟩ : ∃ o0, o0 = oldOpen ⟨id, ep, last, op⟩ known := ⟨_, rfl⟩
  have HPE1 : Hid (b5 ≠ 0 → p = ⟨b1, b2, l0, -1⟩) := by
    intro hm
    rw [← HPP.out, hl0]
    simp [applyD, hm]
  have HPE2 : Hid (b5 = 0 → ∀ oz, oz = (if b4 = true ∧ o0 < 0 then b0 else o0) → p = ⟨b1, b2, newLast l0 ⟨b3, lastI b3 rn, b0⟩, oz⟩) := by
    intro hm oz hoz
    rw [hoz, ← HPP.out, hl0, ho0, ← HRL.out]
    simp [applyD, hm]
  have HLE : Hid (l0 = if known = true ∧ ep = b2 then last else []) := by show l0 = _; rw [hl0]; rfl
  have HOE : Hid (o0 = if known = true then op else -1) := by show o0 = _; rw [ho0]; rfl
  clear hl0 ho0 HPP HRL
  go_cut [] from 8 (fun wx => ApCut w xo b2 l0 o0 wx)
  case first =>
    have q0 := HPB.out.c0
    have q1 := HPB.out.c1
    have q2 := HPB.out.c2
    have q3 := HPB.out.c3
    have f0 := HPB.out.free 0
    have f1 := HPB.out.free 1
    have f2 := HPB.out.free 2
    have f3 := HPB.out.free 3
    cases known
    · go_wp2
      go_meet
      case rel =>
        refine ⟨0, 0, none, 0, 0, -1, [], (((HA0.out.p 0 _).p 1 _).p 2 _).p 3 _, (((HPB.out.s0 0).s1 0).s2 (.slice none 0 0)).s3 (-1), rowAt_nil _, by omega, ?_, ?_⟩
        · show _ = _; rw [HLE.out]; simp
        · show _ = _; rw [HOE.out]; rfl
    · go_wp2
      go_meet
      case rel =>
        refine ⟨id, ep, ad, n, cap, op, last, HA0.out, HPB.out, HL0.out, hn, ?_, ?_⟩
        · show _ = _
          rw [HLE.out]
          by_cases h : b2 = ep
          · rw [if_pos h, if_pos (by simp [h])]
          · rw [if_neg h, if_neg (fun h2 => h h2.2.symm)]
        · show _ = _; rw [HOE.out]; rfl
  case rest =>
    obtain ⟨i1, e1, a1, n1, c1, o1, l1, hap, hpb, hrw, hn1, hle, hoe⟩ := hcut
    have HAP := Lib.hid hap
    have HPB1 := Lib.hid hpb
    have HRW := Lib.hid hrw
    clear hap hpb hrw HA0 HPB HL0 HLE HOE hn
    have hxb : BoxAt wc (w.heap.size + 1) b0 b1 b2 b3 b4 b5 (.slice rd rn rc) := by have := HAP.out.xb; rw [HXO.out] at this; exact this
    have HXB := Lib.hid hxb
    clear hxb
    have x1 := HXB.out.c1
    have x2 := HXB.out.c2
    have y1 := HPB1.out.c1
    go_upto_region 4 with fail
    obtain ⟨W1, hW1⟩ : ∃ W1, W1 = wc.alloc (.cells #[.int .i64 b1, .int .i64 b2, .slice none 0 0, .int .i64 (-1)] 36) := ⟨_, rfl⟩
    obtain ⟨po, hpo⟩ : ∃ po : Obj, po = .cells #[.int .i64 i1, .int .i64 e1, .slice a1 n1 c1, .int .i64 o1] 36 (0, 0) := ⟨_, rfl⟩
    have hb1 : Below wc.heap.size wc W1 := by rw [hW1]; exact (Below.refl _ _).alloc (Nat.le_refl _) _
    have HPB2 := Lib.hid (HPB1.out.on hb1)
    have HA1 : Hid (AS w po xo b1 b2 (.slice none 0 0) (-1) W1) := by
      show AS _ _ _ _ _ _ _ _
      refine ⟨by rw [hpo]; exact HPB2.out, ?_, HAP.out.rb.on hb1, ?_, HAP.out.bel.trans (hb1.mono HAP.out.bel.size)⟩
      · rw [hb1.block _ (lt_of_block HAP.out.xb)]; exact HAP.out.xb
      · have h3 := pbox_new wc b1 b2 (.slice none 0 0) (-1)
        rw [← hW1, HAP.out.sz] at h3
        exact h3
    have HL1 := Lib.hid (HRW.out.keep hb1)
    have HXB1 := Lib.hid (HXB.out.on hb1)
    have hsz := HAP.out.sz
    rw [← hW1, hsz]
    have HPO := Lib.hid hpo
    clear hW1 hb1 hsz x1 x2 y1 HPB1 HRW HXB HAP hpo
    have x2 := HXB1.out.c2
    have y1 := HPB2.out.c1
    have y2 := HPB2.out.c2
    have o2 := HA1.out.ob.c2
    have f2 := HA1.out.ob.free 2
    go_upto_if 20 with (fail)
    go_cut [] from 16 (fun wx => ∃ v, AS w po xo b1 b2 v (-1) wx ∧ OwnRow trK wx (w.heap.size + 4) v l0)
    case first =>
      by_cases hee : b2 = e1
      · have hd : (b2 == e1) = true := by rw [hee]; simp
        have e2 : l0 = l1 := by rw [← hle.out, if_pos hee]
        have HE2 := Lib.hid e2
        have HVE : Hid (OwnRow trK W1 (w.heap.size + 4) (.slice none 0 0) []) := ownRow_nil _ _ _
        clear hee e2
        go_wp2_with (at_builtin; refine list_row (by rfl) trK_ok (.tmp 22) (.tmp 24) rfl (w.heap.size + 4) [] l1 _ rfl HVE.out HA1.out.lt a1 n1 c1 rfl HL1.out (by rw [List.length_nil]; omega) ?_)
        intro v2 w2 hap
        obtain ⟨ad2, cap2, hv2, _, _⟩ := OwnRow.row trK_ok (l := l1) (n := n1) hap.1 HL1.out.length
        subst hv2
        have HO2 : Hid (OwnRow trK w2 (w.heap.size + 4) (.slice ad2 n1 cap2) l1) := hap.1
        have HA2 : Hid (AS w po xo b1 b2 (.slice none 0 0) (-1) w2) := HA1.out.grown hap.2.1 fun k hk => (HVE.out.lt k hk).1
        clear hap HVE o2 f2
        have o2 := HA2.out.ob.c2
        have f2 := HA2.out.ob.free 2
        go_wp2
        go_meet
        case rel => exact ⟨_, HA2.out.s2 (.slice ad2 n1 cap2), by rw [HE2.out]; exact HO2.out.off (by omega) _ _⟩
      · have hd : (b2 == e1) = false := beq_false_of_ne hee
        have e2 : l0 = [] := by rw [← hle.out, if_neg hee]
        clear hee
        go_wp2
        go_meet
        case rel => exact ⟨_, HA1.out, by rw [e2]; exact ownRow_nil _ _ _⟩
    case rest =>
      obtain ⟨v, ha, ho⟩ := hcut
      have HA := Lib.hid ha
      have HO := Lib.hid ho
      have hxb : BoxAt wc (w.heap.size + 1) b0 b1 b2 b3 b4 b5 (.slice rd rn rc) := by have := ha.xb; rw [HXO.out] at this; exact this
      have HXC := Lib.hid hxb
      have hn0 : l0.length ≤ 1000000 := by
        have hll := HL1.out.length
        rw [← hle.out]
        split
        · omega
        · exact Nat.zero_le _
      clear hxb ha ho HXB1 HPB2 HA1 HL1 hle x2 y1 y2 o2 f2
      obtain ⟨n0, hln0⟩ : ∃ n0, l0.length = n0 := ⟨_, rfl⟩
      rw [hln0] at hn0
      obtain ⟨ad0, cap0, hv0, hr0, hk0⟩ := OwnRow.row trK_ok HO.out hln0
      subst hv0
      have HLN := Lib.hid hln0
      have HR0 := Lib.hid hr0
      have HK0 : Hid (∀ a, ad0 = some a → w.heap.size + 4 ≤ a.block ∧ a.block < wc.heap.size) := fun a ha => hk0 a ha
      clear hln0 hr0 hk0
      have p5 := HXC.out.c5
      by_cases hm : b5 = 0
      · have hd : (b5 == 0) = true := by rw [hm]; rfl
        have hdn : (b5 != 0) = false := by rw [hm]; rfl
        have HPE : Hid (∀ oz, oz = (if b4 = true ∧ o0 < 0 then b0 else o0) → p = ⟨b1, b2, newLast l0 ⟨b3, lastI b3 rn, b0⟩, oz⟩) := HPE2.out hm
        obtain ⟨lv, hlv⟩ : ∃ lv, lastI b3 rn = lv := ⟨_, rfl⟩
        rw [hlv] at HPE
        have HLV := Lib.hid hlv
        have HM := Lib.hid hm
        clear HPE1 HPE2 hm hlv
        go_upto_region 8 with fail
        clear p5
        have KS : Hid (∀ W, AS w po xo b1 b2 (.slice ad0 n0 cap0) (-1) W → (fun (W : World) => W.cell? ⟨(w.heap.size + 1), 0, none⟩ = some (.int .i64 b0) ∧ W.cell? ⟨(w.heap.size + 1), 1, none⟩ = some (.int .i64 b1) ∧ W.cell? ⟨(w.heap.size + 1), 2, none⟩ = some (.int .i64 b2) ∧ W.cell? ⟨(w.heap.size + 1), 3, none⟩ = some (.int .i64 b3) ∧ W.cell? ⟨(w.heap.size + 1), 4, none⟩ = some (.bool b4) ∧ W.cell? ⟨(w.heap.size + 1), 5, none⟩ = some (.int .i64 b5) ∧ W.cell? ⟨(w.heap.size + 1), 6, none⟩ = some (.slice rd rn rc) ∧ W.cell? ⟨(w.heap.size + 3), 0, none⟩ = some (.int .i64 b1) ∧ W.cell? ⟨(w.heap.size + 3), 1, none⟩ = some (.int .i64 b2) ∧ W.cell? ⟨(w.heap.size + 3), 2, none⟩ = some (.slice ad0 n0 cap0) ∧ W.cell? ⟨(w.heap.size + 3), 3, none⟩ = some (.int .i64 (-1)) ∧ W.frozen? ⟨w.heap.size + 3, 2, none⟩ = false) W) := by
          intro W hW
          have hX : BoxAt W (w.heap.size + 1) b0 b1 b2 b3 b4 b5 (.slice rd rn rc) := by have := hW.xb; rw [HXO.out] at this; exact this
          exact ⟨hX.c0, hX.c1, hX.c2, hX.c3, hX.c4, hX.c5, hX.c6, hW.ob.c0, hW.ob.c1, hW.ob.c2, hW.ob.c3, hW.ob.free 2⟩
        have hdr : Below wc.heap.size wc wc.drew := (Below.refl _ wc).drew
        have HAd := Lib.hid (HA.out.on hdr)
        have HOd := Lib.hid (HO.out.on hdr)
        refine wp_region_noPanic ?_
        refine wp_region_z [12] (fun (W : World) => W.cell? ⟨(w.heap.size + 1), 0, none⟩ = some (.int .i64 b0) ∧ W.cell? ⟨(w.heap.size + 1), 1, none⟩ = some (.int .i64 b1) ∧ W.cell? ⟨(w.heap.size + 1), 2, none⟩ = some (.int .i64 b2) ∧ W.cell? ⟨(w.heap.size + 1), 3, none⟩ = some (.int .i64 b3) ∧ W.cell? ⟨(w.heap.size + 1), 4, none⟩ = some (.bool b4) ∧ W.cell? ⟨(w.heap.size + 1), 5, none⟩ = some (.int .i64 b5) ∧ W.cell? ⟨(w.heap.size + 1), 6, none⟩ = some (.slice rd rn rc) ∧ W.cell? ⟨(w.heap.size + 3), 0, none⟩ = some (.int .i64 b1) ∧ W.cell? ⟨(w.heap.size + 3), 1, none⟩ = some (.int .i64 b2) ∧ W.cell? ⟨(w.heap.size + 3), 2, none⟩ = some (.slice ad0 n0 cap0) ∧ W.cell? ⟨(w.heap.size + 3), 3, none⟩ = some (.int .i64 (-1)) ∧ W.frozen? ⟨w.heap.size + 3, 2, none⟩ = false) (by kernel_rfl) ?_
        have hHeld : (fun (W : World) => W.cell? ⟨(w.heap.size + 1), 0, none⟩ = some (.int .i64 b0) ∧ W.cell? ⟨(w.heap.size + 1), 1, none⟩ = some (.int .i64 b1) ∧ W.cell? ⟨(w.heap.size + 1), 2, none⟩ = some (.int .i64 b2) ∧ W.cell? ⟨(w.heap.size + 1), 3, none⟩ = some (.int .i64 b3) ∧ W.cell? ⟨(w.heap.size + 1), 4, none⟩ = some (.bool b4) ∧ W.cell? ⟨(w.heap.size + 1), 5, none⟩ = some (.int .i64 b5) ∧ W.cell? ⟨(w.heap.size + 1), 6, none⟩ = some (.slice rd rn rc) ∧ W.cell? ⟨(w.heap.size + 3), 0, none⟩ = some (.int .i64 b1) ∧ W.cell? ⟨(w.heap.size + 3), 1, none⟩ = some (.int .i64 b2) ∧ W.cell? ⟨(w.heap.size + 3), 2, none⟩ = some (.slice ad0 n0 cap0) ∧ W.cell? ⟨(w.heap.size + 3), 3, none⟩ = some (.int .i64 (-1)) ∧ W.frozen? ⟨w.heap.size + 3, 2, none⟩ = false) _ := KS.out _ HAd.out
        obtain ⟨u0, hu0⟩ : ∃ u, u = wc.drew := ⟨_, rfl⟩
        rw [← hu0] at hHeld HAd HOd
        rw [← hu0]
        clear hu0
        refine wpAnyZ_take (i := 0) (oi := ⟨_, _, _, _, _, _⟩) (v := ?_) rfl (by kernel_rfl) (by kernel_rfl) (by kernel_rfl) (by kernel_rfl) (by kernel_rfl) (fun _ _ _ h => h) (Or.inl ⟨by rfl, ?_⟩) (by assumption) ?_
        rotate_left
        · intro W hSw
          (try dsimp only at hSw)
          go_simp
          (try with_reducible rfl)
        (try simp only [Act.put, List.setIfInBounds_toArray, List.set_cons_zero, List.set_cons_succ])
        refine wpAnyZ_take (i := 1) (oi := ⟨_, _, _, _, _, _⟩) (v := ?_) rfl (by kernel_rfl) (by kernel_rfl) (by kernel_rfl) (by kernel_rfl) (by kernel_rfl) (fun _ _ _ h => h) (Or.inl ⟨by rfl, ?_⟩) (by assumption) ?_
        rotate_left
        · intro W hSw
          (try dsimp only at hSw)
          go_simp
          (try with_reducible rfl)
        (try simp only [Act.put, List.setIfInBounds_toArray, List.set_cons_zero, List.set_cons_succ])
        refine wpAnyZ_take (i := 2) (oi := ⟨_, _, _, _, _, _⟩) (v := ?_) rfl (by kernel_rfl) (by kernel_rfl) (by kernel_rfl) (by kernel_rfl) (by kernel_rfl) (fun _ _ _ h => h) (Or.inl ⟨by rfl, ?_⟩) (by assumption) ?_
        rotate_left
        · intro W hSw
          (try dsimp only at hSw)
          go_simp
          (try with_reducible rfl)
        (try simp only [Act.put, List.setIfInBounds_toArray, List.set_cons_zero, List.set_cons_succ])
        refine wpAnyZ_take (i := 3) (oi := ⟨_, _, _, _, _, _⟩) (v := ?_) rfl (by kernel_rfl) (by kernel_rfl) (by kernel_rfl) (by kernel_rfl) (by kernel_rfl) (fun _ _ _ h => h) (Or.inl ⟨by rfl, ?_⟩) (by assumption) ?_
        rotate_left
        · intro W hSw
          (try dsimp only at hSw)
          go_simp
          (try with_reducible rfl)
        (try simp only [Act.put, List.setIfInBounds_toArray, List.set_cons_zero, List.set_cons_succ])
        refine wpAnyZ_take (i := 4) (oi := ⟨_, _, _, _, _, _⟩) (v := ?_) rfl (by kernel_rfl) (by kernel_rfl) (by kernel_rfl) (by kernel_rfl) (by kernel_rfl) (fun _ _ _ h => h) (Or.inl ⟨by rfl, ?_⟩) (by assumption) ?_
        rotate_left
        · intro W hSw
          (try dsimp only at hSw)
          go_simp
          (try with_reducible rfl)
        (try simp only [Act.put, List.setIfInBounds_toArray, List.set_cons_zero, List.set_cons_succ])
        refine wpAnyZ_take (i := 6) (oi := ⟨_, _, _, _, _, _⟩) (v := ?_) rfl (by kernel_rfl) (by kernel_rfl) (by kernel_rfl) (by kernel_rfl) (by kernel_rfl) (fun _ _ _ h => h) (Or.inl ⟨by rfl, ?_⟩) (by assumption) ?_
        rotate_left
        · intro W hSw
          (try dsimp only at hSw)
          go_simp
          (try with_reducible rfl)
        (try simp only [Act.put, List.setIfInBounds_toArray, List.set_cons_zero, List.set_cons_succ])
        refine wpAnyZ_take (i := 7) (oi := ⟨_, _, _, _, _, _⟩) (v := ?_) rfl (by kernel_rfl) (by kernel_rfl) (by kernel_rfl) (by kernel_rfl) (by kernel_rfl) (fun _ _ _ h => h) (Or.inl ⟨by rfl, ?_⟩) (by assumption) ?_
        rotate_left
        · intro W hSw
          (try dsimp only at hSw)
          go_simp
          (try with_reducible rfl)
        (try simp only [Act.put, List.setIfInBounds_toArray, List.set_cons_zero, List.set_cons_succ])
        refine wpAnyZ_ready (rs := [5]) (by kernel_rfl) (by simp) ?_
        refine AllReadyZ.cons (o := ⟨_, _, _, _, _, _⟩) rfl (fun C hC => ?_) AllReadyZ.nil
        go_simp
        refine (prEnd_any u0 b0 b1 b2 b3 b4 b5 rd rn rc HM.out hrn lv HLV.out).mono ?_
        rintro e uz ⟨rfl, hbz⟩
        have HAz := Lib.hid (HAd.out.on hbz)
        have HOz := Lib.hid (HOd.out.on hbz)
        clear hbz
        go_wp2_with fail
        have hHeld : (fun (W : World) => W.cell? ⟨(w.heap.size + 1), 0, none⟩ = some (.int .i64 b0) ∧ W.cell? ⟨(w.heap.size + 1), 1, none⟩ = some (.int .i64 b1) ∧ W.cell? ⟨(w.heap.size + 1), 2, none⟩ = some (.int .i64 b2) ∧ W.cell? ⟨(w.heap.size + 1), 3, none⟩ = some (.int .i64 b3) ∧ W.cell? ⟨(w.heap.size + 1), 4, none⟩ = some (.bool b4) ∧ W.cell? ⟨(w.heap.size + 1), 5, none⟩ = some (.int .i64 b5) ∧ W.cell? ⟨(w.heap.size + 1), 6, none⟩ = some (.slice rd rn rc) ∧ W.cell? ⟨(w.heap.size + 3), 0, none⟩ = some (.int .i64 b1) ∧ W.cell? ⟨(w.heap.size + 3), 1, none⟩ = some (.int .i64 b2) ∧ W.cell? ⟨(w.heap.size + 3), 2, none⟩ = some (.slice ad0 n0 cap0) ∧ W.cell? ⟨(w.heap.size + 3), 3, none⟩ = some (.int .i64 (-1)) ∧ W.frozen? ⟨w.heap.size + 3, 2, none⟩ = false) uz := KS.out _ HAz.out
        refine hC.out _ _ (fun _ => hHeld) (fun _ => ?_)
        clear hC C
        (try simp only [Act.put, List.setIfInBounds_toArray, List.set_cons_zero, List.set_cons_succ])
        refine wpAnyZ_take (i := 8) (oi := ⟨_, _, _, _, _, _⟩) (v := ?_) rfl (by kernel_rfl) (by kernel_rfl) (by kernel_rfl) (by kernel_rfl) (by kernel_rfl) (fun _ _ _ h => h) (Or.inl ⟨by rfl, ?_⟩) (by assumption) ?_
        rotate_left
        · intro W hSw
          (try dsimp only at hSw)
          go_simp
          (try with_reducible rfl)
        (try simp only [Act.put, List.setIfInBounds_toArray, List.set_cons_zero, List.set_cons_succ])
        refine wpAnyZ_ready (rs := [9]) (by kernel_rfl) (by simp) ?_
        refine AllReadyZ.cons (o := ⟨_, _, _, _, _, _⟩) rfl (fun C hC => ?_) AllReadyZ.nil
        go_simp
        obtain ⟨u1, hu1⟩ : ∃ u, u = uz.alloc (.cells #[.int .i64 b3, .int .i64 lv, .int .i64 b0] 74) := ⟨_, rfl⟩
        have hb1 : Below uz.heap.size uz u1 := by rw [hu1]; exact (Below.refl _ _).alloc (Nat.le_refl _) _
        have HA1 := Lib.hid (HAz.out.on hb1)
        have HO1 := Lib.hid (HOz.out.on hb1)
        have HX1 : Hid (RowAt trK u1 (some ⟨uz.heap.size, 0, none⟩) 1 1 [⟨b3, lv, b0⟩]) := by show RowAt _ _ _ _ _ _; rw [hu1]; exact rowAt_lit trK_ok uz [⟨b3, lv, b0⟩] (by simp) _ rfl 1 rfl
        obtain ⟨G0, hG0⟩ : ∃ G, G = uz.heap.size := ⟨_, rfl⟩
        rw [← hG0] at HX1
        rw [← hu1, ← hG0]
        clear hu1 hb1 hG0
        have hHeld : (fun (W : World) => W.cell? ⟨(w.heap.size + 1), 0, none⟩ = some (.int .i64 b0) ∧ W.cell? ⟨(w.heap.size + 1), 1, none⟩ = some (.int .i64 b1) ∧ W.cell? ⟨(w.heap.size + 1), 2, none⟩ = some (.int .i64 b2) ∧ W.cell? ⟨(w.heap.size + 1), 3, none⟩ = some (.int .i64 b3) ∧ W.cell? ⟨(w.heap.size + 1), 4, none⟩ = some (.bool b4) ∧ W.cell? ⟨(w.heap.size + 1), 5, none⟩ = some (.int .i64 b5) ∧ W.cell? ⟨(w.heap.size + 1), 6, none⟩ = some (.slice rd rn rc) ∧ W.cell? ⟨(w.heap.size + 3), 0, none⟩ = some (.int .i64 b1) ∧ W.cell? ⟨(w.heap.size + 3), 1, none⟩ = some (.int .i64 b2) ∧ W.cell? ⟨(w.heap.size + 3), 2, none⟩ = some (.slice ad0 n0 cap0) ∧ W.cell? ⟨(w.heap.size + 3), 3, none⟩ = some (.int .i64 (-1)) ∧ W.frozen? ⟨w.heap.size + 3, 2, none⟩ = false) u1 := KS.out _ HA1.out
        refine hC.out _ _ (fun _ => hHeld) (fun _ => ?_)
        clear hC C
        (try simp only [Act.put, List.setIfInBounds_toArray, List.set_cons_zero, List.set_cons_succ])
        refine wpAnyZ_ready (rs := [10]) (by kernel_rfl) (by simp) ?_
        refine AllReadyZ.cons (o := ⟨_, _, _, _, _, _⟩) rfl (fun C hC => ?_) AllReadyZ.nil
        refine held_row (by rfl) trK_ok (.tmp 32) (.tmp 40) rfl (w.heap.size + 4) l0 [⟨b3, lv, b0⟩] _ rfl HO1.out HA1.out.lt (some ⟨G0, 0, none⟩) 1 1 rfl HX1.out (by rw [HLN.out]; omega) ?_
        rintro v2 u2 hap
        obtain ⟨ad2, cap2, hv2, hr2, hk2⟩ := OwnRow.row trK_ok hap.1 (n := n0 + 1) (by rw [List.length_append, HLN.out]; rfl)
        subst hv2
        have HA2 : Hid (AS w po xo b1 b2 (.slice ad0 n0 cap0) (-1) u2) := HA1.out.grown hap.2.1 fun k hk => (HO1.out.lt k hk).1
        have HR2 := Lib.hid hr2
        have HK2 : Hid (∀ a, ad2 = some a → w.heap.size + 4 ≤ a.block ∧ a.block < u2.heap.size) := fun a ha => hk2 a ha
        clear hap hr2 hk2 HO1 HA1 HX1 HAz HOz
        have hHeld : (fun (W : World) => W.cell? ⟨(w.heap.size + 1), 0, none⟩ = some (.int .i64 b0) ∧ W.cell? ⟨(w.heap.size + 1), 1, none⟩ = some (.int .i64 b1) ∧ W.cell? ⟨(w.heap.size + 1), 2, none⟩ = some (.int .i64 b2) ∧ W.cell? ⟨(w.heap.size + 1), 3, none⟩ = some (.int .i64 b3) ∧ W.cell? ⟨(w.heap.size + 1), 4, none⟩ = some (.bool b4) ∧ W.cell? ⟨(w.heap.size + 1), 5, none⟩ = some (.int .i64 b5) ∧ W.cell? ⟨(w.heap.size + 1), 6, none⟩ = some (.slice rd rn rc) ∧ W.cell? ⟨(w.heap.size + 3), 0, none⟩ = some (.int .i64 b1) ∧ W.cell? ⟨(w.heap.size + 3), 1, none⟩ = some (.int .i64 b2) ∧ W.cell? ⟨(w.heap.size + 3), 2, none⟩ = some (.slice ad0 n0 cap0) ∧ W.cell? ⟨(w.heap.size + 3), 3, none⟩ = some (.int .i64 (-1)) ∧ W.frozen? ⟨w.heap.size + 3, 2, none⟩ = false) u2 := KS.out _ HA2.out
        refine hC.out _ _ (fun _ => hHeld) (fun _ => ?_)
        clear hC C
        (try simp only [Act.put, List.setIfInBounds_toArray, List.set_cons_zero, List.set_cons_succ])
        refine wpAnyZ_take (i := 11) (oi := ⟨_, _, _, _, _, _⟩) (v := ?_) rfl (by kernel_rfl) (by kernel_rfl) (by kernel_rfl) (by kernel_rfl) (by kernel_rfl) (fun _ _ _ h => h) (Or.inl ⟨by rfl, ?_⟩) (by assumption) ?_
        rotate_left
        · intro W hSw
          (try dsimp only at hSw)
          go_simp
          (try with_reducible rfl)
        (try simp only [Act.put, List.setIfInBounds_toArray, List.set_cons_zero, List.set_cons_succ])
        refine wpAnyZ_ready (rs := [12]) (by kernel_rfl) (by simp) ?_
        refine AllReadyZ.cons (o := ⟨_, _, _, _, _, _⟩) rfl (fun C hC => ?_) AllReadyZ.nil
        go_simp
        refine hC.out _ _ (zfree_no (by kernel_rfl)) (fun _ => ?_)
        clear hC C
        (try simp only [Act.put, List.setIfInBounds_toArray, List.set_cons_zero, List.set_cons_succ])
        refine wpAnyZ_done (by kernel_rfl) ?_ _
        refine NoPanic.normal ?_
        clear hHeld
        obtain ⟨w3, hw3⟩ : ∃ w3, w3 = u2.setCell ⟨w.heap.size + 3, 2, none⟩ (.slice ad2 (n0 + 1) cap2) := ⟨_, rfl⟩
        have HA3 : Hid (AS w po xo b1 b2 (.slice ad2 (n0 + 1) cap2) (-1) w3) := by show AS _ _ _ _ _ _ _ _; rw [hw3]; exact HA2.out.s2 _
        have HR3 : Hid (RowAt trK w3 ad2 (n0 + 1) cap2 (l0 ++ [⟨b3, lv, b0⟩])) := by show RowAt _ _ _ _ _ _; rw [hw3]; exact HR2.out.off (fun a ha => by have := (HK2.out a ha).1; omega) _ _
        have HK3 : Hid (∀ a, ad2 = some a → w.heap.size + 4 ≤ a.block ∧ a.block < w3.heap.size) := fun a ha => by rw [hw3, size_set]; exact HK2.out a ha
        rw [← hw3]
        clear hw3 HA2 HR2 HA HAd HOd HR0 HK0 HXC HO HK2
        obtain ⟨k, hk⟩ : ∃ k, k = n0 + 1 - 5 := ⟨_, rfl⟩
        obtain ⟨ad4, cap4, hcut, hr4, hk4⟩ := row_from trK_ok HR3.out k (by omega)
        have hcut : ∀ W, (Instr.slice 34 (.slice ad2 (n0 + 1) cap2) (some (.int .i64 (k : Int))) none none).run Tryz.prog W = .ok (.slice ad4 (n0 + 1 - k) cap4) W := hcut
        have hmx : (if (n0 : Int) + 1 - 5 < 0 then 0 else (n0 : Int) + 1 - 5) = (k : Int) := by split <;> omega
        have HK4 : Hid (∀ a, ad4 = some a → w.heap.size + 4 ≤ a.block ∧ a.block < w3.heap.size) := fun a ha => by
          obtain ⟨a0, h0, h1⟩ := hk4 a ha
          rw [h1]; exact HK3.out a0 h0
        obtain ⟨l4, hl4⟩ : ∃ l4, l4 = (l0 ++ [(⟨b3, lv, b0⟩ : Tr)]).drop k := ⟨_, rfl⟩
        have HPF : Hid (∀ oz, oz = (if b4 = true ∧ o1 < 0 then b0 else o1) → p = ⟨b1, b2, l4, oz⟩) := by
          intro oz hoz
          rw [hoe.out] at hoz
          rw [HPE.out oz hoz, hl4, hk]
          unfold newLast
          rw [HLN.out]
        rw [← hl4] at hr4
        have HR4 := Lib.hid hr4
        have HKK := Lib.hid hk
        clear hr4 hk4 hl4 HPE HR3 HK3 hk
        have o0_ := HA3.out.ob.c2
        have g2 := HA3.out.ob.free 2
        go_upto_region 10 with fail
        obtain ⟨n4, hn4⟩ : ∃ n4, n4 = n0 + 1 - k := ⟨_, rfl⟩
        rw [← hn4] at HR4
        rw [← hn4]
        obtain ⟨w4, hw4⟩ : ∃ w4, w4 = w3.setCell ⟨w.heap.size + 3, 2, none⟩ (.slice ad4 n4 cap4) := ⟨_, rfl⟩
        have HA4 : Hid (AS w po xo b1 b2 (.slice ad4 n4 cap4) (-1) w4) := by show AS _ _ _ _ _ _ _ _; rw [hw4]; exact HA3.out.s2 _
        have HR5 : Hid (RowAt trK w4 ad4 n4 cap4 l4) := by show RowAt _ _ _ _ _ _; rw [hw4]; exact HR4.out.off (fun a ha => by have := (HK4.out a ha).1; omega) _ _
        have HK5 : Hid (∀ a, ad4 = some a → w.heap.size + 4 ≤ a.block ∧ a.block < w4.heap.size) := fun a ha => by rw [hw4, size_set]; exact HK4.out a ha
        rw [← hw4]
        clear hw4 HA3 HR4 HK4 hcut hmx hn4 o0_ g2 KS
        have HPC : Hid (PBox w4 w.heap.size i1 e1 (.slice a1 n1 c1) o1) := by show (_ : World).heap[_]? = _; rw [HA4.out.pb, HPO.out]
        have y3 := HPC.out.c3
        have g3 := HA4.out.ob.free 3
        have oc3 := HA4.out.ob.c3
        go_upto_region 11 with fail
        obtain ⟨w5, hw5⟩ : ∃ w5, w5 = w4.setCell ⟨w.heap.size + 3, 3, none⟩ (.int .i64 o1) := ⟨_, rfl⟩
        have HA5 : Hid (AS w po xo b1 b2 (.slice ad4 n4 cap4) o1 w5) := by show AS _ _ _ _ _ _ _ _; rw [hw5]; exact HA4.out.s3 _
        have HR6 : Hid (RowAt trK w5 ad4 n4 cap4 l4) := by show RowAt _ _ _ _ _ _; rw [hw5]; exact HR5.out.off (fun a ha => by have := (HK5.out a ha).1; omega) _ _
        have HK6 : Hid (∀ a, ad4 = some a → w.heap.size + 4 ≤ a.block ∧ a.block < w5.heap.size) := fun a ha => by rw [hw5, size_set]; exact HK5.out a ha
        rw [← hw5]
        clear hw5 HA4 HR5 HK5 y3 g3 oc3 HPC
        have HPC : Hid (PBox w5 w.heap.size i1 e1 (.slice a1 n1 c1) o1) := by show (_ : World).heap[_]? = _; rw [HA5.out.pb, HPO.out]
        have hX : BoxAt w5 (w.heap.size + 1) b0 b1 b2 b3 b4 b5 (.slice rd rn rc) := by have := HA5.out.xb; rw [HXO.out] at this; exact this
        have p4 := hX.c4
        cases b4
        · have HP : Hid (p = ⟨b1, b2, l4, o1⟩) := HPF.out o1 (by simp)
          clear HPF hX
          have oc0 := HA5.out.ob.c0
          have g0 := HA5.out.ob.free 0
          have r0 := HA5.out.rb.c0
          have f0 := HA5.out.rb.free 0
          have oc1 := HA5.out.ob.c1
          have g1 := HA5.out.ob.free 1
          have r1 := HA5.out.rb.c1
          have f1 := HA5.out.rb.free 1
          have oc2 := HA5.out.ob.c2
          have g2 := HA5.out.ob.free 2
          have r2 := HA5.out.rb.c2
          have f2 := HA5.out.rb.free 2
          have oc3 := HA5.out.ob.c3
          have g3 := HA5.out.ob.free 3
          have r3 := HA5.out.rb.c3
          have f3 := HA5.out.rb.free 3
          go_wp2
          exact bodyPost_ret (resultsPrApply ((((HA5.out.rb.s0 b1).s1 b2).s2 (.slice ad4 n4 cap4)).s3 o1) rfl) rfl (gives_apply HA5.out HP.out HR6.out HK6.out)
        · have y0 := HPC.out.c0
          have y1 := HPC.out.c1
          have y2 := HPC.out.c2
          have y3 := HPC.out.c3
          clear hX
          by_cases hlt : 0 ≤ o1
          · have HD : Hid (decide (0 ≤ o1) = true) := decide_eq_true hlt
            have HP : Hid (p = ⟨b1, b2, l4, o1⟩) := HPF.out o1 (by simp [Int.not_lt.2 hlt])
            clear HPF hlt
            go_wp2_with fail
            refine (prOpen_any w5 i1 e1 o1 a1 n1 c1 true HD.out).mono ?_
            rintro e w6 ⟨rfl, hb6⟩
            have HA6 := Lib.hid (HA5.out.on hb6)
            have HR7 := Lib.hid (HR6.out.keep hb6)
            have HK7 : Hid (∀ a, ad4 = some a → w.heap.size + 4 ≤ a.block ∧ a.block < w6.heap.size) := fun a ha => ⟨(HK6.out a ha).1, Nat.lt_of_lt_of_le (HK6.out a ha).2 hb6.size⟩
            clear hb6 HA5 HR6 HK6 y0 y1 y2 y3 p4 HPC
            have oc0 := HA6.out.ob.c0
            have g0 := HA6.out.ob.free 0
            have r0 := HA6.out.rb.c0
            have f0 := HA6.out.rb.free 0
            have oc1 := HA6.out.ob.c1
            have g1 := HA6.out.ob.free 1
            have r1 := HA6.out.rb.c1
            have f1 := HA6.out.rb.free 1
            have oc2 := HA6.out.ob.c2
            have g2 := HA6.out.ob.free 2
            have r2 := HA6.out.rb.c2
            have f2 := HA6.out.rb.free 2
            have oc3 := HA6.out.ob.c3
            have g3 := HA6.out.ob.free 3
            have r3 := HA6.out.rb.c3
            have f3 := HA6.out.rb.free 3
            go_wp2
            exact bodyPost_ret (resultsPrApply ((((HA6.out.rb.s0 b1).s1 b2).s2 (.slice ad4 n4 cap4)).s3 o1) rfl) rfl (gives_apply HA6.out HP.out HR7.out HK7.out)
          · have HD : Hid (decide (0 ≤ o1) = false) := decide_eq_false hlt
            have HP : Hid (p = ⟨b1, b2, l4, b0⟩) := HPF.out b0 (by simp [Int.not_le.1 hlt])
            clear HPF hlt
            go_wp2_with fail
            refine (prOpen_any w5 i1 e1 o1 a1 n1 c1 false HD.out).mono ?_
            rintro e w6 ⟨rfl, hb6⟩
            have HA6 := Lib.hid (HA5.out.on hb6)
            have HR7 := Lib.hid (HR6.out.keep hb6)
            have HK7 : Hid (∀ a, ad4 = some a → w.heap.size + 4 ≤ a.block ∧ a.block < w6.heap.size) := fun a ha => ⟨(HK6.out a ha).1, Nat.lt_of_lt_of_le (HK6.out a ha).2 hb6.size⟩
            have hX : BoxAt w6 (w.heap.size + 1) b0 b1 b2 b3 true b5 (.slice rd rn rc) := by have := HA6.out.xb; rw [HXO.out] at this; exact this
            clear hb6 HA5 HR6 HK6 y0 y1 y2 y3 p4 HPC
            have p0 := hX.c0
            clear hX
            have oc0 := HA6.out.ob.c0
            have g0 := HA6.out.ob.free 0
            have r0 := HA6.out.rb.c0
            have f0 := HA6.out.rb.free 0
            have oc1 := HA6.out.ob.c1
            have g1 := HA6.out.ob.free 1
            have r1 := HA6.out.rb.c1
            have f1 := HA6.out.rb.free 1
            have oc2 := HA6.out.ob.c2
            have g2 := HA6.out.ob.free 2
            have r2 := HA6.out.rb.c2
            have f2 := HA6.out.rb.free 2
            have oc3 := HA6.out.ob.c3
            have g3 := HA6.out.ob.free 3
            have r3 := HA6.out.rb.c3
            have f3 := HA6.out.rb.free 3
            go_wp2
            exact bodyPost_ret (resultsPrApply (((((HA6.out.s3 b0).rb.s0 b1).s1 b2).s2 (.slice ad4 n4 cap4)).s3 b0) rfl) rfl (gives_apply (HA6.out.s3 b0) HP.out (HR7.out.off (fun a ha => by have := (HK7.out a ha).1; omega) _ _) (fun a ha => by rw [size_set]; exact HK7.out a ha))
      · have hd : (b5 == 0) = false := beq_false_of_ne hm
        have hdn : (b5 != 0) = true := by unfold bne; rw [hd]; rfl
        have HPE := Lib.hid (HPE1.out hm)
        clear HPE1 HPE2 hm
        have oc0 := HA.out.ob.c0
        have g0 := HA.out.ob.free 0
        have r0 := HA.out.rb.c0
        have f0 := HA.out.rb.free 0
        have oc1 := HA.out.ob.c1
        have g1 := HA.out.ob.free 1
        have r1 := HA.out.rb.c1
        have f1 := HA.out.rb.free 1
        have oc2 := HA.out.ob.c2
        have g2 := HA.out.ob.free 2
        have r2 := HA.out.rb.c2
        have f2 := HA.out.rb.free 2
        have oc3 := HA.out.ob.c3
        have g3 := HA.out.ob.free 3
        have r3 := HA.out.rb.c3
        have f3 := HA.out.rb.free 3
        go_wp2
        exact bodyPost_ret (resultsPrApply ((((HA.out.rb.s0 b1).s1 b2).s2 (.slice ad0 n0 cap0)).s3 (-1)) rfl) rfl (gives_apply HA.out HPE.out HR0.out HK0.out)
end Go.Proofs.YtmnjobiipfgpoaaGreat
namespace Go.Proofs.YtmnjobiipfgpoaaGreat
open Go.RowKit
open Go.SeqMath
open Go.ProdMath
open Go.BatMath hiding AllB getD_lt take_all
set_option linter.unusedVariables false

theorem right_prod {b : Bat} (h : rightE b = 0) : b.prod = -1 ∨ 0 ≤ b.prod := by
  unfold rightE at h
  split at h
  · omega
  · split at h
    · split at h
      · rename_i h2; exact .inr (head_of h2.2.1).1
      · omega
    · split at h
      · rename_i h2
        rcases h2.1 with h3 | h3
        · exact .inl (none_of h3).1
        · exact .inr (head_of h3.1).1
      · omega
set_option maxRecDepth 100000 in
set_option maxHeartbeats 8000000 in
theorem tcCheck_any (w : World) (kt km : Nat) (ms : List PM) (h : TcOk w kt km ms) (hasc : Asc (pds ms)) (hfew : fewP (pds ms)) (b : Bat) (rd : Option Addr) (rn rc : Nat) (hr : RecsAt w rd rn rc b.recs) (ht : TextsOk b.recs) (hrn : rn ≤ 140737488355328) (hwf : b.prod ≤ 9223372036854775807) (c : Int × Int) (hc : tcheckD (pds ms) b = c) :
    Calls Tryz.prog 18 #[.pointer (some ⟨kt, 0, none⟩), .agg #[.int .i64 b.base, .int .i64 b.prod, .int .i64 b.epoch, .int .i64 b.seq, .bool b.txn, .int .i64 b.marker, .slice rd rn rc]] w (GivesPair w c) := by
  obtain ⟨b0, b1, b2, b3, b4, b5, recs⟩ := b
  simp only at hr ht hwf
  simp only
  obtain ⟨W0, hW0⟩ : ∃ W0, W0 = w.alloc (.cells #[.int .i64 b0, .int .i64 b1, .int .i64 b2, .int .i64 b3, .bool b4, .int .i64 b5, .slice rd rn rc] 30) := ⟨_, rfl⟩
  have HB0 : Hid (Below w.heap.size w W0) := by show Below _ _ _; rw [hW0]; exact (Below.refl _ _).alloc (Nat.le_refl _) _
  have HX0 : Hid (BoxAt W0 w.heap.size b0 b1 b2 b3 b4 b5 (.slice rd rn rc)) := by show BoxAt _ _ _ _ _ _ _ _ _; rw [hW0]; exact boxAt_new w _ _ _ _ _ _ _
  have HT0 := Lib.hid (h.keep HB0.out)
  have HRE0 := Lib.hid (hr.keep HB0.out)
  have hrl := hr.length
  have HC : Hid (tcheckD (pds ms) ⟨b0, b1, b2, b3, b4, b5, recs⟩ = c) := hc
  have HF := Lib.hid hfew
  have HAS := Lib.hid hasc
  have HTX := Lib.hid ht
  have HW0 := Lib.hid hW0
  clear h hr hc hfew hW0 ht hasc
  obtain ⟨B, hB⟩ : ∃ B, B = w.heap.size := ⟨_, rfl⟩
  rw [← hB] at HX0
  obtain ⟨r, hre⟩ : ∃ r, rightE ⟨b0, b1, b2, b3, b4, b5, recs⟩ = r := ⟨_, rfl⟩
  have HRE := Lib.hid hre
  clear hre
  go_enter Tryz.func18, Tryz.ntmps18
  go_upto_region 1 with fail
  rw [← HW0.out, ← hB]
  clear hB HW0
  have p0 := HX0.out.c0
  have p1 := HX0.out.c1
  have p2 := HX0.out.c2
  have p3 := HX0.out.c3
  have p4 := HX0.out.c4
  have p5 := HX0.out.c5
  have p6 := HX0.out.c6
  go_wp2_with fail
  have CR := batRight_any W0 ⟨b0, b1, b2, b3, b4, b5, recs⟩ rd rn rc HRE0.out HTX.out hrn
  rw [HRE.out] at CR
  refine CR.mono ?_
  clear CR
  rintro e w1 ⟨rfl, hb1⟩
  have HB1 := Lib.hid (HB0.out.trans (hb1.mono HB0.out.size))
  have HX1 := Lib.hid (HX0.out.on hb1)
  have HT1 := Lib.hid (HT0.out.keep hb1)
  clear hb1 p0 p1 p2 p3 p4 p5 p6
  by_cases hz : r = 0
  · have hd : (r != 0) = false := by rw [hz]; rfl
    have p1 := HX1.out.c1
    have HRP := Lib.hid (right_prod (show rightE ⟨b0, b1, b2, b3, b4, b5, recs⟩ = 0 by rw [HRE.out, hz]))
    by_cases hn : b1 = -1
    · have hd2 : (b1 == -1) = true := by rw [hn]; rfl
      have HEND : Hid (c = (-1, 0)) := by
        show c = _
        rw [← HC.out]
        unfold tcheckD
        rw [HRE.out, if_neg (by simp [hz]), if_pos (by show b1 < 0; omega)]
      clear HC hz hn HRP
      go_wp2
      go_ret2
      exact gives_pair HEND.out HB1.out
    · have hd2 : (b1 == -1) = false := beq_false_of_ne hn
      have hn0 : 0 ≤ b1 := by
        rcases HRP.out with h | h
        · exact absurd h hn
        · exact h
      obtain ⟨p, kn, pd, pn, pc, hp, hk, hn5, hlk, _, hrow⟩ := tc_look ms b1 (by omega) hwf HF.out
      have HCC : Hid (checkD p kn ⟨b0, b1, b2, b3, b4, b5, recs⟩ = c) := by
        show _ = _
        rw [← HC.out, ← hp, ← hk]
        unfold tcheckD
        rw [HRE.out, if_neg (by simp [hz]), if_neg (by show ¬ b1 < 0; omega)]
        have h3 := has_look HAS.out b1
        show _ = checkD (getD (pds ms) b1) (hasD (pds ms) b1) _
        rw [h3.1, h3.2]
      have HLK := Lib.hid hlk
      have HRO := Lib.hid hrow
      have KS : Hid (∀ V, Below w1.heap.size w1 V → (fun (V : World) => V.cell? ⟨kt, 0, none⟩ = some (.map (some km)) ∧ V.cell? ⟨B, 1, none⟩ = some (.int .i64 b1) ∧ TcMap V km ms) V) := fun V hV => ⟨(HT1.out.keep hV).box.c0, (HX1.out.on hV).c1, (HT1.out.keep hV).map⟩
      have hdrw : Below w1.heap.size w1 w1.drew := (Below.refl _ w1).drew
      clear HC hz hn hp hk hlk hrow HRP
      obtain ⟨pid, pep, pl, po⟩ := p
      simp only at HCC HLK HRO
      go_upto_region 6 with fail
      clear p1
      refine wp_region_noPanic ?_
      refine wp_region_z [] (fun (V : World) => V.cell? ⟨kt, 0, none⟩ = some (.map (some km)) ∧ V.cell? ⟨B, 1, none⟩ = some (.int .i64 b1) ∧ TcMap V km ms) (by kernel_rfl) ?_
      have hHeld : (fun (V : World) => V.cell? ⟨kt, 0, none⟩ = some (.map (some km)) ∧ V.cell? ⟨B, 1, none⟩ = some (.int .i64 b1) ∧ TcMap V km ms) _ := KS.out _ hdrw
      obtain ⟨u0, hu0⟩ : ∃ u, u = w1.drew := ⟨_, rfl⟩
      rw [← hu0] at hHeld hdrw
      rw [← hu0]
      clear hu0
      have HU0 := Lib.hid hdrw
      clear hdrw
      refine wpAnyZ_take (i := 0) (oi := ⟨_, _, _, _, _, _⟩) (v := ?_) rfl (by kernel_rfl) (by kernel_rfl) (by kernel_rfl) (by kernel_rfl) (by kernel_rfl) (fun _ _ _ h => h) (Or.inl ⟨by rfl, ?_⟩) (by assumption) ?_
      rotate_left
      · intro W hSw
        (try dsimp only at hSw)
        go_simp
        (try with_reducible rfl)
      (try simp only [Act.put, List.setIfInBounds_toArray, List.set_cons_zero, List.set_cons_succ])
      refine wpAnyZ_take (i := 1) (oi := ⟨_, _, _, _, _, _⟩) (v := ?_) rfl (by kernel_rfl) (by kernel_rfl) (by kernel_rfl) (by kernel_rfl) (by kernel_rfl) (fun _ _ _ h => h) (Or.inl ⟨by rfl, ?_⟩) (by assumption) ?_
      rotate_left
      · intro W hSw
        (try dsimp only at hSw)
        go_simp
        (try with_reducible rfl)
      (try simp only [Act.put, List.setIfInBounds_toArray, List.set_cons_zero, List.set_cons_succ])
      refine wpAnyZ_take (i := 2) (oi := ⟨_, _, _, _, _, _⟩) (v := ?_) rfl (by kernel_rfl) (by kernel_rfl) (by kernel_rfl) (by kernel_rfl) (by kernel_rfl) (fun _ _ _ h => h) (Or.inl ⟨by rfl, ?_⟩) (by assumption) ?_
      rotate_left
      · intro W hSw
        (try dsimp only at hSw)
        go_simp
        (try with_reducible rfl)
      (try simp only [Act.put, List.setIfInBounds_toArray, List.set_cons_zero, List.set_cons_succ])
      refine wpAnyZ_take (i := 3) (oi := ⟨_, _, _, _, _, _⟩) (v := ?_) rfl (by kernel_rfl) (by kernel_rfl) (by kernel_rfl) (by kernel_rfl) (by kernel_rfl) (fun _ _ _ h => h) (Or.inl ⟨by rfl, ?_⟩) (by assumption) ?_
      rotate_left
      · intro W hSw
        (try dsimp only at hSw)
        go_simp
        (try with_reducible rfl)
      (try simp only [Act.put, List.setIfInBounds_toArray, List.set_cons_zero, List.set_cons_succ])
      refine wpAnyZ_take (i := 4) (oi := ⟨_, _, _, _, _, _⟩) (v := ?_) rfl (by kernel_rfl) (by kernel_rfl) (by kernel_rfl) (by kernel_rfl) (by kernel_rfl) (fun _ _ _ h => h) (Or.inl ⟨by rfl, ?_⟩) (by assumption) ?_
      rotate_left
      · intro W hSw
        (try dsimp only at hSw)
        go_simp
        (try with_reducible rfl)
      (try simp only [Act.put, List.setIfInBounds_toArray, List.set_cons_zero, List.set_cons_succ])
      refine wpAnyZ_take (i := 5) (oi := ⟨_, _, _, _, _, _⟩) (v := ?_) rfl (by kernel_rfl) (by kernel_rfl) (by kernel_rfl) (by kernel_rfl) (by kernel_rfl) (fun _ _ _ h => h) (Or.inl ⟨by rfl, ?_⟩) (by assumption) ?_
      rotate_left
      · intro W hSw
        (try dsimp only at hSw)
        go_simp
        (try with_reducible rfl)
      (try simp only [Act.put, List.setIfInBounds_toArray, List.set_cons_zero, List.set_cons_succ])
      refine wpAnyZ_take (i := 6) (oi := ⟨_, _, _, _, _, _⟩) (v := ?_) rfl (by kernel_rfl) (by kernel_rfl) (by kernel_rfl) (by kernel_rfl) (by kernel_rfl) (fun _ _ _ h => h) (Or.inl ⟨by rfl, ?_⟩) (by assumption) ?_
      rotate_left
      · intro W hSw
        (try dsimp only at hSw)
        have hlk := HLK.out W km hSw.2.2
        go_simp
        (try with_reducible rfl)
      (try simp only [Act.put, List.setIfInBounds_toArray, List.set_cons_zero, List.set_cons_succ])
      refine wpAnyZ_take (i := 7) (oi := ⟨_, _, _, _, _, _⟩) (v := ?_) rfl (by kernel_rfl) (by kernel_rfl) (by kernel_rfl) (by kernel_rfl) (by kernel_rfl) (fun _ _ _ h => h) (Or.inl ⟨by rfl, ?_⟩) (by assumption) ?_
      rotate_left
      · intro W hSw
        (try dsimp only at hSw)
        go_simp
        (try with_reducible rfl)
      (try simp only [Act.put, List.setIfInBounds_toArray, List.set_cons_zero, List.set_cons_succ])
      refine wpAnyZ_take (i := 8) (oi := ⟨_, _, _, _, _, _⟩) (v := ?_) rfl (by kernel_rfl) (by kernel_rfl) (by kernel_rfl) (by kernel_rfl) (by kernel_rfl) (fun _ _ _ h => h) (Or.inl ⟨by rfl, ?_⟩) (by assumption) ?_
      rotate_left
      · intro W hSw
        (try dsimp only at hSw)
        go_simp
        (try with_reducible rfl)
      (try simp only [Act.put, List.setIfInBounds_toArray, List.set_cons_zero, List.set_cons_succ])
      refine wpAnyZ_take (i := 9) (oi := ⟨_, _, _, _, _, _⟩) (v := ?_) rfl (by kernel_rfl) (by kernel_rfl) (by kernel_rfl) (by kernel_rfl) (by kernel_rfl) (fun _ _ _ h => h) (Or.inl ⟨by rfl, ?_⟩) (by assumption) ?_
      rotate_left
      · intro W hSw
        (try dsimp only at hSw)
        go_simp
        (try with_reducible rfl)
      (try simp only [Act.put, List.setIfInBounds_toArray, List.set_cons_zero, List.set_cons_succ])
      refine wpAnyZ_ready (rs := [10]) (by kernel_rfl) (by simp) ?_
      refine AllReadyZ.cons (o := ⟨_, _, _, _, _, _⟩) rfl (fun C hC => ?_) AllReadyZ.nil
      go_simp
      obtain ⟨u1, hu1⟩ : ∃ z, z = u0.alloc (.cells #[.int .i64 0, .int .i64 0, .slice none 0 0, .int .i64 0] 36) := ⟨_, rfl⟩
      obtain ⟨P, hP⟩ : ∃ z, z = u0.heap.size := ⟨_, rfl⟩
      have HP1 : Hid (PBox u1 P 0 0 (.slice none 0 0) 0) := by show PBox _ _ _ _ _ _; rw [hu1, hP]; exact pbox_new u0 _ _ _ _
      have HU1 : Hid (Below w1.heap.size w1 u1) := by show Below _ _ _; rw [hu1]; exact HU0.out.trans ((Below.refl _ _).alloc HU0.out.size _)
      have HPW : Hid (w1.heap.size ≤ P) := by show _ ≤ _; rw [hP]; exact HU0.out.size
      try rw [← hu1, ← hP]
      clear hu1 hP
      have hHeld : (fun (V : World) => V.cell? ⟨kt, 0, none⟩ = some (.map (some km)) ∧ V.cell? ⟨B, 1, none⟩ = some (.int .i64 b1) ∧ TcMap V km ms) u1 := KS.out _ HU1.out
      refine hC.out _ _ (fun _ => hHeld) (fun _ => ?_)
      clear hC C
      (try simp only [Act.put, List.setIfInBounds_toArray, List.set_cons_zero, List.set_cons_succ])
      have r0 := HP1.out.c0
      have r1 := HP1.out.c1
      have r2 := HP1.out.c2
      have r3 := HP1.out.c3
      have f0 := HP1.out.free 0
      have f1 := HP1.out.free 1
      have f2 := HP1.out.free 2
      have f3 := HP1.out.free 3
      refine wpAnyZ_ready (rs := [11]) (by kernel_rfl) (by simp) ?_
      refine AllReadyZ.cons (o := ⟨_, _, _, _, _, _⟩) rfl (fun C hC => ?_) AllReadyZ.nil
      go_simp
      obtain ⟨u2, hu2⟩ : ∃ z, z = (((u1.setCell ⟨P, 0, none⟩ (.int .i64 pid)).setCell ⟨P, 1, none⟩ (.int .i64 pep)).setCell ⟨P, 2, none⟩ (.slice pd pn pc)).setCell ⟨P, 3, none⟩ (.int .i64 po) := ⟨_, rfl⟩
      have HP2 : Hid (PBox u2 P pid pep (.slice pd pn pc) po) := by show PBox _ _ _ _ _ _; rw [hu2]; exact (((HP1.out.s0 pid).s1 pep).s2 (.slice pd pn pc)).s3 po
      have HU2 : Hid (Below w1.heap.size w1 u2) := by show Below _ _ _; rw [hu2]; exact (((HU1.out.setCell HPW.out _).setCell HPW.out _).setCell HPW.out _).setCell HPW.out _
      try rw [← hu2]
      clear hu2 r0 r1 r2 r3 f0 f1 f2 f3 HP1
      have hHeld : (fun (V : World) => V.cell? ⟨kt, 0, none⟩ = some (.map (some km)) ∧ V.cell? ⟨B, 1, none⟩ = some (.int .i64 b1) ∧ TcMap V km ms) u2 := KS.out _ HU2.out
      refine hC.out _ _ (fun _ => hHeld) (fun _ => ?_)
      clear hC C
      (try simp only [Act.put, List.setIfInBounds_toArray, List.set_cons_zero, List.set_cons_succ])
      refine wpAnyZ_take (i := 12) (oi := ⟨_, _, _, _, _, _⟩) (v := ?_) rfl (by kernel_rfl) (by kernel_rfl) (by kernel_rfl) (by kernel_rfl) (by kernel_rfl) (fun _ _ _ h => h) (Or.inl ⟨by rfl, ?_⟩) (by assumption) ?_
      rotate_left
      · intro W hSw
        (try dsimp only at hSw)
        go_simp
        (try with_reducible rfl)
      (try simp only [Act.put, List.setIfInBounds_toArray, List.set_cons_zero, List.set_cons_succ])
      refine wpAnyZ_done (by kernel_rfl) ?_ _
      refine NoPanic.normal ?_
      clear hHeld KS HU0 HU1
      have HB2 := Lib.hid (HB1.out.trans (HU2.out.mono HB1.out.size))
      have HX2 := Lib.hid (HX1.out.on HU2.out)
      have HRW2 := Lib.hid (HRO.out u2 (HT1.out.keep HU2.out).ins)
      have p0 := HX2.out.c0
      have p1 := HX2.out.c1
      have p2 := HX2.out.c2
      have p3 := HX2.out.c3
      have p4 := HX2.out.c4
      have p5 := HX2.out.c5
      have p6 := HX2.out.c6
      have q0 := HP2.out.c0
      have q1 := HP2.out.c1
      have q2 := HP2.out.c2
      have q3 := HP2.out.c3
      go_wp2_with fail
      refine (prCheck_any u2 pid pep po pl pd pn pc HRW2.out (by omega) kn b0 b1 b2 b3 b4 b5 recs rd rn rc hrl hrn c HCC.out).mono ?_
      rintro e w4 ⟨rfl, hb4⟩
      have HB4 := Lib.hid (HB2.out.trans (hb4.mono HB2.out.size))
      go_wp2
      go_ret2
      exact gives_pair rfl HB4.out
  · have hd : (r != 0) = true := by simp [hz]
    have HEND : Hid (c = (-1, r)) := by
      show c = _
      rw [← HC.out]
      unfold tcheckD
      rw [HRE.out, if_pos hz]
    clear HC
    go_wp2
    go_ret2
    exact gives_pair HEND.out HB1.out
end Go.Proofs.YtmnjobiipfgpoaaGreat
