/- The contracts of the statements' own set and fits. -/
import Derived.Test.YtifogkacjfpipaaSim
import Derived.Test.YtifogkacjfpipaaSet
import Derived.Test.YtifogkacjfpipaaConfig
import Derived.Test.YtifogkacjfpipaaNameRefUpperOne
namespace Go.Proofs.Ytifogkacjfpipaa
open Go.RowKit
open Go.RuneMath
set_option linter.unusedVariables false

set_option maxHeartbeats 1000000 in
theorem fits_any (w : World) (x : Cf) : Calls Try.prog 18 #[x.val] w (Valids x w) := by
  have h4 := fun (w1 : World) => row4 w1 x
  have H4 := Lib.hid h4
  clear h4
  unfold Cf.val
  go_enter Try.func18, Try.ntmps18
  go_wp2
  go_loopw [4, 15] (fun v k wr => ∃ j : Nat, k = .int .i64 j ∧ j ≤ 4 ∧ Below w.heap.size w wr ∧ (∀ i, i < 4 → wr.cell? ⟨w.heap.size + 1, i, none⟩ = some (.int .i64 (x.nth i))) ∧ ∀ i, i < j → within (x.nth i) = true) (fun _ k _ => 4 - (intOf k).toNat)
  case atStart => exact ⟨0, rfl, by omega, ((Below.refl _ w).alloc (Nat.le_refl _) _).alloc (by rw [alloc_size]; omega) _, fun i hi => by have := H4.out (w.alloc (.cells #[.int .i64 x.a, .int .i64 x.b, .int .i64 x.c, .int .i64 x.d] 27)) i hi; rw [alloc_size] at this; exact this, fun i hi => by omega⟩
  case round =>
    obtain ⟨j, rfl, hj, hb, hc, hall⟩ := hrel
    have HB := Lib.hid hb
    have HC := Lib.hid hc
    have HA := Lib.hid hall
    clear hb hc hall
    by_cases h4 : j < 4
    · have hcell := HC.out j h4
      obtain ⟨n, hn⟩ : ∃ n, n = x.nth j := ⟨_, rfl⟩
      rw [← hn] at hcell
      have HN := Lib.hid hn
      clear hn
      by_cases h1 : n < 1
      · have HV := Lib.hid (valid_bad h4 (by rw [← HN.out]; unfold within; simp; omega))
        go_wp2
        go_ret
        exact valids_mk HV.out HB.out
      · by_cases h2 : 1073741824 < n
        · have HV := Lib.hid (valid_bad h4 (by rw [← HN.out]; unfold within; simp; omega))
          go_wp2
          go_ret
          exact valids_mk HV.out HB.out
        · have HV := Lib.hid (all_more HA.out (by rw [← HN.out]; unfold within; simp; omega))
          go_wp2
          go_roundw
          case rel => exact ⟨j + 1, by go_num, by omega, HB.out, HC.out, HV.out⟩
          case measure => simp [intOf]; omega
    · have HV := Lib.hid (valid_good (x := x) (fun i hi => HA.out i (by omega)))
      go_wp2
      go_ret
      exact valids_mk HV.out HB.out
/-- The statements' own: a configuration with one field set, and whether the word names one. -/
def LawSets (x : Cf) (b : Bool) (w : World) (e : Ending) (w' : World) : Prop := e = .returned (.tuple #[.agg #[.int .i64 x.a, .int .i64 x.b, .int .i64 x.c, .int .i64 x.d], .bool b]) ∧ Below w.heap.size w w'
theorem results17 {tmps : Array Value} {B : Nat} {W : World} {x : Cf} (h : CfAt W B x) (ht : tmps.getD 6 undef = .pointer (some ⟨B, 0, none⟩)) : (results Try.f17 tmps).run Try.prog W = .ok (.tuple #[x.val, tmps.getD 7 undef]) W := by
  have c0 := h.cell0
  have c1 := h.cell1
  have c2 := h.cell2
  have c3 := h.cell3
  rw [results_cell_tmp (p := 6) (u := 7) (ty := 27) Try.results17, ht]
  simp [go_sem, c0, c1, c2, c3, Cf.val]
theorem two_at {w w1 : World} {x : Cf} (hb : Below ((w.alloc (.cells #[.int .i64 x.a, .int .i64 x.b, .int .i64 x.c, .int .i64 x.d] 27)).alloc (.cells #[.int .i64 0, .int .i64 0, .int .i64 0, .int .i64 0] 27)).heap.size ((w.alloc (.cells #[.int .i64 x.a, .int .i64 x.b, .int .i64 x.c, .int .i64 x.d] 27)).alloc (.cells #[.int .i64 0, .int .i64 0, .int .i64 0, .int .i64 0] 27)) w1) :
    CfAt w1 w.heap.size x ∧ CfAt w1 (w.heap.size + 1) Cf.zero ∧ Below w.heap.size w w1 := by
  have h1 : CfAt (w.alloc (.cells #[.int .i64 x.a, .int .i64 x.b, .int .i64 x.c, .int .i64 x.d] 27)) w.heap.size x := heap_alloc_new w _
  have h2 := zero_at (w.alloc (.cells #[.int .i64 x.a, .int .i64 x.b, .int .i64 x.c, .int .i64 x.d] 27))
  have h3 := h1.below ((Below.refl _ _).alloc (Nat.le_refl _) (.cells #[.int .i64 0, .int .i64 0, .int .i64 0, .int .i64 0] 27)) h1.lt
  refine ⟨h3.below hb h3.lt, ?_, ?_⟩
  · rw [alloc_size] at h2
    exact h2.below hb (by rw [alloc_size, alloc_size]; omega)
  · exact (((Below.refl _ w).alloc (Nat.le_refl _) _).alloc (by rw [alloc_size]; omega) _).trans (hb.mono (by rw [alloc_size, alloc_size]; omega))
/-- A configuration in the next block stands where a cell of the one ahead of it is written. -/
theorem zero_past {w : World} {B : Nat} {x : Cf} (h : CfAt w (B + 1) x) (j : Nat) (n : Int) : CfAt (w.setCell ⟨B, j, none⟩ (.int .i64 n)) (B + 1) x := by
  unfold CfAt at *
  rw [Below.heap_setCell _ _ _ _ (by show B + 1 ≠ B; omega)]
  exact h
theorem lawsets_mk {x y : Cf} {b : Bool} {w w' : World} (h : x = y) (hb : Below w.heap.size w w') : LawSets y b w (.returned (.tuple #[x.val, .bool b])) w' := by
  subst h
  exact ⟨rfl, hb⟩
set_option maxHeartbeats 1000000 in
theorem lset_0 (w : World) (x : Cf) (s : ByteArray) (n : Int) (hs : s.size ≤ 1073741824) (hw : word s = 0) : Calls Try.prog 17 #[x.val, .string s, .int .i64 n] w (LawSets (x.put 0 (clamp n)) true w) := by
  obtain ⟨Q, hQ⟩ : ∃ Q, Q = bs (upperB s.data.toList) := ⟨_, rfl⟩
  have U0 := fun W => ref_upper_any W s hs
  unfold Uppers at U0
  rw [← hQ] at U0
  have hall := word_0 hw
  have g0 := hall
  clear hall
  have q0 := q_is hQ g0
  have U := Lib.hid U0
  clear U0 hQ hs hw g0
  unfold Cf.val
  go_enter Try.func17, Try.ntmps17
  go_wp2_with fail
  refine (U.out _).mono ?_
  rintro e w1 ⟨rfl, hb⟩
  obtain ⟨hx, hz, hbw⟩ := two_at hb
  have HX := Lib.hid hx
  have HZ := Lib.hid hz
  have HB := Lib.hid hbw
  have x0 := hx.cell0
  have x1 := hx.cell1
  have x2 := hx.cell2
  have x3 := hx.cell3
  have f0 := hx.free 0
  have z0 := hz.cell0
  have z1 := hz.cell1
  have z2 := hz.cell2
  have z3 := hz.cell3
  have y0 := hz.free 0
  have y1 := hz.free 1
  have y2 := hz.free 2
  have y3 := hz.free 3
  clear hb hx hz hbw
  go_wp2
  have hput := fill_at (zero_past HZ.out 0 (clamp n)) (x.put 0 (clamp n))
  exact bodyPost_ret (v := .tuple #[(x.put 0 (clamp n)).val, .bool true]) (results17 hput.1 rfl) rfl (lawsets_mk rfl (HB.out.trans ((((Below.refl w.heap.size w1).setCell (p := ⟨w.heap.size, 0, none⟩) (Nat.le_refl _) (.int .i64 (clamp n)))).trans (hput.2.mono (by omega)))))
set_option maxHeartbeats 1000000 in
theorem lset_1 (w : World) (x : Cf) (s : ByteArray) (n : Int) (hs : s.size ≤ 1073741824) (hw : word s = 1) : Calls Try.prog 17 #[x.val, .string s, .int .i64 n] w (LawSets (x.put 1 (clamp n)) true w) := by
  obtain ⟨Q, hQ⟩ : ∃ Q, Q = bs (upperB s.data.toList) := ⟨_, rfl⟩
  have U0 := fun W => ref_upper_any W s hs
  unfold Uppers at U0
  rw [← hQ] at U0
  have hall := word_1 hw
  obtain ⟨g0, g1⟩ := hall
  have q0 := q_no hQ g0
  have q1 := q_is hQ g1
  have U := Lib.hid U0
  clear U0 hQ hs hw g0 g1
  unfold Cf.val
  go_enter Try.func17, Try.ntmps17
  go_wp2_with fail
  refine (U.out _).mono ?_
  rintro e w1 ⟨rfl, hb⟩
  obtain ⟨hx, hz, hbw⟩ := two_at hb
  have HX := Lib.hid hx
  have HZ := Lib.hid hz
  have HB := Lib.hid hbw
  have x0 := hx.cell0
  have x1 := hx.cell1
  have x2 := hx.cell2
  have x3 := hx.cell3
  have f0 := hx.free 1
  have z0 := hz.cell0
  have z1 := hz.cell1
  have z2 := hz.cell2
  have z3 := hz.cell3
  have y0 := hz.free 0
  have y1 := hz.free 1
  have y2 := hz.free 2
  have y3 := hz.free 3
  clear hb hx hz hbw
  go_wp2
  have hput := fill_at (zero_past HZ.out 1 (clamp n)) (x.put 1 (clamp n))
  exact bodyPost_ret (v := .tuple #[(x.put 1 (clamp n)).val, .bool true]) (results17 hput.1 rfl) rfl (lawsets_mk rfl (HB.out.trans ((((Below.refl w.heap.size w1).setCell (p := ⟨w.heap.size, 1, none⟩) (Nat.le_refl _) (.int .i64 (clamp n)))).trans (hput.2.mono (by omega)))))
set_option maxHeartbeats 1000000 in
theorem lset_2 (w : World) (x : Cf) (s : ByteArray) (n : Int) (hs : s.size ≤ 1073741824) (hw : word s = 2) : Calls Try.prog 17 #[x.val, .string s, .int .i64 n] w (LawSets (x.put 2 (clamp n)) true w) := by
  obtain ⟨Q, hQ⟩ : ∃ Q, Q = bs (upperB s.data.toList) := ⟨_, rfl⟩
  have U0 := fun W => ref_upper_any W s hs
  unfold Uppers at U0
  rw [← hQ] at U0
  have hall := word_2 hw
  obtain ⟨g0, g1, g2⟩ := hall
  have q0 := q_no hQ g0
  have q1 := q_no hQ g1
  have q2 := q_is hQ g2
  have U := Lib.hid U0
  clear U0 hQ hs hw g0 g1 g2
  unfold Cf.val
  go_enter Try.func17, Try.ntmps17
  go_wp2_with fail
  refine (U.out _).mono ?_
  rintro e w1 ⟨rfl, hb⟩
  obtain ⟨hx, hz, hbw⟩ := two_at hb
  have HX := Lib.hid hx
  have HZ := Lib.hid hz
  have HB := Lib.hid hbw
  have x0 := hx.cell0
  have x1 := hx.cell1
  have x2 := hx.cell2
  have x3 := hx.cell3
  have f0 := hx.free 2
  have z0 := hz.cell0
  have z1 := hz.cell1
  have z2 := hz.cell2
  have z3 := hz.cell3
  have y0 := hz.free 0
  have y1 := hz.free 1
  have y2 := hz.free 2
  have y3 := hz.free 3
  clear hb hx hz hbw
  go_wp2
  have hput := fill_at (zero_past HZ.out 2 (clamp n)) (x.put 2 (clamp n))
  exact bodyPost_ret (v := .tuple #[(x.put 2 (clamp n)).val, .bool true]) (results17 hput.1 rfl) rfl (lawsets_mk rfl (HB.out.trans ((((Below.refl w.heap.size w1).setCell (p := ⟨w.heap.size, 2, none⟩) (Nat.le_refl _) (.int .i64 (clamp n)))).trans (hput.2.mono (by omega)))))
set_option maxHeartbeats 1000000 in
theorem lset_3 (w : World) (x : Cf) (s : ByteArray) (n : Int) (hs : s.size ≤ 1073741824) (hw : word s = 3) : Calls Try.prog 17 #[x.val, .string s, .int .i64 n] w (LawSets (x.put 3 (clamp n)) true w) := by
  obtain ⟨Q, hQ⟩ : ∃ Q, Q = bs (upperB s.data.toList) := ⟨_, rfl⟩
  have U0 := fun W => ref_upper_any W s hs
  unfold Uppers at U0
  rw [← hQ] at U0
  have hall := word_3 hw
  obtain ⟨g0, g1, g2, g3⟩ := hall
  have q0 := q_no hQ g0
  have q1 := q_no hQ g1
  have q2 := q_no hQ g2
  have q3 := q_is hQ g3
  have U := Lib.hid U0
  clear U0 hQ hs hw g0 g1 g2 g3
  unfold Cf.val
  go_enter Try.func17, Try.ntmps17
  go_wp2_with fail
  refine (U.out _).mono ?_
  rintro e w1 ⟨rfl, hb⟩
  obtain ⟨hx, hz, hbw⟩ := two_at hb
  have HX := Lib.hid hx
  have HZ := Lib.hid hz
  have HB := Lib.hid hbw
  have x0 := hx.cell0
  have x1 := hx.cell1
  have x2 := hx.cell2
  have x3 := hx.cell3
  have f0 := hx.free 3
  have z0 := hz.cell0
  have z1 := hz.cell1
  have z2 := hz.cell2
  have z3 := hz.cell3
  have y0 := hz.free 0
  have y1 := hz.free 1
  have y2 := hz.free 2
  have y3 := hz.free 3
  clear hb hx hz hbw
  go_wp2
  have hput := fill_at (zero_past HZ.out 3 (clamp n)) (x.put 3 (clamp n))
  exact bodyPost_ret (v := .tuple #[(x.put 3 (clamp n)).val, .bool true]) (results17 hput.1 rfl) rfl (lawsets_mk rfl (HB.out.trans ((((Below.refl w.heap.size w1).setCell (p := ⟨w.heap.size, 3, none⟩) (Nat.le_refl _) (.int .i64 (clamp n)))).trans (hput.2.mono (by omega)))))
set_option maxHeartbeats 1000000 in
theorem lset_4 (w : World) (x : Cf) (s : ByteArray) (n : Int) (hs : s.size ≤ 1073741824) (hw : word s = 4) : Calls Try.prog 17 #[x.val, .string s, .int .i64 n] w (LawSets (x) false w) := by
  obtain ⟨Q, hQ⟩ : ∃ Q, Q = bs (upperB s.data.toList) := ⟨_, rfl⟩
  have U0 := fun W => ref_upper_any W s hs
  unfold Uppers at U0
  rw [← hQ] at U0
  have hall := word_4 hw
  obtain ⟨g0, g1, g2, g3⟩ := hall
  have q0 := q_no hQ g0
  have q1 := q_no hQ g1
  have q2 := q_no hQ g2
  have q3 := q_no hQ g3
  have U := Lib.hid U0
  clear U0 hQ hs hw g0 g1 g2 g3
  unfold Cf.val
  go_enter Try.func17, Try.ntmps17
  go_wp2_with fail
  refine (U.out _).mono ?_
  rintro e w1 ⟨rfl, hb⟩
  obtain ⟨hx, hz, hbw⟩ := two_at hb
  have HX := Lib.hid hx
  have HZ := Lib.hid hz
  have HB := Lib.hid hbw
  have x0 := hx.cell0
  have x1 := hx.cell1
  have x2 := hx.cell2
  have x3 := hx.cell3
  have f0 := hx.free 0
  have z0 := hz.cell0
  have z1 := hz.cell1
  have z2 := hz.cell2
  have z3 := hz.cell3
  have y0 := hz.free 0
  have y1 := hz.free 1
  have y2 := hz.free 2
  have y3 := hz.free 3
  clear hb hx hz hbw
  go_wp2
  have hput := fill_at HZ.out x
  exact bodyPost_ret (v := .tuple #[x.val, .bool false]) (results17 hput.1 rfl) rfl (lawsets_mk rfl (HB.out.trans (hput.2.mono (by omega))))
theorem lset_any (w : World) (x : Cf) (s : ByteArray) (n : Int) (hs : s.size ≤ 1073741824) : Calls Try.prog 17 #[x.val, .string s, .int .i64 n] w (LawSets (x.put (word s) (clamp n)) (decide (word s < 4)) w) := by
  have hle := word_le s
  rcases (show word s = 0 ∨ word s = 1 ∨ word s = 2 ∨ word s = 3 ∨ word s = 4 by omega) with h | h | h | h | h
  · rw [h]; exact lset_0 w x s n hs h
  · rw [h]; exact lset_1 w x s n hs h
  · rw [h]; exact lset_2 w x s n hs h
  · rw [h]; exact lset_3 w x s n hs h
  · rw [h]; exact lset_4 w x s n hs h
end Go.Proofs.Ytifogkacjfpipaa
