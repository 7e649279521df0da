/- The contract of set: a text and the value behind it, done to a configuration in memory. -/
import Derived.Test.YtifogkacjfpipaaFits
namespace Go.Proofs.Ytifogkacjfpipaa
open Go.RowKit
open Go.RuneMath
set_option linter.unusedVariables false

/-- A configuration lies in block k. -/
def CfAt (w : World) (k : Nat) (x : Cf) : Prop := w.heap[k]? = some (.cells #[.int .i64 x.a, .int .i64 x.b, .int .i64 x.c, .int .i64 x.d] 27 (0, 0))
theorem CfAt.below {w w' : World} {k b : Nat} {x : Cf} (h : CfAt w k x) (hb : Below b w w') (hk : k < b) : CfAt w' k x := by
  unfold CfAt at *
  rw [hb.block k hk]
  exact h
theorem CfAt.lt {w : World} {k : Nat} {x : Cf} (h : CfAt w k x) : k < w.heap.size := lt_of_block h
theorem CfAt.cells {w : World} {k : Nat} {x : Cf} (h : CfAt w k x) : ∀ j, j < 4 → w.cell? ⟨k, j, none⟩ = some (.int .i64 (x.nth j)) := by
  intro j hj
  rw [cell_of_row _ _ j _ _ _ h]
  match j, hj with
  | 0, _ => rfl
  | 1, _ => rfl
  | 2, _ => rfl
  | 3, _ => rfl
theorem CfAt.cell0 {w : World} {k : Nat} {x : Cf} (h : CfAt w k x) : w.cell? ⟨k, 0, none⟩ = some (.int .i64 x.a) := h.cells 0 (by omega)
theorem CfAt.cell1 {w : World} {k : Nat} {x : Cf} (h : CfAt w k x) : w.cell? ⟨k, 1, none⟩ = some (.int .i64 x.b) := h.cells 1 (by omega)
theorem CfAt.cell2 {w : World} {k : Nat} {x : Cf} (h : CfAt w k x) : w.cell? ⟨k, 2, none⟩ = some (.int .i64 x.c) := h.cells 2 (by omega)
theorem CfAt.cell3 {w : World} {k : Nat} {x : Cf} (h : CfAt w k x) : w.cell? ⟨k, 3, none⟩ = some (.int .i64 x.d) := h.cells 3 (by omega)
theorem CfAt.free {w : World} {k : Nat} {x : Cf} (h : CfAt w k x) (j : Nat) : w.frozen? ⟨k, j, none⟩ = false := by
  unfold CfAt at h
  simp [World.frozen?, h]
theorem CfAt.put {w : World} {k : Nat} {x : Cf} (h : CfAt w k x) {j : Nat} (hj : j < 4) (n : Int) : CfAt (w.setCell ⟨k, j, none⟩ (.int .i64 n)) k (x.put j n) := by
  have hlt := h.lt
  unfold CfAt at h
  have h' : w.heap[k] = .cells #[.int .i64 x.a, .int .i64 x.b, .int .i64 x.c, .int .i64 x.d] 27 (0, 0) := by simpa [Array.getElem?_eq_getElem hlt] using h
  unfold CfAt
  show (w.heap.modify k _)[k]? = _
  rw [Array.getElem?_eq_getElem (by simpa using hlt), Array.getElem_modify_self, h']
  match j, hj with
  | 0, _ => rfl
  | 1, _ => rfl
  | 2, _ => rfl
  | 3, _ => rfl
/-- Behind a call that had a configuration's address: its answer, the configuration, all below it. -/
def Sets (k : Nat) (x : Cf) (b : Bool) (w : World) (e : Ending) (w' : World) : Prop := e = .returned (.bool b) ∧ CfAt w' k x ∧ Below k w w'
theorem set_none (w : World) (k : Nat) (x : Cf) (s : ByteArray) (v : El) (hk : CfAt w k x) (hv : v.fine) (hn : v.num = none) : Calls Try.prog 26 #[.pointer (some ⟨k, 0, none⟩), .string s, v.val] w (Sets k x false w) := by
  have C0 := fun W => number_el W v hv
  rw [hn] at C0
  have C := Lib.hid C0
  have HK := Lib.hid hk
  have hlt := hk.lt
  have HL := Lib.hid hlt
  clear C0 hn hk hv hlt
  go_enter Try.func26, Try.ntmps26
  go_wp2_with fail
  refine (C.out _).mono ?_
  rintro e w' ⟨rfl, hb⟩
  have HB := Lib.hid hb
  clear hb
  go_wp2
  go_ret
  exact ⟨rfl, HK.out.below HB.out HL.out, HB.out.mono (Nat.le_of_lt HL.out)⟩
theorem q_is {s Q : ByteArray} (hQ : Q = bs (upperB s.data.toList)) {c : List UInt8} (h : upperB s.data.toList = c) : (Q.toList == c) = true := by
  rw [hQ, ByteArray.toList_eq, bs_list, h]
  simp
theorem q_no {s Q : ByteArray} (hQ : Q = bs (upperB s.data.toList)) {c : List UInt8} (h : upperB s.data.toList ≠ c) : (Q.toList == c) = false := by
  rw [hQ, ByteArray.toList_eq, bs_list]
  simpa using h
theorem word_0 {s : ByteArray} (h : word s = 0) : upperB s.data.toList = [83, 69, 71, 77, 69, 78, 84] := by
  unfold word at h
  split at h
  · first | assumption | omega
  · split at h
    · first | (refine ⟨?_, ?_⟩ <;> assumption) | omega
    · split at h
      · first | (refine ⟨?_, ?_, ?_⟩ <;> assumption) | omega
      · split at h
        · first | (refine ⟨?_, ?_, ?_, ?_⟩ <;> assumption) | omega
        · first | (refine ⟨?_, ?_, ?_, ?_⟩ <;> assumption) | omega
theorem word_1 {s : ByteArray} (h : word s = 1) : upperB s.data.toList ≠ [83, 69, 71, 77, 69, 78, 84] ∧ upperB s.data.toList = [73, 78, 68, 69, 88] := by
  unfold word at h
  split at h
  · first | assumption | omega
  · split at h
    · first | (refine ⟨?_, ?_⟩ <;> assumption) | omega
    · split at h
      · first | (refine ⟨?_, ?_, ?_⟩ <;> assumption) | omega
      · split at h
        · first | (refine ⟨?_, ?_, ?_, ?_⟩ <;> assumption) | omega
        · first | (refine ⟨?_, ?_, ?_, ?_⟩ <;> assumption) | omega
theorem word_2 {s : ByteArray} (h : word s = 2) : upperB s.data.toList ≠ [83, 69, 71, 77, 69, 78, 84] ∧ upperB s.data.toList ≠ [73, 78, 68, 69, 88] ∧ upperB s.data.toList = [83, 78, 65, 80, 83, 72, 79, 84] := by
  unfold word at h
  split at h
  · first | assumption | omega
  · split at h
    · first | (refine ⟨?_, ?_⟩ <;> assumption) | omega
    · split at h
      · first | (refine ⟨?_, ?_, ?_⟩ <;> assumption) | omega
      · split at h
        · first | (refine ⟨?_, ?_, ?_, ?_⟩ <;> assumption) | omega
        · first | (refine ⟨?_, ?_, ?_, ?_⟩ <;> assumption) | omega
theorem word_3 {s : ByteArray} (h : word s = 3) : upperB s.data.toList ≠ [83, 69, 71, 77, 69, 78, 84] ∧ upperB s.data.toList ≠ [73, 78, 68, 69, 88] ∧ upperB s.data.toList ≠ [83, 78, 65, 80, 83, 72, 79, 84] ∧ upperB s.data.toList = [67, 65, 80] := by
  unfold word at h
  split at h
  · first | assumption | omega
  · split at h
    · first | (refine ⟨?_, ?_⟩ <;> assumption) | omega
    · split at h
      · first | (refine ⟨?_, ?_, ?_⟩ <;> assumption) | omega
      · split at h
        · first | (refine ⟨?_, ?_, ?_, ?_⟩ <;> assumption) | omega
        · first | (refine ⟨?_, ?_, ?_, ?_⟩ <;> assumption) | omega
theorem word_4 {s : ByteArray} (h : word s = 4) : upperB s.data.toList ≠ [83, 69, 71, 77, 69, 78, 84] ∧ upperB s.data.toList ≠ [73, 78, 68, 69, 88] ∧ upperB s.data.toList ≠ [83, 78, 65, 80, 83, 72, 79, 84] ∧ upperB s.data.toList ≠ [67, 65, 80] := by
  unfold word at h
  split at h
  · first | assumption | omega
  · split at h
    · first | (refine ⟨?_, ?_⟩ <;> assumption) | omega
    · split at h
      · first | (refine ⟨?_, ?_, ?_⟩ <;> assumption) | omega
      · split at h
        · first | (refine ⟨?_, ?_, ?_, ?_⟩ <;> assumption) | omega
        · first | (refine ⟨?_, ?_, ?_, ?_⟩ <;> assumption) | omega
theorem word_le (s : ByteArray) : word s ≤ 4 := by
  unfold word
  repeat' split
  all_goals omega
set_option maxHeartbeats 1000000 in
theorem set_0 (w : World) (k : Nat) (x : Cf) (s : ByteArray) (v : El) (n : Int) (hk : CfAt w k x) (hv : v.fine) (hn : v.num = some n) (hs : s.size ≤ 1073741824) (hw : word s = 0) : Calls Try.prog 26 #[.pointer (some ⟨k, 0, none⟩), .string s, v.val] w (Sets k (x.put 0 (narrow n)) true w) := by
  have C0 := fun W => number_el W v hv
  rw [hn] at C0
  obtain ⟨Q, hQ⟩ : ∃ Q, Q = bs (upperB s.data.toList) := ⟨_, rfl⟩
  have U0 := fun W => upper_any W s hs
  unfold Uppers at U0
  rw [← hQ] at U0
  have hall := word_0 hw
  have g0 := hall
  clear hall
  have q0 := q_is hQ g0
  have C := Lib.hid C0
  have U := Lib.hid U0
  have HK := Lib.hid hk
  have hlt := hk.lt
  have HL := Lib.hid hlt
  clear C0 U0 hn hk hv hlt hQ hw hs g0
  go_enter Try.func26, Try.ntmps26
  go_wp2_with fail
  refine (C.out _).mono ?_
  rintro e w1 ⟨rfl, hb⟩
  have HB := Lib.hid hb
  clear hb
  go_wp2_with fail
  refine (U.out _).mono ?_
  rintro e w2 ⟨rfl, hb⟩
  have HB2 := Lib.hid (step HB.out hb)
  clear hb
  have HK2 := Lib.hid (HK.out.below HB2.out HL.out)
  have hc := HK2.out.cells 0 (by omega)
  have hf := HK2.out.free 0
  go_wp2_with fail
  refine (narrow_any _ _).mono ?_
  rintro e w3 ⟨rfl, rfl⟩
  go_wp2
  go_ret
  exact ⟨rfl, HK2.out.put (by omega) _, (HB2.out.mono (Nat.le_of_lt HL.out)).setCell (Nat.le_refl _) _⟩
set_option maxHeartbeats 1000000 in
theorem set_1 (w : World) (k : Nat) (x : Cf) (s : ByteArray) (v : El) (n : Int) (hk : CfAt w k x) (hv : v.fine) (hn : v.num = some n) (hs : s.size ≤ 1073741824) (hw : word s = 1) : Calls Try.prog 26 #[.pointer (some ⟨k, 0, none⟩), .string s, v.val] w (Sets k (x.put 1 (narrow n)) true w) := by
  have C0 := fun W => number_el W v hv
  rw [hn] at C0
  obtain ⟨Q, hQ⟩ : ∃ Q, Q = bs (upperB s.data.toList) := ⟨_, rfl⟩
  have U0 := fun W => upper_any W s hs
  unfold Uppers at U0
  rw [← hQ] at U0
  have hall := word_1 hw
  obtain ⟨g0, g1⟩ := hall
  have q0 := q_no hQ g0
  have q1 := q_is hQ g1
  have C := Lib.hid C0
  have U := Lib.hid U0
  have HK := Lib.hid hk
  have hlt := hk.lt
  have HL := Lib.hid hlt
  clear C0 U0 hn hk hv hlt hQ hw hs g0 g1
  go_enter Try.func26, Try.ntmps26
  go_wp2_with fail
  refine (C.out _).mono ?_
  rintro e w1 ⟨rfl, hb⟩
  have HB := Lib.hid hb
  clear hb
  go_wp2_with fail
  refine (U.out _).mono ?_
  rintro e w2 ⟨rfl, hb⟩
  have HB2 := Lib.hid (step HB.out hb)
  clear hb
  have HK2 := Lib.hid (HK.out.below HB2.out HL.out)
  have hc := HK2.out.cells 1 (by omega)
  have hf := HK2.out.free 1
  go_wp2_with fail
  refine (narrow_any _ _).mono ?_
  rintro e w3 ⟨rfl, rfl⟩
  go_wp2
  go_ret
  exact ⟨rfl, HK2.out.put (by omega) _, (HB2.out.mono (Nat.le_of_lt HL.out)).setCell (Nat.le_refl _) _⟩
set_option maxHeartbeats 1000000 in
theorem set_2 (w : World) (k : Nat) (x : Cf) (s : ByteArray) (v : El) (n : Int) (hk : CfAt w k x) (hv : v.fine) (hn : v.num = some n) (hs : s.size ≤ 1073741824) (hw : word s = 2) : Calls Try.prog 26 #[.pointer (some ⟨k, 0, none⟩), .string s, v.val] w (Sets k (x.put 2 (narrow n)) true w) := by
  have C0 := fun W => number_el W v hv
  rw [hn] at C0
  obtain ⟨Q, hQ⟩ : ∃ Q, Q = bs (upperB s.data.toList) := ⟨_, rfl⟩
  have U0 := fun W => upper_any W s hs
  unfold Uppers at U0
  rw [← hQ] at U0
  have hall := word_2 hw
  obtain ⟨g0, g1, g2⟩ := hall
  have q0 := q_no hQ g0
  have q1 := q_no hQ g1
  have q2 := q_is hQ g2
  have C := Lib.hid C0
  have U := Lib.hid U0
  have HK := Lib.hid hk
  have hlt := hk.lt
  have HL := Lib.hid hlt
  clear C0 U0 hn hk hv hlt hQ hw hs g0 g1 g2
  go_enter Try.func26, Try.ntmps26
  go_wp2_with fail
  refine (C.out _).mono ?_
  rintro e w1 ⟨rfl, hb⟩
  have HB := Lib.hid hb
  clear hb
  go_wp2_with fail
  refine (U.out _).mono ?_
  rintro e w2 ⟨rfl, hb⟩
  have HB2 := Lib.hid (step HB.out hb)
  clear hb
  have HK2 := Lib.hid (HK.out.below HB2.out HL.out)
  have hc := HK2.out.cells 2 (by omega)
  have hf := HK2.out.free 2
  go_wp2_with fail
  refine (narrow_any _ _).mono ?_
  rintro e w3 ⟨rfl, rfl⟩
  go_wp2
  go_ret
  exact ⟨rfl, HK2.out.put (by omega) _, (HB2.out.mono (Nat.le_of_lt HL.out)).setCell (Nat.le_refl _) _⟩
set_option maxHeartbeats 1000000 in
theorem set_3 (w : World) (k : Nat) (x : Cf) (s : ByteArray) (v : El) (n : Int) (hk : CfAt w k x) (hv : v.fine) (hn : v.num = some n) (hs : s.size ≤ 1073741824) (hw : word s = 3) : Calls Try.prog 26 #[.pointer (some ⟨k, 0, none⟩), .string s, v.val] w (Sets k (x.put 3 (narrow n)) true w) := by
  have C0 := fun W => number_el W v hv
  rw [hn] at C0
  obtain ⟨Q, hQ⟩ : ∃ Q, Q = bs (upperB s.data.toList) := ⟨_, rfl⟩
  have U0 := fun W => upper_any W s hs
  unfold Uppers at U0
  rw [← hQ] at U0
  have hall := word_3 hw
  obtain ⟨g0, g1, g2, g3⟩ := hall
  have q0 := q_no hQ g0
  have q1 := q_no hQ g1
  have q2 := q_no hQ g2
  have q3 := q_is hQ g3
  have C := Lib.hid C0
  have U := Lib.hid U0
  have HK := Lib.hid hk
  have hlt := hk.lt
  have HL := Lib.hid hlt
  clear C0 U0 hn hk hv hlt hQ hw hs g0 g1 g2 g3
  go_enter Try.func26, Try.ntmps26
  go_wp2_with fail
  refine (C.out _).mono ?_
  rintro e w1 ⟨rfl, hb⟩
  have HB := Lib.hid hb
  clear hb
  go_wp2_with fail
  refine (U.out _).mono ?_
  rintro e w2 ⟨rfl, hb⟩
  have HB2 := Lib.hid (step HB.out hb)
  clear hb
  have HK2 := Lib.hid (HK.out.below HB2.out HL.out)
  have hc := HK2.out.cells 3 (by omega)
  have hf := HK2.out.free 3
  go_wp2_with fail
  refine (narrow_any _ _).mono ?_
  rintro e w3 ⟨rfl, rfl⟩
  go_wp2
  go_ret
  exact ⟨rfl, HK2.out.put (by omega) _, (HB2.out.mono (Nat.le_of_lt HL.out)).setCell (Nat.le_refl _) _⟩
set_option maxHeartbeats 1000000 in
theorem set_4 (w : World) (k : Nat) (x : Cf) (s : ByteArray) (v : El) (n : Int) (hk : CfAt w k x) (hv : v.fine) (hn : v.num = some n) (hs : s.size ≤ 1073741824) (hw : word s = 4) : Calls Try.prog 26 #[.pointer (some ⟨k, 0, none⟩), .string s, v.val] w (Sets k (x) false w) := by
  have C0 := fun W => number_el W v hv
  rw [hn] at C0
  obtain ⟨Q, hQ⟩ : ∃ Q, Q = bs (upperB s.data.toList) := ⟨_, rfl⟩
  have U0 := fun W => upper_any W s hs
  unfold Uppers at U0
  rw [← hQ] at U0
  have hall := word_4 hw
  obtain ⟨g0, g1, g2, g3⟩ := hall
  have q0 := q_no hQ g0
  have q1 := q_no hQ g1
  have q2 := q_no hQ g2
  have q3 := q_no hQ g3
  have C := Lib.hid C0
  have U := Lib.hid U0
  have HK := Lib.hid hk
  have hlt := hk.lt
  have HL := Lib.hid hlt
  clear C0 U0 hn hk hv hlt hQ hw hs g0 g1 g2 g3
  go_enter Try.func26, Try.ntmps26
  go_wp2_with fail
  refine (C.out _).mono ?_
  rintro e w1 ⟨rfl, hb⟩
  have HB := Lib.hid hb
  clear hb
  go_wp2_with fail
  refine (U.out _).mono ?_
  rintro e w2 ⟨rfl, hb⟩
  have HB2 := Lib.hid (step HB.out hb)
  clear hb
  have HK2 := Lib.hid (HK.out.below HB2.out HL.out)
  go_wp2
  go_ret
  exact ⟨rfl, HK2.out, HB2.out.mono (Nat.le_of_lt HL.out)⟩
theorem set_any (w : World) (k : Nat) (x : Cf) (s : ByteArray) (v : El) (hk : CfAt w k x) (hv : v.fine) (hs : s.size ≤ 1073741824) : Calls Try.prog 26 #[.pointer (some ⟨k, 0, none⟩), .string s, v.val] w (Sets k (setC x s v) (setK s v) w) := by
  unfold setC setK
  cases hn : v.num with
  | none => exact set_none w k x s v hk hv hn
  | some n =>
    have hle := word_le s
    rcases (show word s = 0 ∨ word s = 1 ∨ word s = 2 ∨ word s = 3 ∨ word s = 4 by omega) with h | h | h | h | h
    · rw [h]; exact set_0 w k x s v n hk hv hn hs h
    · rw [h]; exact set_1 w k x s v n hk hv hn hs h
    · rw [h]; exact set_2 w k x s v n hk hv hn hs h
    · rw [h]; exact set_3 w k x s v n hk hv hn hs h
    · rw [h]; exact set_4 w k x s v n hk hv hn hs h
end Go.Proofs.Ytifogkacjfpipaa
