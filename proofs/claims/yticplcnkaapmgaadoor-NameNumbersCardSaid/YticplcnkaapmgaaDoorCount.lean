/- The contracts of Count and Right, of the code and of the document's own answer. -/
import Derived.Test.YticplcnkaapmgaaDoorSmall
import Derived.Test.YticplcnkaapmgaaDoorShelf
import Derived.Lib.OthersKept
namespace Go.Proofs.YticplcnkaapmgaaDoor
open Go.RowKit
open Go.RuneMath
set_option linter.unusedVariables false

/-- The iterator of a string in block k stands at pos. -/
def ItAt (w : World) (k : Nat) (s : ByteArray) (pos : Nat) : Prop := w.heap[k]? = some (.stringIter s pos)
theorem it_start (w : World) (s : ByteArray) : ItAt (w.alloc (.stringIter s 0)) w.heap.size s 0 := by
  unfold ItAt
  exact heap_alloc_new w _
theorem it_pos {w : World} {k : Nat} {s : ByteArray} {pos : Nat} (h : ItAt w k s pos) : w.iterPos k = pos := by
  unfold ItAt at h
  simp [World.iterPos, h]
theorem it_next {w : World} {k : Nat} {s : ByteArray} {pos : Nat} (h : ItAt w k s pos) (pos' : Nat) : ItAt (w.iterAt k s pos') k s pos' := Lib.iterAt_heap w k s pos pos' h
theorem it_below {w w' : World} {k b : Nat} {s : ByteArray} {pos : Nat} (h : ItAt w k s pos) (hb : Below b w w') (hk : k < b) : ItAt w' k s pos := by
  unfold ItAt at *
  rw [hb.block k hk]
  exact h
theorem it_lt {w : World} {k : Nat} {s : ByteArray} {pos : Nat} (h : ItAt w k s pos) : k < w.heap.size := (Array.getElem?_eq_some_iff.1 h).1

theorem step {w a b : World} (h : Below w.heap.size w a) (k : Below a.heap.size a b) : Below w.heap.size w b := h.trans (k.mono h.size)

def Counts (s : ByteArray) (w : World) (e : Ending) (w' : World) : Prop := e = .returned (.int .i64 (countB s.data.toList : Nat)) ∧ Below w.heap.size w w'
theorem counts_mk {s : ByteArray} {w w' : World} {m : Nat} (h : m = countB s.data.toList) (hb : Below w.heap.size w w') : Counts s w (.returned (.int .i64 (m : Int))) w' := ⟨by rw [h], hb⟩
set_option maxHeartbeats 1000000 in
theorem count_any (w : World) (s : ByteArray) (hs : s.size ≤ 140737488355328) : Calls Tryd.prog 15 #[.string s] w (Counts s w) := by
  go_enter Tryd.func15, Tryd.ntmps15
  go_wp2
  go_loopw [3] (fun n wr => ∃ pos m : Nat, ItAt wr w.heap.size s pos ∧ Below w.heap.size w wr ∧ n = .int .i64 m ∧ m ≤ pos ∧ m ≤ s.size ∧ m + (rs s pos).length = countB s.data.toList) (fun _ wr => s.size - wr.iterPos w.heap.size)
  case atStart => exact ⟨0, 0, it_start w s, (Below.refl _ w).alloc (Nat.le_refl _) _, rfl, Nat.le_refl _, by omega, by rw [rs_zero]; unfold countB; omega⟩
  case round =>
    obtain ⟨pos, m, hit, hbw, rfl, hmp, hms, hcnt⟩ := hrel
    have HI := Lib.hid hit
    have HB := Lib.hid hbw
    have HC := Lib.hid hcnt
    clear hit hbw hcnt
    by_cases hp : pos < s.size
    · have hnx : ∀ ty, (Instr.next (.pointer (some ⟨w.heap.size, 0, none⟩)) true ty).run Tryd.prog wr = _ := fun ty => Lib.run_next_any_at wr w.heap.size s pos ty HI.out hp
      go_wp2
      go_roundw
      case rel =>
        have e := rs_step hp
        have hc := HC.out
        rw [e, List.length_cons] at hc
        have hl := runes_len s.data.toList
        have hw := Lib.width_pos s pos
        rw [← Lib.size_eq] at hl
        unfold countB at hc
        exact ⟨pos + (Utf8.decode s pos).2, m + 1, it_next HI.out _, Lib.below_iterAt HB.out (Nat.le_refl _) s _, by go_num, by omega, by omega, by unfold countB; omega⟩
      case measure =>
        have hw := Lib.width_pos s pos
        rw [it_pos (it_next HI.out _), it_pos HI.out]
        omega
    · have hnx : ∀ ty, (Instr.next (.pointer (some ⟨w.heap.size, 0, none⟩)) true ty).run Tryd.prog wr = _ := fun ty => Lib.run_next_end_at wr w.heap.size s pos ty HI.out hp
      go_wp2
      go_ret
      exact counts_mk (by have := HC.out; rw [rs_end hp] at this; simpa using this) HB.out
set_option maxHeartbeats 1000000 in
theorem ref_count_any (w : World) (s : ByteArray) (hs : s.size ≤ 140737488355328) : Calls Tryd.prog 19 #[.string s] w (Counts s w) := by
  go_enter Tryd.func19, Tryd.ntmps19
  go_wp2
  go_loopw [3] (fun n wr => ∃ pos m : Nat, ItAt wr w.heap.size s pos ∧ Below w.heap.size w wr ∧ n = .int .i64 m ∧ m ≤ pos ∧ m ≤ s.size ∧ m + (rs s pos).length = countB s.data.toList) (fun _ wr => s.size - wr.iterPos w.heap.size)
  case atStart => exact ⟨0, 0, it_start w s, (Below.refl _ w).alloc (Nat.le_refl _) _, rfl, Nat.le_refl _, by omega, by rw [rs_zero]; unfold countB; omega⟩
  case round =>
    obtain ⟨pos, m, hit, hbw, rfl, hmp, hms, hcnt⟩ := hrel
    have HI := Lib.hid hit
    have HB := Lib.hid hbw
    have HC := Lib.hid hcnt
    clear hit hbw hcnt
    by_cases hp : pos < s.size
    · have hnx : ∀ ty, (Instr.next (.pointer (some ⟨w.heap.size, 0, none⟩)) true ty).run Tryd.prog wr = _ := fun ty => Lib.run_next_any_at wr w.heap.size s pos ty HI.out hp
      go_wp2
      go_roundw
      case rel =>
        have e := rs_step hp
        have hc := HC.out
        rw [e, List.length_cons] at hc
        have hl := runes_len s.data.toList
        have hw := Lib.width_pos s pos
        rw [← Lib.size_eq] at hl
        unfold countB at hc
        exact ⟨pos + (Utf8.decode s pos).2, m + 1, it_next HI.out _, Lib.below_iterAt HB.out (Nat.le_refl _) s _, by go_num, by omega, by omega, by unfold countB; omega⟩
      case measure =>
        have hw := Lib.width_pos s pos
        rw [it_pos (it_next HI.out _), it_pos HI.out]
        omega
    · have hnx : ∀ ty, (Instr.next (.pointer (some ⟨w.heap.size, 0, none⟩)) true ty).run Tryd.prog wr = _ := fun ty => Lib.run_next_end_at wr w.heap.size s pos ty HI.out hp
      go_wp2
      go_ret
      exact counts_mk (by have := HC.out; rw [rs_end hp] at this; simpa using this) HB.out

/-! ### Right -/
def Rights (s : ByteArray) (w : World) (e : Ending) (w' : World) : Prop := e = .returned (.bool (rightB s.data.toList)) ∧ Below w.heap.size w w'
theorem rights_mk {s : ByteArray} {w w' : World} {b : Bool} (h : b = rightB s.data.toList) (hb : Below w.heap.size w w') : Rights s w (.returned (.bool b)) w' := ⟨by rw [h], hb⟩
theorem right_many {l pre tl : List Nat} {r : Nat} (h : l = pre ++ r :: tl) (h40 : pre.length = 40) : rightR l = false := by
  subst h
  unfold rightR
  simp
  omega
theorem right_bad {l pre tl : List Nat} {r : Nat} (h : l = pre ++ r :: tl) (hr : okR r = false) : rightR l = false := by
  subst h
  unfold rightR
  simp [hr]
theorem all_snoc {pre : List Nat} {r : Nat} (h : pre.all okR = true) (hr : okR r = true) : (pre ++ [r]).all okR = true := by simp [h, hr]
theorem split_snoc {l pre tl : List Nat} {r : Nat} (h : l = pre ++ r :: tl) : l = (pre ++ [r]) ++ tl := by rw [h]; simp
set_option maxHeartbeats 1000000 in
theorem right_any (w : World) (s : ByteArray) : Calls Tryd.prog 13 #[.string s] w (Rights s w) := by
  go_enter Tryd.func13, Tryd.ntmps13
  go_wp2
  go_loopw [3] (fun n wr => ∃ (pos m : Nat) (pre : List Nat), ItAt wr w.heap.size s pos ∧ Below w.heap.size w wr ∧ n = .int .i64 m ∧ m ≤ 40 ∧ pre.length = m ∧ runes s.data.toList = pre ++ rs s pos ∧ pre.all okR = true) (fun _ wr => s.size - wr.iterPos w.heap.size)
  case atStart => exact ⟨0, 0, [], it_start w s, (Below.refl _ w).alloc (Nat.le_refl _) _, rfl, by omega, rfl, by rw [rs_zero]; rfl, rfl⟩
  case round =>
    obtain ⟨pos, m, pre, hit, hbw, rfl, hm40, hlen, hsp, hall⟩ := hrel
    have HI := Lib.hid hit
    have HB := Lib.hid hbw
    have HL := Lib.hid hlen
    have HS := Lib.hid hsp
    have HA := Lib.hid hall
    clear hit hbw hlen hsp hall
    by_cases hp : pos < s.size
    · have hnx : ∀ ty, (Instr.next (.pointer (some ⟨w.heap.size, 0, none⟩)) true ty).run Tryd.prog wr = _ := fun ty => Lib.run_next_any_at wr w.heap.size s pos ty HI.out hp
      have HW := Lib.hid (Lib.width_pos s pos)
      have hst := HS.out
      rw [rs_step hp] at hst
      obtain ⟨r, hr⟩ : ∃ r, r = (Utf8.decode s pos).1 := ⟨_, rfl⟩
      obtain ⟨k, hk⟩ : ∃ k, k = (Utf8.decode s pos).2 := ⟨_, rfl⟩
      rw [← hr, ← hk] at hst
      rw [← hk] at HW
      simp only [← hr, ← hk] at hnx
      have HT := Lib.hid hst
      clear hst hr hk
      obtain ⟨b, hb⟩ : ∃ b, b = okR r := ⟨_, rfl⟩
      have CA0 := fun W => allowed_any W r
      rw [← hb] at CA0
      have CA := Lib.hid CA0
      have HK := Lib.hid hb
      clear CA0 hb
      by_cases h40 : m = 40
      · have HF : Hid (false = rightB s.data.toList) := (right_many HT.out (by rw [HL.out]; exact h40)).symm
        subst h40
        go_wp2
        go_ret
        exact rights_mk HF.out (Lib.below_iterAt HB.out (Nat.le_refl _) s _)
      · have hm1 : m + 1 ≤ 40 := by omega
        cases b
        · have HF : Hid (false = rightB s.data.toList) := (right_bad HT.out HK.out.symm).symm
          go_wp2_with (go_at_call 28; refine (CA.out _).mono ?_; rintro e w' ⟨rfl, rfl⟩)
          all_goals first
            | (exfalso; omega)
            | (go_ret; exact rights_mk HF.out (Lib.below_iterAt HB.out (Nat.le_refl _) s _))
        · go_wp2_with (go_at_call 28; refine (CA.out _).mono ?_; rintro e w' ⟨rfl, rfl⟩)
          all_goals first
            | (exfalso; omega)
            | (go_roundw
               case rel => exact ⟨pos + k, m + 1, pre ++ [r], it_next HI.out _, Lib.below_iterAt HB.out (Nat.le_refl _) s _, by go_num, hm1, by rw [List.length_append, HL.out]; rfl, split_snoc HT.out, all_snoc HA.out HK.out.symm⟩
               case measure =>
                 rw [it_pos (it_next HI.out _), it_pos HI.out]
                 have := HW.out
                 omega)
    · have hnx : ∀ ty, (Instr.next (.pointer (some ⟨w.heap.size, 0, none⟩)) true ty).run Tryd.prog wr = _ := fun ty => Lib.run_next_end_at wr w.heap.size s pos ty HI.out hp
      have HF : Hid (decide (0 < m) = rightB s.data.toList) := by
        show _ = _
        unfold rightB rightR
        rw [HS.out, rs_end hp, List.append_nil, HA.out, HL.out, Bool.eq_iff_iff]
        simp
        omega
      go_wp2
      go_ret
      exact rights_mk HF.out HB.out
set_option maxHeartbeats 1000000 in
theorem ref_right_any (w : World) (s : ByteArray) (hs : s.size ≤ 140737488355328) : Calls Tryd.prog 18 #[.string s] w (Rights s w) := by
  go_enter Tryd.func18, Tryd.ntmps18
  go_wp2
  go_loopw [] (fun wr => ∃ (pos : Nat) (pre : List Nat), ItAt wr w.heap.size s pos ∧ Below w.heap.size w wr ∧ runes s.data.toList = pre ++ rs s pos ∧ pre.all okR = true) (fun wr => s.size - wr.iterPos w.heap.size)
  case atStart => exact ⟨0, [], it_start w s, (Below.refl _ w).alloc (Nat.le_refl _) _, by rw [rs_zero]; rfl, rfl⟩
  case round =>
    obtain ⟨pos, pre, hit, hbw, hsp, hall⟩ := hrel
    have HI := Lib.hid hit
    have HB := Lib.hid hbw
    have HS := Lib.hid hsp
    have HA := Lib.hid hall
    clear hit hbw hsp hall
    by_cases hp : pos < s.size
    · have hnx : ∀ ty, (Instr.next (.pointer (some ⟨w.heap.size, 0, none⟩)) true ty).run Tryd.prog wr = _ := fun ty => Lib.run_next_any_at wr w.heap.size s pos ty HI.out hp
      have HW := Lib.hid (Lib.width_pos s pos)
      have hst := HS.out
      rw [rs_step hp] at hst
      obtain ⟨r, hr⟩ : ∃ r, r = (Utf8.decode s pos).1 := ⟨_, rfl⟩
      obtain ⟨k, hk⟩ : ∃ k, k = (Utf8.decode s pos).2 := ⟨_, rfl⟩
      rw [← hr, ← hk] at hst
      rw [← hk] at HW
      simp only [← hr, ← hk] at hnx
      have HT := Lib.hid hst
      clear hst hr hk
      obtain ⟨b, hb⟩ : ∃ b, b = okR r := ⟨_, rfl⟩
      have CA0 := fun W => rune1_any W r
      rw [← hb] at CA0
      have CA := Lib.hid CA0
      have HK := Lib.hid hb
      clear CA0 hb
      cases b
      · have HF : Hid (false = rightB s.data.toList) := (right_bad HT.out HK.out.symm).symm
        go_wp2_with (go_at_call 33; refine (CA.out _).mono ?_; rintro e w' ⟨rfl, rfl⟩)
        go_ret
        exact rights_mk HF.out (Lib.below_iterAt HB.out (Nat.le_refl _) s _)
      · go_wp2_with (go_at_call 33; refine (CA.out _).mono ?_; rintro e w' ⟨rfl, rfl⟩)
        go_roundw
        case rel => exact ⟨pos + k, pre ++ [r], it_next HI.out _, Lib.below_iterAt HB.out (Nat.le_refl _) s _, split_snoc HT.out, all_snoc HA.out HK.out.symm⟩
        case measure =>
          rw [it_pos (it_next HI.out _), it_pos HI.out]
          have := HW.out
          omega
    · have hnx : ∀ ty, (Instr.next (.pointer (some ⟨w.heap.size, 0, none⟩)) true ty).run Tryd.prog wr = _ := fun ty => Lib.run_next_end_at wr w.heap.size s pos ty HI.out hp
      obtain ⟨c, hc⟩ : ∃ c, c = countB s.data.toList := ⟨_, rfl⟩
      have HF : Hid (rightB s.data.toList = (decide (1 ≤ c) && decide (c ≤ 40))) := by
        show _ = _
        have e := HS.out
        rw [rs_end hp, List.append_nil] at e
        unfold rightB rightR
        rw [hc]
        unfold countB
        rw [e, HA.out]
        rfl
      have CC0 := fun W => ref_count_any W s hs
      unfold Counts at CC0
      rw [← hc] at CC0
      have CC := Lib.hid CC0
      clear CC0 hc
      by_cases h1 : 1 ≤ c
      · have HG : Hid (decide (c ≤ 40) = rightB s.data.toList) := by
          show _ = _
          rw [HF.out, decide_eq_true h1]
          rfl
        go_wp2_with fail
        refine (CC.out _).mono ?_
        rintro e w1 ⟨rfl, hb1⟩
        have HN1 := Lib.hid hb1
        clear hb1
        go_wp2_with fail
        refine (CC.out _).mono ?_
        rintro e w2 ⟨rfl, hb2⟩
        have HN2 := Lib.hid hb2
        clear hb2
        go_wp2
        go_ret
        have e : decide ((c : Int) ≤ 40) = rightB s.data.toList := by
          rw [← HG.out, decide_eq_decide]
          omega
        exact rights_mk e (step (step HB.out HN1.out) HN2.out)
      · have HG : Hid (false = rightB s.data.toList) := by
          show _ = _
          rw [HF.out, decide_eq_false h1]
          rfl
        go_wp2_with fail
        refine (CC.out _).mono ?_
        rintro e w1 ⟨rfl, hb1⟩
        have HN1 := Lib.hid hb1
        clear hb1
        go_wp2
        go_ret
        exact rights_mk HG.out (step HB.out HN1.out)
end Go.Proofs.YticplcnkaapmgaaDoor
