/- The contract of 'values': what Int, Flag and Must tell of values of each type. -/
import Derived.Test.YtifogkacjfpipaaKnown
import Derived.Test.YtifogkacjfpipaaNameRefCountOne
namespace Go.Proofs.Ytifogkacjfpipaa
open Go.RowKit
open Go.RuneMath
set_option linter.unusedVariables false

/-- Values that stand for no number, and such that switch nothing, in a block. -/
def NoNum (v : Value) : Prop := ∀ W, Calls Try.prog 13 #[v, .int .i64 0, .bool false] W fun e w' => e = .returned (.bool true) ∧ Below W.heap.size W w'
def NoFlag (v : Value) : Prop := ∀ W, Calls Try.prog 14 #[v, .bool false, .bool false] W fun e w' => e = .returned (.bool true) ∧ Below W.heap.size W w'
theorem noNum_of {t : Nat} (x3 : t ≠ 3) (x2 : t ≠ 2) (x21 : t ≠ 21) (x9 : t ≠ 9) (v : Value) : NoNum (.iface t v) := fun W => ints_of (fun W => number_none W x3 x2 x21 x9 v) W
theorem noFlag_of {t : Nat} (x4 : t ≠ 4) (x3 : t ≠ 3) (v : Value) : NoFlag (.iface t v) := fun W => flags_of (fun W => truth_none W x4 x3 v) W
theorem noNum_nil : NoNum .nilIface := fun W => ints_of (fun W => number_nil W) W
theorem noFlag_nil : NoFlag .nilIface := fun W => flags_of (fun W => truth_nil W) W
def v9 (B : Nat) (b : Bool) : List Value := [.nilIface, .iface 41 (.float .f64 4609434218613702656), .iface 43 (.agg #[.int .i64 2]), .iface 44 (.pointer (some ⟨B, 0, none⟩)), .iface 33 (.slice (some ⟨B + 1, 0, none⟩) 1 1), .iface 45 (.int .u64 3), .iface 46 (.slice (some ⟨B + 1 + 1, 0, none⟩) 1 1), .iface 29 (.int .i64 1), .iface 4 (.bool b)]
def v8 (B : Nat) (n r : Int) (s : ByteArray) : List Value := [.nilIface, .iface 41 (.float .f64 4609434218613702656), .iface 43 (.agg #[.int .i64 2]), .iface 2 (.int .i64 n), .iface 21 (.int .i32 r), .iface 9 (.string s), .iface 9 (.string ⟨#[116, 114, 117, 101]⟩), .iface 48 (.slice (some ⟨B, 0, none⟩) 1 1)]
theorem v9_none (B : Nat) (b : Bool) : ∀ (i : Nat) v, (v9 B b)[i]? = some v → NoNum v := by
  intro i v h
  have hm := List.mem_of_getElem? h
  simp only [v9, List.mem_cons, List.not_mem_nil, or_false] at hm
  obtain rfl | rfl | rfl | rfl | rfl | rfl | rfl | rfl | rfl := hm
  · exact noNum_nil
  all_goals exact noNum_of (by decide) (by decide) (by decide) (by decide) _
theorem v8_none (B : Nat) (n r : Int) (s : ByteArray) : ∀ (i : Nat) v, (v8 B n r s)[i]? = some v → NoFlag v := by
  intro i v h
  have hm := List.mem_of_getElem? h
  simp only [v8, List.mem_cons, List.not_mem_nil, or_false] at hm
  obtain rfl | rfl | rfl | rfl | rfl | rfl | rfl | rfl := hm
  · exact noFlag_nil
  all_goals exact noFlag_of (by decide) (by decide) _
theorem row_at {w : World} {B : Nat} {l : List Value} {t : Nat} (h : w.heap[B]? = some (.cells l.toArray t (0, 0))) : ∀ (i : Nat) v, l[i]? = some v → w.cell? ⟨B, i, none⟩ = some v := by
  intro i v hi
  rw [cell_of_row _ _ i _ _ _ h]
  simpa using hi
theorem row_new {V : World} {K : Nat} {o : Obj} (h : K = V.heap.size) : (V.alloc o).heap[K]? = some o := by
  rw [h]
  exact heap_alloc_new V o
theorem on {w W : World} {a : Addr} {u : Value} (h : Below w.heap.size w W) (ha : w.cell? a = some u) : W.cell? a = some u := (h.cell (World.block_lt_of_cell? _ _ ha)).trans ha
theorem count_is (w : World) (s : ByteArray) (hs : s.size ≤ 1000) (m : Nat) (hm : countB s.data.toList = m) : Calls Try.prog 15 #[.string s] w fun e w' => e = .returned (.int .i64 (m : Int)) ∧ Below w.heap.size w w' := by
  have h := ref_count_any w s (by omega)
  unfold Counts at h
  rw [hm] at h
  exact h
theorem str_is (w : World) (s : ByteArray) (hs : s.size ≤ 1000) (m : Nat) (hm : countB s.data.toList = m) : Calls Try.prog 13 #[.iface 9 (.string s), .int .i64 (m : Int), .bool true] w fun e w' => e = .returned (.bool true) ∧ Below w.heap.size w w' := by
  have h := ints_of (fun W => number_str W s (by omega)) w
  rw [hm] at h
  exact h
set_option maxHeartbeats 4000000 in
set_option maxRecDepth 100000 in
theorem values_any (w : World) (n r : Int) (s : ByteArray) (b : Bool) (hr : (Lit.int .i32 r).wf = true) (hs : s.size ≤ 1000) : Calls Try.prog 7 #[.int .i64 n, .int .i32 r, .string s, .bool b] w fun e w' => e = .returned (.bool true) ∧ Below w.heap.size w w' := by
  have HR := Lib.hid hr
  have HS := Lib.hid hs
  clear hr hs
  go_enter Try.func7, Try.ntmps7
  go_wp2
  go_loopw [10, 30] (fun v k wr => ∃ j : Nat, k = .int .i64 j ∧ j ≤ 9 ∧ Below w.heap.size w wr ∧ ∀ (i : Nat) u, (v9 w.heap.size b)[i]? = some u → wr.cell? ⟨w.heap.size + 1 + 1 + 1, i, none⟩ = some u) (fun _ k _ => 9 - (intOf k).toNat)
  case atStart => exact ⟨0, rfl, by omega, ((((Below.refl _ w).alloc (Nat.le_refl _) _).alloc (by simp) _).alloc (by simp; omega) _).alloc (by simp; omega) _, row_at (row_new (by simp))⟩
  case round =>
    obtain ⟨j, rfl, hj, hb, hc⟩ := hrel
    have HB := Lib.hid hb
    have HC := Lib.hid hc
    clear hb hc
    by_cases h9 : j < 9
    · obtain ⟨u, hu⟩ : ∃ u, (v9 w.heap.size b)[j]? = some u := ⟨_, List.getElem?_eq_getElem (by simp [v9]; omega)⟩
      have hcell := HC.out j u hu
      have C := Lib.hid (v9_none w.heap.size b j u hu)
      clear hu
      go_wp2_with fail
      refine (C.out _).mono ?_
      rintro e w' ⟨rfl, hb⟩
      have HB2 := Lib.hid (HB.out.trans (hb.mono HB.out.size))
      have HC2 := Lib.hid (fun i u hi => on hb (HC.out i u hi))
      clear hb hcell
      go_wp2
      go_roundw
      case rel => exact ⟨j + 1, by go_num, by omega, HB2.out, HC2.out⟩
      case measure => simp [intOf]; omega
    · obtain ⟨w5, hw5⟩ : ∃ w5, w5 = wr := ⟨_, rfl⟩
      subst hw5
      have hd9 : decide ((j : Int) < 9) = false := by simp; omega
      clear HC
      go_wp2
      go_loopw [12, 52] (fun v k wt => ∃ i : Nat, k = .int .i64 i ∧ i ≤ 8 ∧ Below w.heap.size w wt ∧ ∀ (m : Nat) u, (v8 w5.heap.size n r s)[m]? = some u → wt.cell? ⟨w5.heap.size + 1, m, none⟩ = some u) (fun _ k _ => 8 - (intOf k).toNat)
      case atStart => exact ⟨0, rfl, by omega, (HB.out.alloc HB.out.size _).alloc (by have := HB.out.size; simp; omega) _, row_at (row_new (by simp))⟩
      case round =>
        obtain ⟨i, rfl, hi, hb, hc⟩ := hrel
        have HB2 := Lib.hid hb
        have HC := Lib.hid hc
        clear hb hc
        by_cases h8 : i < 8
        · obtain ⟨u, hu⟩ : ∃ u, (v8 w5.heap.size n r s)[i]? = some u := ⟨_, List.getElem?_eq_getElem (by simp [v8]; omega)⟩
          have hcell := HC.out i u hu
          have C := Lib.hid (v8_none w5.heap.size n r s i u hu)
          clear hu
          go_wp2_with fail
          refine (C.out _).mono ?_
          rintro e w' ⟨rfl, hb⟩
          have HB3 := Lib.hid (HB2.out.trans (hb.mono HB2.out.size))
          have HC3 := Lib.hid (fun i u hi => on hb (HC.out i u hi))
          clear hb hcell
          go_wp2
          go_roundw
          case rel => exact ⟨i + 1, by go_num, by omega, HB3.out, HC3.out⟩
          case measure => simp [intOf]; omega
        · have hd8 : decide ((i : Int) < 8) = false := by simp; omega
          obtain ⟨m, hm⟩ : ∃ m, countB s.data.toList = m := ⟨_, rfl⟩
          have hwr : wrap64 r = r := wrap_of_i32 HR.out
          clear HC
          go_wp2_with fail
          refine (ints_of (fun W => number_i64 W n) _).mono ?_
          rintro e w1 ⟨rfl, hb⟩
          have HW1 := Lib.hid (HB2.out.trans (hb.mono HB2.out.size))
          clear hb
          go_wp2_with fail
          refine (ints_of (fun W => number_int W n) _).mono ?_
          rintro e w2 ⟨rfl, hb⟩
          have HW2 := Lib.hid (HW1.out.trans (hb.mono HW1.out.size))
          clear hb
          go_wp2_with fail
          refine (ints_of (fun W => number_i32 W r HR.out) _).mono ?_
          rintro e w3 ⟨rfl, hb⟩
          have HW3 := Lib.hid (HW2.out.trans (hb.mono HW2.out.size))
          clear hb
          go_wp2_with fail
          refine (count_is _ s HS.out m hm).mono ?_
          rintro e w4 ⟨rfl, hb⟩
          have HW4 := Lib.hid (HW3.out.trans (hb.mono HW3.out.size))
          clear hb
          go_wp2_with fail
          refine (str_is _ s HS.out m hm).mono ?_
          rintro e w5 ⟨rfl, hb⟩
          have HW5 := Lib.hid (HW4.out.trans (hb.mono HW4.out.size))
          clear hb
          go_wp2_with fail
          refine (flags_of (fun W => truth_bool W b) _).mono ?_
          rintro e w6 ⟨rfl, hb⟩
          have HW6 := Lib.hid (HW5.out.trans (hb.mono HW5.out.size))
          clear hb
          go_wp2_with fail
          refine (flags_of (fun W => truth_int W n) _).mono ?_
          rintro e w7 ⟨rfl, hb⟩
          have HW7 := Lib.hid (HW6.out.trans (hb.mono HW6.out.size))
          clear hb
          go_wp2_with fail
          refine (must_any _ n).mono ?_
          rintro e w8 ⟨rfl, rfl⟩
          go_wp2
          go_ret
          exact ⟨rfl, HW7.out⟩
end Go.Proofs.Ytifogkacjfpipaa
