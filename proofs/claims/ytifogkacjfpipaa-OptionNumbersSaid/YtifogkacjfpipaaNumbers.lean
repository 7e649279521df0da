/- The walk of 'OptionNumbers'. -/
import Derived.Test.YtifogkacjfpipaaGrowAny
import Derived.Deep.Cut
import Derived.Deep.CutRange
namespace Go.Proofs.Ytifogkacjfpipaa
open Go.RowKit
open Go.RuneMath
set_option linter.unusedVariables false

theorem strs_row {W : World} {K : Nat} {l : List ByteArray} (h : W.heap[K]? = some (.cells (l.map Value.string).toArray 9 (0, 0))) : StrsAt W (some ⟨K, 0, none⟩) l := by
  intro i s hi
  refine ⟨K, 0, rfl, lt_of_block h, ?_⟩
  rw [Nat.zero_add]
  refine row_at h i _ ?_
  rw [List.getElem?_map, hi]
  rfl
theorem nums_row {W : World} {K : Nat} {l : List Int} (h : W.heap[K]? = some (.cells (l.map (Value.int .i64)).toArray 2 (0, 0))) : NumsAt W (some ⟨K, 0, none⟩) l := by
  intro i s hi
  refine ⟨K, 0, rfl, lt_of_block h, ?_⟩
  rw [Nat.zero_add]
  refine row_at h i _ ?_
  rw [List.getElem?_map, hi]
  rfl
def four : List ByteArray := [⟨#[]⟩, ⟨#[97]⟩, ⟨#[228, 184, 150, 255]⟩, ⟨#[116, 101, 120, 116]⟩]
def five : List Int := [0, -1, 9223372036854775807, -9223372036854775808, 7]
theorem four_at {j : Nat} (h : j < 4) : ∃ S, four[j]? = some S ∧ S.size ≤ 8 := by
  match j, h with
  | 0, _ => exact ⟨_, rfl, by decide⟩
  | 1, _ => exact ⟨_, rfl, by decide⟩
  | 2, _ => exact ⟨_, rfl, by decide⟩
  | 3, _ => exact ⟨_, rfl, by decide⟩
theorem five_at {j : Nat} (h : j < 5) : ∃ n, five[j]? = some n := ⟨_, List.getElem?_eq_getElem h⟩
def seven : List ByteArray := [⟨#[115, 101, 103, 109, 101, 110, 116]⟩, ⟨#[73, 78, 68, 69, 88]⟩, ⟨#[83, 110, 97, 112, 115, 104, 111, 116]⟩, ⟨#[99, 97, 112]⟩, ⟨#[99, 97, 112, 120]⟩, ⟨#[]⟩, ⟨#[99, 195, 161, 112]⟩]
theorem seven_at {j : Nat} (h : j < 7) : ∃ S, seven[j]? = some S ∧ S.size ≤ 8 := by
  match j, h with
  | 0, _ => exact ⟨_, rfl, by decide⟩
  | 1, _ => exact ⟨_, rfl, by decide⟩
  | 2, _ => exact ⟨_, rfl, by decide⟩
  | 3, _ => exact ⟨_, rfl, by decide⟩
  | 4, _ => exact ⟨_, rfl, by decide⟩
  | 5, _ => exact ⟨_, rfl, by decide⟩
  | 6, _ => exact ⟨_, rfl, by decide⟩
def sixN : List Int := [-1, 0, 1, 1073741824, 1073741825, 9223372036854775807]
theorem sixN_at {j : Nat} (h : j < 6) : ∃ n, sixN[j]? = some n := ⟨_, List.getElem?_eq_getElem h⟩
theorem row_old {V : World} {K : Nat} {o o2 : Obj} (h : K = V.heap.size) : ((V.alloc o).alloc o2).heap[K]? = some o := by
  rw [Below.heap_alloc _ _ _ (by rw [h, alloc_size]; omega)]
  exact row_new h
theorem row_older {V : World} {K : Nat} {o o2 o3 : Obj} (h : K = V.heap.size) : (((V.alloc o).alloc o2).alloc o3).heap[K]? = some o := by
  rw [Below.heap_alloc _ _ _ (by rw [h, alloc_size, alloc_size]; omega)]
  exact row_old h
theorem stepB {w a b : World} {o p : Obj} (h : Below w.heap.size w a) (k : Below ((a.alloc o).alloc p).heap.size ((a.alloc o).alloc p) b) : Below w.heap.size w b := step ((h.alloc (h.size) o).alloc (by rw [alloc_size]; have := h.size; omega) p) k
theorem stepC {w a b : World} {o p q : Obj} (h : Below w.heap.size w a) (k : Below (((a.alloc o).alloc p).alloc q).heap.size (((a.alloc o).alloc p).alloc q) b) : Below w.heap.size w b := step (((h.alloc (h.size) o).alloc (by rw [alloc_size]; have := h.size; omega) p).alloc (by rw [alloc_size, alloc_size]; have := h.size; omega) q) k
theorem two_good {A B : ByteArray} (hA : A.size ≤ 8) (hB : B.size ≤ 8) : ∀ s ∈ [A, B], s.size ≤ 1073741824 := by
  intro s hs
  simp only [List.mem_cons, List.not_mem_nil, or_false] at hs
  rcases hs with rfl | rfl <;> omega
theorem conf0 (W : World) (A B : ByteArray) (m n : Int) (K1 K2 : Nat) (hA : A.size ≤ 8) (hB : B.size ≤ 8) (h1 : W.heap[K1]? = some (.cells #[.string A, .string B] 9 (0, 0))) (h2 : W.heap[K2]? = some (.cells #[.int .i64 m, .int .i64 n] 2 (0, 0))) :
    Calls Try.prog 8 #[.slice none 0 0, .slice (some ⟨K1, 0, none⟩) 2 2, .slice (some ⟨K2, 0, none⟩) 2 2] W fun e w' => e = .returned (.bool true) ∧ Below W.heap.size W w' :=
  configs_any W none _ _ 0 2 2 [] [A, B] [m, n] (fun i c hi => by simp at hi) (strs_row (l := [A, B]) h1) (nums_row (l := [m, n]) h2) (two_good hA hB)
theorem confs_row {W : World} {K : Nat} {c : Cf} (h : W.heap[K]? = some (.cells #[.int .i64 c.a, .int .i64 c.b, .int .i64 c.c, .int .i64 c.d] 27 (0, 0))) : ConfsAt W (some ⟨K, 0, none⟩) [c] := by
  intro i d hi
  match i, hi with
  | 0, hi =>
    obtain rfl : c = d := by simpa using hi
    have hc : CfAt W K c := h
    exact ⟨K, 0, rfl, lt_of_block h, hc.cell0, hc.cell1, hc.cell2, hc.cell3⟩
theorem conf1 (W : World) (A B : ByteArray) (m n : Int) (K0 K1 K2 : Nat) (hA : A.size ≤ 8) (hB : B.size ≤ 8) (h0 : W.heap[K0]? = some (.cells #[.int .i64 1, .int .i64 2, .int .i64 3, .int .i64 4] 27 (0, 0))) (h1 : W.heap[K1]? = some (.cells #[.string A, .string B] 9 (0, 0))) (h2 : W.heap[K2]? = some (.cells #[.int .i64 m, .int .i64 n] 2 (0, 0))) :
    Calls Try.prog 8 #[.slice (some ⟨K0, 0, none⟩) 1 1, .slice (some ⟨K1, 0, none⟩) 2 2, .slice (some ⟨K2, 0, none⟩) 2 2] W fun e w' => e = .returned (.bool true) ∧ Below W.heap.size W w' :=
  configs_any W _ _ _ 1 2 2 [⟨1, 2, 3, 4⟩] [A, B] [m, n] (confs_row (c := ⟨1, 2, 3, 4⟩) h0) (strs_row (l := [A, B]) h1) (nums_row (l := [m, n]) h2) (two_good hA hB)
abbrev tFour : ByteArray := ⟨#[102, 111, 117, 114]⟩
abbrev tNothing : ByteArray := ⟨#[110, 111, 116, 104, 105, 110, 103]⟩
theorem n1 (w : World) (K : Nat) (hK : K = w.heap.size) : Calls Try.prog 9 #[.slice (some ⟨K, 0, none⟩) 4 4] (w.alloc (.cells #[.iface 9 (.string tSegment), .iface 9 (.string tCap), .iface 9 (.string tCap), .iface 3 (.int .i64 0)] 20)) fun e w' => e = .returned (.tuple #[.agg #[.int .i64 0, .int .i64 0, .int .i64 0, .int .i64 0], .int .i64 3]) ∧ Below w.heap.size w w' :=
  config_tell w hK [.str tSegment, .str tCap, .str tCap, .int 0] 0 0 0 0 3 (by decide) (by simp; exact ⟨good_str (by decide), good_str (by decide), good_int _⟩) (by decide +kernel)
theorem n2 (w : World) (K : Nat) (hK : K = w.heap.size) : Calls Try.prog 9 #[.slice (some ⟨K, 0, none⟩) 3 3] (w.alloc (.cells #[.iface 9 (.string tIndex), .iface 9 (.string tFour), .iface 3 (.int .i64 9)] 20)) fun e w' => e = .returned (.tuple #[.agg #[.int .i64 0, .int .i64 0, .int .i64 0, .int .i64 0], .int .i64 1]) ∧ Below w.heap.size w w' :=
  config_tell w hK [.str tIndex, .str tFour, .int 9] 0 0 0 0 1 (by decide) (by simp; exact ⟨good_str (by decide), good_str (by decide), good_int _⟩) (by decide +kernel)
theorem n3 (w : World) (K : Nat) (hK : K = w.heap.size) : Calls Try.prog 9 #[.slice (some ⟨K, 0, none⟩) 4 4] (w.alloc (.cells #[.iface 9 (.string tIndex), .iface 9 (.string tFour), .iface 9 (.string tCap), .iface 21 (.int .i32 97)] 20)) fun e w' => e = .returned (.tuple #[.agg #[.int .i64 1024, .int .i64 4, .int .i64 4, .int .i64 97], .int .i64 0]) ∧ Below w.heap.size w w' :=
  config_tell w hK [.str tIndex, .str tFour, .str tCap, .i32 97] 1024 4 4 97 0 (by decide) (by simp; exact ⟨good_str (by decide), good_str (by decide), good_str (by decide), ⟨show (Lit.int .i32 97).wf = true by decide, trivial⟩⟩) (by decide +kernel)
theorem n4 (w : World) (K : Nat) (hK : K = w.heap.size) : Calls Try.prog 9 #[.slice (some ⟨K, 0, none⟩) 3 3] (w.alloc (.cells #[.iface 27 (.agg #[.int .i64 0, .int .i64 0, .int .i64 0, .int .i64 0]), .iface 9 (.string tSegment), .iface 3 (.int .i64 1)] 20)) fun e w' => e = .returned (.tuple #[.agg #[.int .i64 0, .int .i64 0, .int .i64 0, .int .i64 0], .int .i64 3]) ∧ Below w.heap.size w w' :=
  config_tell w hK [.conf Cf.zero, .str tSegment, .int 1] 0 0 0 0 3 (by decide) (by simp; exact ⟨good_conf _, good_str (by decide), good_int _⟩) (by decide +kernel)
theorem n5 (w : World) (K : Nat) (hK : K = w.heap.size) : Calls Try.prog 9 #[.slice (some ⟨K, 0, none⟩) 4 4] (w.alloc (.cells #[.iface 9 (.string tIndex), .iface 3 (.int .i64 0), .iface 9 (.string tNothing), .iface 3 (.int .i64 1)] 20)) fun e w' => e = .returned (.tuple #[.agg #[.int .i64 0, .int .i64 0, .int .i64 0, .int .i64 0], .int .i64 1]) ∧ Below w.heap.size w w' :=
  config_tell w hK [.str tIndex, .int 0, .str tNothing, .int 1] 0 0 0 0 1 (by decide) (by simp; exact ⟨good_str (by decide), good_int _, good_str (by decide), good_int _⟩) (by decide +kernel)
set_option maxHeartbeats 8000000 in
set_option maxRecDepth 100000 in
theorem numbers_any (w : World) : Calls Try.prog 3 #[] w fun e w' => e = .returned (.bool true) ∧ Below w.heap.size w w' := by
  go_enter Try.func3, Try.ntmps3
  go_wp2
  go_loopw [24] (fun s24 wr => ∃ j : Nat, s24 = .int .i64 j ∧ j ≤ 4 ∧ Below w.heap.size w wr ∧ StrsAt wr (some ⟨w.heap.size, 0, none⟩) four) (fun k _ => 4 - (intOf k).toNat)
  case atStart => exact ⟨0, rfl, by omega, (Below.refl _ w).alloc (Nat.le_refl _) _, strs_row (row_new rfl)⟩
  case round =>
    obtain ⟨j, rfl, hj, hb, hs⟩ := hrel
    have HB := Lib.hid hb
    have HS := Lib.hid hs
    clear hb hs
    by_cases h4 : j < 4
    · obtain ⟨S, hS, hS8⟩ := four_at h4
      obtain ⟨b0, o0, e0, _, hcell⟩ := HS.out j S hS
      cases e0
      rw [Nat.zero_add] at hcell
      have HS8 := Lib.hid hS8
      have d4 : decide ((j : Int) < 4) = true := by simp; omega
      have i4 : (j : Int) < 4 := by omega
      obtain ⟨w5, hw5⟩ : ∃ w5, w5 = wr := ⟨_, rfl⟩
      subst hw5
      clear hS hS8
      go_wp2
      go_loopw [30] (fun s30 wr => ∃ i : Nat, s30 = .int .i64 i ∧ i ≤ 5 ∧ Below w5.heap.size w5 wr ∧ NumsAt wr (some ⟨w5.heap.size, 0, none⟩) five) (fun k _ => 5 - (intOf k).toNat)
      case atStart => exact ⟨0, rfl, by omega, (Below.refl _ w5).alloc (Nat.le_refl _) _, nums_row (row_new rfl)⟩
      case round =>
        obtain ⟨i, rfl, hi, hb, hn⟩ := hrel
        have HB2 := Lib.hid hb
        have HN := Lib.hid hn
        clear hb hn
        by_cases h5 : i < 5
        · obtain ⟨n, hn⟩ := five_at h5
          obtain ⟨b1, o1, e1, _, hcell2⟩ := HN.out i n hn
          cases e1
          rw [Nat.zero_add] at hcell2
          have C := Lib.hid (fun W => values_any W n (wrap32 n) S (decide (0 < n)) (wrap32_wf n) (by have := HS8.out; omega))
          clear hn
          have d5 : decide ((i : Int) < 5) = true := by simp; omega
          have i5 : (i : Int) < 5 := by omega
          go_wp2_with fail
          refine (C.out _).mono ?_
          rintro e w' ⟨rfl, hb⟩
          have HB3 := Lib.hid (HB2.out.trans (hb.mono HB2.out.size))
          have HN3 := Lib.hid (HN.out.below hb)
          clear hb hcell2
          go_wp2
          go_roundw
          case rel => exact ⟨i + 1, by go_num, by omega, HB3.out, HN3.out⟩
          case measure => simp [intOf]; omega
        · have d5 : decide ((i : Int) < 5) = false := by simp; omega
          have HB3 := Lib.hid (HB.out.trans (HB2.out.mono HB.out.size))
          have HS3 := Lib.hid (HS.out.below HB2.out)
          clear hcell
          go_wp2
          go_roundw
          case rel => exact ⟨j + 1, by go_num, by omega, HB3.out, HS3.out⟩
          case measure => simp [intOf]; omega
    · obtain ⟨w5, hw5⟩ : ∃ w5, w5 = wr := ⟨_, rfl⟩
      subst hw5
      have d4 : decide ((j : Int) < 4) = false := by simp; omega
      clear HS
      go_wp2
      go_loopw [47] (fun s47 wr => ∃ x : Nat, s47 = .int .i64 x ∧ x ≤ 7 ∧ Below w5.heap.size w5 wr ∧ StrsAt wr (some ⟨w5.heap.size, 0, none⟩) seven) (fun k _ => 7 - (intOf k).toNat)
      case atStart => exact ⟨0, rfl, by omega, (Below.refl _ w5).alloc (Nat.le_refl _) _, strs_row (row_new rfl)⟩
      case round =>
        obtain ⟨x, rfl, hx, hb, hs⟩ := hrel
        have HB1 := Lib.hid hb
        have HS1 := Lib.hid hs
        clear hb hs
        obtain ⟨w6, hw6⟩ : ∃ w6, w6 = wr := ⟨_, rfl⟩
        subst hw6
        by_cases hx7 : x < 7
        · obtain ⟨A, hA, hA8⟩ := seven_at hx7
          obtain ⟨b0, o0, e0, _, hcell⟩ := HS1.out x A hA
          cases e0
          rw [Nat.zero_add] at hcell
          have HA8 := Lib.hid hA8
          have dx : decide ((x : Int) < 7) = true := by simp; omega
          have ix : (x : Int) < 7 := by omega
          clear hA hA8
          go_wp2
          go_loopw [53] (fun s53 wr => ∃ y : Nat, s53 = .int .i64 y ∧ y ≤ 7 ∧ Below w6.heap.size w6 wr) (fun k _ => 7 - (intOf k).toNat)
          case atStart => exact ⟨0, rfl, by omega, Below.refl _ _⟩
          case round =>
            obtain ⟨y, rfl, hy, hb⟩ := hrel
            have HB2 := Lib.hid hb
            clear hb
            obtain ⟨w7, hw7⟩ : ∃ w7, w7 = wr := ⟨_, rfl⟩
            subst hw7
            by_cases hy7 : y < 7
            · obtain ⟨B, hB, hB8⟩ := seven_at hy7
              obtain ⟨b1, o1, e1, _, hcell2⟩ := (HS1.out.below HB2.out) y B hB
              cases e1
              rw [Nat.zero_add] at hcell2
              have HB8 := Lib.hid hB8
              have dy : decide ((y : Int) < 7) = true := by simp; omega
              have iy : (y : Int) < 7 := by omega
              clear hB hB8
              go_wp2
              go_loopw [59] (fun s59 wr => ∃ z : Nat, s59 = .int .i64 z ∧ z ≤ 6 ∧ Below w7.heap.size w7 wr ∧ NumsAt wr (some ⟨w7.heap.size, 0, none⟩) sixN) (fun k _ => 6 - (intOf k).toNat)
              case atStart => exact ⟨0, rfl, by omega, (Below.refl _ w7).alloc (Nat.le_refl _) _, nums_row (row_new rfl)⟩
              case round =>
                obtain ⟨z, rfl, hz, hb, hn⟩ := hrel
                have HB3 := Lib.hid hb
                have HN := Lib.hid hn
                clear hb hn
                by_cases hz6 : z < 6
                · obtain ⟨n, hn⟩ := sixN_at hz6
                  obtain ⟨b2, o2, e2, _, hcell3⟩ := HN.out z n hn
                  cases e2
                  rw [Nat.zero_add] at hcell3
                  have dz : decide ((z : Int) < 6) = true := by simp; omega
                  have iz : (z : Int) < 6 := by omega
                  have C1 := Lib.hid (fun W K1 K2 h1 h2 => conf0 W A B n 5 K1 K2 HA8.out HB8.out h1 h2)
                  have C2 := Lib.hid (fun W K0 K1 K2 h0 h1 h2 => conf1 W B A 9 n K0 K1 K2 HB8.out HA8.out h0 h1 h2)
                  clear hn
                  go_wp2_with fail
                  refine (C1.out _ _ _ ?_ ?_).mono ?_
                  · exact row_old (by simp)
                  · exact row_new (by simp)
                  rintro e w8 ⟨rfl, hb⟩
                  have HB4 := Lib.hid (stepB HB3.out hb)
                  have hb8 := hb
                  clear hb
                  go_wp2_with fail
                  refine (C2.out _ _ _ _ ?_ ?_ ?_).mono ?_
                  · exact row_older rfl
                  · exact row_old (by simp)
                  · exact row_new (by simp)
                  rintro e w9 ⟨rfl, hb⟩
                  have HB5 := Lib.hid (stepC HB4.out hb)
                  have HN5 := Lib.hid (HN.out.below (show Below wr.heap.size wr w9 from stepC (stepB (Below.refl _ wr) hb8) hb))
                  clear hb hcell3 hb8
                  go_wp2
                  go_roundw
                  case rel => exact ⟨z + 1, by go_num, by omega, HB5.out, HN5.out⟩
                  case measure => simp [intOf]; omega
                · have dz : decide ((z : Int) < 6) = false := by simp; omega
                  have HB5 := Lib.hid (HB2.out.trans (HB3.out.mono HB2.out.size))
                  clear HN hcell2
                  go_wp2
                  go_roundw
                  case rel => exact ⟨y + 1, by go_num, by omega, HB5.out⟩
                  case measure => simp [intOf]; omega
            · have dy : decide ((y : Int) < 7) = false := by simp; omega
              have HB4 := Lib.hid (HB1.out.trans (HB2.out.mono HB1.out.size))
              have HS4 := Lib.hid (HS1.out.below HB2.out)
              clear hcell
              go_wp2
              go_roundw
              case rel => exact ⟨x + 1, by go_num, by omega, HB4.out, HS4.out⟩
              case measure => simp [intOf]; omega
        · have dx : decide ((x : Int) < 7) = false := by simp; omega
          have HB2 := Lib.hid (HB.out.trans (HB1.out.mono HB.out.size))
          clear HS1 HB1 HB
          go_wp2_with fail
          refine (n1 _ _ (by simp)).mono ?_
          rintro e w7 ⟨rfl, hb⟩
          have HW7 := Lib.hid (HB2.out.trans (hb.mono HB2.out.size))
          clear hb
          go_wp2_with fail
          refine (n2 _ _ (by simp)).mono ?_
          rintro e w8 ⟨rfl, hb⟩
          have HW8 := Lib.hid (stepA HW7.out hb)
          clear hb
          go_wp2_with fail
          refine (n3 _ _ (by simp)).mono ?_
          rintro e w9 ⟨rfl, hb⟩
          have HW9 := Lib.hid (stepA HW8.out hb)
          clear hb
          go_wp2_with fail
          refine (n4 _ _ (by simp)).mono ?_
          rintro e w10 ⟨rfl, hb⟩
          have HW10 := Lib.hid (stepA HW9.out hb)
          have HC10 := Lib.hid hb
          clear hb
          go_wp2_with fail
          refine (n5 _ _ (by simp)).mono ?_
          rintro e w11 ⟨rfl, hb⟩
          have HW11 := Lib.hid (stepA HW10.out hb)
          have HC11 := Lib.hid (stepA HC10.out hb)
          clear hb
          have hcf := (conf_at w9 ⟨1024, 4, 4, 97⟩).below HC11.out (by simp)
          have x1 := hcf.cell1
          have x3 := hcf.cell3
          have hlt := hcf.lt
          clear hcf
          go_wp2_with fail
          refine (known_any _).mono ?_
          rintro e w12 ⟨rfl, hb⟩
          have HW12 := Lib.hid (stepA HW11.out hb)
          clear hb
          go_wp2
          go_ret
          exact ⟨rfl, HW12.out⟩
end Go.Proofs.Ytifogkacjfpipaa
