/- The walk of 'NameNumbers'. It asks that the library's two tables of runes hold what they begin with. -/
import Derived.Test.YticplcnkaapmgaaDoorTells
namespace Go.Proofs.YticplcnkaapmgaaDoor
open Go.RowKit
open Go.RuneMath
set_option linter.unusedVariables false

/-- The six numbers, the ten texts, in a new block. -/
def six (W : World) : World := W.alloc (.cells #[.int .i64 (-1), .int .i64 0, .int .i64 9, .int .i64 1099511627776, .int .i64 1099511627777, .int .i64 9223372036854775807] 2)
def ten (W : World) : World := W.alloc (.cells #[.string ⟨#[]⟩, .string ⟨#[46]⟩, .string ⟨#[48, 48, 48, 48, 48, 48, 48, 48, 48, 48, 48, 48, 48, 48, 48, 48, 48, 48, 48, 55, 46]⟩, .string ⟨#[48, 48, 48, 48, 48, 48, 48, 48, 48, 48, 48, 48, 48, 48, 48, 48, 48, 48, 48, 55, 46, 108, 111, 103, 46, 120]⟩, .string ⟨#[57, 57, 57, 57, 57, 57, 57, 57, 57, 57, 57, 57, 57, 57, 57, 57, 57, 57, 57, 57, 46, 108, 111, 103]⟩, .string ⟨#[48, 48, 48, 48, 48, 48, 48, 48, 48, 48, 48, 48, 48, 48, 48, 48, 48, 48, 48, 97, 46, 108, 111, 103]⟩, .string ⟨#[48, 48, 48, 48, 48, 48, 48, 48, 48, 48, 48, 48, 48, 48, 48, 48, 48, 48, 48, 55, 120, 108, 111, 103]⟩, .string ⟨#[255]⟩, .string ⟨#[239, 191, 189]⟩, .string ⟨#[97, 195, 169]⟩] 9)
theorem six_at (W w' : World) (hb : Below (six W).heap.size (six W) w') (i : Nat) (hi : i < 6) : ∃ x : Int, w'.cell? ⟨W.heap.size, i, none⟩ = some (.int .i64 x) := by
  have hg : (six W).heap[W.heap.size]? = some (.cells #[.int .i64 (-1), .int .i64 0, .int .i64 9, .int .i64 1099511627776, .int .i64 1099511627777, .int .i64 9223372036854775807] 2 (0, 0)) := heap_alloc_new W _
  rw [hb.cell (p := ⟨W.heap.size, i, none⟩) (Array.getElem?_eq_some_iff.1 hg).1, cell_of_row _ _ _ _ _ _ hg]
  match i, hi with
  | 0, _ => exact ⟨_, rfl⟩
  | 1, _ => exact ⟨_, rfl⟩
  | 2, _ => exact ⟨_, rfl⟩
  | 3, _ => exact ⟨_, rfl⟩
  | 4, _ => exact ⟨_, rfl⟩
  | 5, _ => exact ⟨_, rfl⟩
theorem ten_at (W w' : World) (hb : Below (ten W).heap.size (ten W) w') (i : Nat) (hi : i < 10) : ∃ K : ByteArray, w'.cell? ⟨W.heap.size, i, none⟩ = some (.string K) ∧ K.size ≤ 30 := by
  obtain ⟨cs, hcs, hg⟩ : ∃ cs : Array Value, cs = #[.string ⟨#[]⟩, .string ⟨#[46]⟩, .string ⟨#[48, 48, 48, 48, 48, 48, 48, 48, 48, 48, 48, 48, 48, 48, 48, 48, 48, 48, 48, 55, 46]⟩, .string ⟨#[48, 48, 48, 48, 48, 48, 48, 48, 48, 48, 48, 48, 48, 48, 48, 48, 48, 48, 48, 55, 46, 108, 111, 103, 46, 120]⟩, .string ⟨#[57, 57, 57, 57, 57, 57, 57, 57, 57, 57, 57, 57, 57, 57, 57, 57, 57, 57, 57, 57, 46, 108, 111, 103]⟩, .string ⟨#[48, 48, 48, 48, 48, 48, 48, 48, 48, 48, 48, 48, 48, 48, 48, 48, 48, 48, 48, 97, 46, 108, 111, 103]⟩, .string ⟨#[48, 48, 48, 48, 48, 48, 48, 48, 48, 48, 48, 48, 48, 48, 48, 48, 48, 48, 48, 55, 120, 108, 111, 103]⟩, .string ⟨#[255]⟩, .string ⟨#[239, 191, 189]⟩, .string ⟨#[97, 195, 169]⟩] ∧ (ten W).heap[W.heap.size]? = some (.cells cs 9 (0, 0)) := ⟨_, rfl, heap_alloc_new W _⟩
  rw [hb.cell (p := ⟨W.heap.size, i, none⟩) (Array.getElem?_eq_some_iff.1 hg).1, cell_of_row _ _ _ _ _ _ hg, hcs]
  match i, hi with
  | 0, _ => exact ⟨_, rfl, by decide⟩
  | 1, _ => exact ⟨_, rfl, by decide⟩
  | 2, _ => exact ⟨_, rfl, by decide⟩
  | 3, _ => exact ⟨_, rfl, by decide⟩
  | 4, _ => exact ⟨_, rfl, by decide⟩
  | 5, _ => exact ⟨_, rfl, by decide⟩
  | 6, _ => exact ⟨_, rfl, by decide⟩
  | 7, _ => exact ⟨_, rfl, by decide⟩
  | 8, _ => exact ⟨_, rfl, by decide⟩
  | 9, _ => exact ⟨_, rfl, by decide⟩
theorem below_six {w W : World} (h : Below w.heap.size w W) : Below w.heap.size w (six W) := h.alloc h.size _
theorem below_ten {w W : World} (h : Below w.heap.size w W) : Below w.heap.size w (ten W) := h.alloc h.size _
/-- 'same' at texts that are not too long. -/
theorem sm (W : World) (a b : ByteArray) (n : Int) (hT : Tabs W) (ha : a.size ≤ 1000) (hb : b.size ≤ 1000) : Calls Tryd.prog 8 #[.string a, .string b, .int .i64 n] W fun e w' => e = .returned (.bool true) ∧ Below W.heap.size W w' :=
  same_any W a b n hT (by omega) (by omega)
theorem sa {a b : ByteArray} {m n k : Nat} (ha : a.size ≤ m) (hb : b.size ≤ n) (h : m + n ≤ k) : (a ++ b).size ≤ k := by
  rw [ByteArray.size_append]; omega
set_option maxHeartbeats 8000000 in
set_option maxRecDepth 100000 in
theorem numbers_any (w : World) (hT : Tabs w) : Calls Tryd.prog 3 #[] w fun e w' => e = .returned (.bool true) ∧ Below w.heap.size w w' := by
  have HT := Lib.hid hT
  clear hT
  go_enter Tryd.func3, Tryd.ntmps3
  go_wp2
  go_loopw [1] (fun v wr => ∃ k : Nat, k ≤ 1100 ∧ v = .int .i32 k ∧ Below w.heap.size w wr) (fun v _ => 1100 - (intOf v).toNat)
  case atStart => exact ⟨0, by omega, rfl, Below.refl _ _⟩
  case round =>
    obtain ⟨k, hk, rfl, hb0⟩ := hrel
    have HB0 := Lib.hid hb0
    clear hb0
    by_cases hlt : k < 1100
    · obtain ⟨E, hE⟩ : ∃ E, E = Utf8.encode (k : Int) := ⟨_, rfl⟩
      have hcv : ∀ W : World, (convert 21 9 (.int .i32 (k : Int))).run Tryd.prog W = .ok (.string E) W := by
        intro W
        rw [hE]
        exact run_convert_int_string W 21 9 .i32 _ (by kernel_rfl) Tryd.underlying9
      have hEs : E.size ≤ 4 := by
        rw [hE, encode_bs (by unfold Scal; omega), bs_size]
        exact enc_len _
      have h1 : ((⟨#[97]⟩ : ByteArray) ++ E).size ≤ 1000 := sa (m := 1) (n := 4) (by decide) hEs (by omega)
      have h2 : ((⟨#[120]⟩ : ByteArray) ++ E).size ≤ 1000 := sa (m := 1) (n := 4) (by decide) hEs (by omega)
      have h3 : (E ++ (⟨#[120]⟩ : ByteArray)).size ≤ 1000 := sa (m := 4) (n := 1) hEs (by decide) (by omega)
      have H1 := Lib.hid h1
      have H2 := Lib.hid h2
      have H3 := Lib.hid h3
      clear hE h1 h2 h3
      go_wp2_with fail
      refine (sm _ _ _ _ (HT.out.keep HB0.out) (by omega) H1.out).mono ?_
      rintro e w1 ⟨rfl, hb⟩
      have HB1 := Lib.hid (step HB0.out hb)
      clear hb
      go_wp2_with fail
      refine (sm _ _ _ _ (HT.out.keep HB1.out) H2.out H3.out).mono ?_
      rintro e w2 ⟨rfl, hb⟩
      have HB2 := Lib.hid (step HB1.out hb)
      clear hb
      go_wp2
      go_roundw
      case rel => exact ⟨k + 1, by omega, by go_num, HB2.out⟩
      case measure => simp [intOf]; omega
    · clear hk
      go_wp2
      clear hlt
      go_loopw [2, 3] (fun v2 v3 wr => ∃ (i : Nat) (L : ByteArray), i ≤ 42 ∧ v3 = .int .i64 i ∧ v2 = .string L ∧ L.size ≤ i ∧ Below w.heap.size w wr) (fun _ v3 _ => 42 - (intOf v3).toNat)
      case atStart => exact ⟨0, ⟨#[]⟩, by omega, rfl, rfl, by decide, HB0.out⟩
      case round =>
        obtain ⟨i, L, hi, rfl, rfl, hL, hbx⟩ := hrel
        have HB1 := Lib.hid hbx
        clear hbx
        by_cases hlt : i < 42
        · have h1 : (L ++ (⟨#[228, 184, 150]⟩ : ByteArray)).size ≤ 1000 := sa (m := 42) (n := 3) (by omega) (by decide) (by omega)
          have hq1 : L.size + (⟨#[228, 184, 150]⟩ : ByteArray).size ≤ 100 := by
            have : (⟨#[228, 184, 150]⟩ : ByteArray).size = 3 := rfl
            omega
          have H1 := Lib.hid h1
          have hL2 : (L ++ (⟨#[97]⟩ : ByteArray)).size ≤ i + 1 := sa (m := i) (n := 1) hL (by decide) (by omega)
          have HL2 := Lib.hid hL2
          clear h1 hL2 hq1
          go_wp2_with fail
          refine (sm _ _ _ _ (HT.out.keep HB1.out) (by omega) H1.out).mono ?_
          rintro e w1 ⟨rfl, hb⟩
          have HB2 := Lib.hid (step HB1.out hb)
          clear hb
          go_wp2_with fail
          refine (sm _ _ _ _ (HT.out.keep HB2.out) H1.out (by omega)).mono ?_
          rintro e w2 ⟨rfl, hb⟩
          have HB3 := Lib.hid (step HB2.out hb)
          clear hb
          go_wp2
          go_roundw
          case rel => exact ⟨i + 1, L ++ ⟨#[97]⟩, by omega, by go_num, rfl, HL2.out, HB3.out⟩
          case measure => simp [intOf]; omega
        · go_wp2
          clear hlt hi hL
          have HB6 := Lib.hid (below_six HB1.out)
          go_loopw [57] (fun v wx => ∃ i : Nat, i ≤ 6 ∧ v = .int .i64 i ∧ Below (six wr).heap.size (six wr) wx) (fun v _ => 6 - (intOf v).toNat)
          case atStart => exact ⟨0, by omega, rfl, Below.refl _ _⟩
          case round =>
            obtain ⟨i, hi, rfl, hbx⟩ := hrel
            have HC := Lib.hid hbx
            have HX0 := Lib.hid (step HB6.out hbx)
            clear hbx
            by_cases hlt : i < 6
            · obtain ⟨x, hx⟩ := six_at _ _ HC.out i hlt
              have CF0 := fun W => ref_file_any W x tIndex (by decide)
              unfold Files at CF0
              have hSz : (fileV x tIndex).size ≤ 26 := fileV_size x tIndex
              obtain ⟨S, hS⟩ : ∃ S, S = fileV x tIndex := ⟨_, rfl⟩
              obtain ⟨O, hO⟩ : ∃ O, O = fileO x tIndex := ⟨_, rfl⟩
              rw [← hS, ← hO] at CF0
              rw [← hS] at hSz
              have CF := Lib.hid CF0
              have H1 := Lib.hid (sa (k := 1000) (a := S) (b := ⟨#[120]⟩) (m := 26) (n := 1) hSz (by decide) (by omega))
              have H2 := Lib.hid (sa (k := 1000) (a := ⟨#[48]⟩) (b := S) (m := 1) (n := 26) (by decide) hSz (by omega))
              clear CF0 hS hO
              by_cases h3 : 3 < S.size
              · obtain ⟨t, ht⟩ : ∃ t, S.size = t + 1 := ⟨S.size - 1, by omega⟩
                have hsub : (S.size : Int) - 1 = (t : Int) := by omega
                have htl : t ≤ S.size := by omega
                have H3 := Lib.hid (show (S.extract 0 t).size ≤ 1000 by have := cut_size S t; omega)
                clear ht
                go_wp2_with fail
                refine (CF.out _).mono ?_
                rintro e w1 ⟨rfl, hb⟩
                have HX1 := Lib.hid (step HX0.out hb)
                have HC1 := Lib.hid (step HC.out hb)
                clear hb
                go_wp2_with fail
                refine (sm _ _ _ _ (HT.out.keep HX1.out) (by decide) (by omega)).mono ?_
                rintro e w2 ⟨rfl, hb⟩
                have HX2 := Lib.hid (step HX1.out hb)
                have HC2 := Lib.hid (step HC1.out hb)
                clear hb
                go_wp2_with fail
                refine (sm _ _ _ _ (HT.out.keep HX2.out) (by decide) H1.out).mono ?_
                rintro e w3 ⟨rfl, hb⟩
                have HX3 := Lib.hid (step HX2.out hb)
                have HC3 := Lib.hid (step HC2.out hb)
                clear hb
                go_wp2_with fail
                refine (sm _ _ _ _ (HT.out.keep HX3.out) (by decide) H2.out).mono ?_
                rintro e w4 ⟨rfl, hb⟩
                have HX4 := Lib.hid (step HX3.out hb)
                have HC4 := Lib.hid (step HC3.out hb)
                clear hb
                go_wp2_with fail
                refine (sm _ _ _ _ (HT.out.keep HX4.out) (by decide) H3.out).mono ?_
                rintro e w5 ⟨rfl, hb⟩
                have HX5 := Lib.hid (step HX4.out hb)
                have HC5 := Lib.hid (step HC4.out hb)
                clear hb
                go_wp2
                go_roundw
                case rel => exact ⟨i + 1, by omega, by go_num, HC5.out⟩
                case measure => simp [intOf]; omega
              · skip
                go_wp2_with fail
                refine (CF.out _).mono ?_
                rintro e w1 ⟨rfl, hb⟩
                have HX1 := Lib.hid (step HX0.out hb)
                have HC1 := Lib.hid (step HC.out hb)
                clear hb
                go_wp2_with fail
                refine (sm _ _ _ _ (HT.out.keep HX1.out) (by decide) (by omega)).mono ?_
                rintro e w2 ⟨rfl, hb⟩
                have HX2 := Lib.hid (step HX1.out hb)
                have HC2 := Lib.hid (step HC1.out hb)
                clear hb
                go_wp2_with fail
                refine (sm _ _ _ _ (HT.out.keep HX2.out) (by decide) H1.out).mono ?_
                rintro e w3 ⟨rfl, hb⟩
                have HX3 := Lib.hid (step HX2.out hb)
                have HC3 := Lib.hid (step HC2.out hb)
                clear hb
                go_wp2_with fail
                refine (sm _ _ _ _ (HT.out.keep HX3.out) (by decide) H2.out).mono ?_
                rintro e w4 ⟨rfl, hb⟩
                have HX4 := Lib.hid (step HX3.out hb)
                have HC4 := Lib.hid (step HC3.out hb)
                clear hb
                go_wp2
                go_roundw
                case rel => exact ⟨i + 1, by omega, by go_num, HC4.out⟩
                case measure => simp [intOf]; omega
            · go_wp2
              clear hlt hi HC
              have HB7 := Lib.hid (below_ten HX0.out)
              go_loopw [102] (fun v wx => ∃ i : Nat, i ≤ 10 ∧ v = .int .i64 i ∧ Below (ten wr).heap.size (ten wr) wx) (fun v _ => 10 - (intOf v).toNat)
              case atStart => exact ⟨0, by omega, rfl, Below.refl _ _⟩
              case round =>
                obtain ⟨i, hi, rfl, hbx⟩ := hrel
                have HC := Lib.hid hbx
                have HY0 := Lib.hid (step HB7.out hbx)
                clear hbx
                by_cases hlt : i < 10
                · obtain ⟨K, hK, hKz⟩ := ten_at _ _ HC.out i hlt
                  go_wp2_with fail
                  refine (sm _ _ _ _ (HT.out.keep HY0.out) (by omega) (by omega)).mono ?_
                  rintro e w1 ⟨rfl, hb⟩
                  have HY1 := Lib.hid (step HY0.out hb)
                  have HC1 := Lib.hid (step HC.out hb)
                  clear hb
                  go_wp2_with fail
                  refine (sm _ _ _ _ (HT.out.keep HY1.out) (by decide) (by omega)).mono ?_
                  rintro e w2 ⟨rfl, hb⟩
                  have HY2 := Lib.hid (step HY1.out hb)
                  have HC2 := Lib.hid (step HC1.out hb)
                  clear hb
                  go_wp2
                  go_roundw
                  case rel => exact ⟨i + 1, by omega, by go_num, HC2.out⟩
                  case measure => simp [intOf]; omega
                · go_wp2_with fail
                  refine (known_any _ (HT.out.keep HY0.out)).mono ?_
                  rintro e w1 ⟨rfl, hb⟩
                  have HY1 := Lib.hid (step HY0.out hb)
                  clear hb
                  go_wp2
                  go_ret
                  exact ⟨rfl, HY1.out⟩
end Go.Proofs.YticplcnkaapmgaaDoor
