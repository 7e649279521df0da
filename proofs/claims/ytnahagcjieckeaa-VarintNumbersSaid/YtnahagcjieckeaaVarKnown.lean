/- The contract of 'known', some of chapter 2's runs: it answers true, whatever the memory. -/
import Derived.Test.YtnahagcjieckeaaVarCut
import Derived.Test.YtnahagcjieckeaaVarLong
namespace Go.Proofs.Ytnahagcjieckeaa
open Go.RowKit
open Go.VarMath hiding AllB
set_option linter.unusedVariables false

theorem get_none (W : World) : Calls Try.prog 15 #[.slice (some ⟨W.heap.size, 0, none⟩) 2 2] (W.alloc (.cells #[.int .u8 128, .int .u8 0] 5)) fun e w' => e = .returned (.tuple #[.int .i64 0, .int .i64 0]) ∧ W.alloc (.cells #[.int .u8 128, .int .u8 0] 5) = w' :=
  get_any _ _ 2 2 [128, 0] ((own_new W [128, 0]).byt (all_small (by decide)) 2 (by simp)) (by omega)
theorem get_one (W : World) : Calls Try.prog 15 #[.slice (some ⟨W.heap.size, 0, none⟩) 2 2] (W.alloc (.cells #[.int .u8 1, .int .u8 9] 5)) fun e w' => e = .returned (.tuple #[.int .i64 (-1), .int .i64 1]) ∧ W.alloc (.cells #[.int .u8 1, .int .u8 9] 5) = w' :=
  get_any _ _ 2 2 [1, 9] ((own_new W [1, 9]).byt (all_small (by decide)) 2 (by simp)) (by omega)
def abcW (W : World) : World := W.alloc (.cells #[.int .u8 4, .int .u8 97, .int .u8 98, .int .u8 99] 5)
theorem cut_two (W : World) : Calls Try.prog 16 #[.slice (some ⟨W.heap.size, 0, none⟩) 4 4, .int .i64 2] (W.alloc (.cells #[.int .u8 4, .int .u8 97, .int .u8 98, .int .u8 99] 5)) fun e w' => e = .returned (.tuple #[.string ⟨#[97, 98]⟩, .int .i64 3]) ∧ Hid (Below W.heap.size W w') := by
  refine (cut_any _ _ 4 4 [4, 97, 98, 99] 2 ((own_new W [4, 97, 98, 99]).byt (all_small (by decide)) 4 (by simp)) (by omega) (by omega) (by omega)).mono ?_
  rintro e w' ⟨rfl, hb⟩
  exact ⟨rfl, ((Below.refl _ _).alloc (Nat.le_refl _) _).trans (hb.mono (by simp))⟩
theorem cut_one (W : World) : Calls Try.prog 16 #[.slice (some ⟨W.heap.size, 0, none⟩) 4 4, .int .i64 1] (W.alloc (.cells #[.int .u8 4, .int .u8 97, .int .u8 98, .int .u8 99] 5)) fun e w' => e = .returned (.tuple #[.string ⟨#[]⟩, .int .i64 0]) ∧ Hid (Below W.heap.size W w') := by
  refine (cut_any _ _ 4 4 [4, 97, 98, 99] 1 ((own_new W [4, 97, 98, 99]).byt (all_small (by decide)) 4 (by simp)) (by omega) (by omega) (by omega)).mono ?_
  rintro e w' ⟨rfl, hb⟩
  exact ⟨rfl, ((Below.refl _ _).alloc (Nat.le_refl _) _).trans (hb.mono (by simp))⟩
theorem back_seven (W : World) : Calls Try.prog 18 #[.slice (some ⟨W.heap.size, 0, none⟩) 7 7] (W.alloc (.cells #[.int .u8 0, .int .u8 0, .int .u8 0, .int .u8 0, .int .u8 0, .int .u8 0, .int .u8 0] 5)) fun e w' => e = .returned (.tuple #[.int .i64 0, .bool false]) ∧ Hid (Below W.heap.size W w') := by
  refine (back_any _ _ 7 7 [0, 0, 0, 0, 0, 0, 0] ((own_new W [0, 0, 0, 0, 0, 0, 0]).byt (all_small (by decide)) 7 (by simp)) (by omega)).mono ?_
  rintro e w' ⟨rfl, rfl⟩
  exact ⟨rfl, (Below.refl _ _).alloc (Nat.le_refl _) _⟩
theorem long_five (W : World) : Calls Try.prog 19 #[.slice none 0 0, .int .i64 (-5)] W fun e w' => ∃ g cp, e = .returned (.slice (some ⟨g, 0, none⟩) 8 cp) ∧ Hid (Byt w' (some ⟨g, 0, none⟩) 8 cp (longB (-5))) ∧ Hid (Below W.heap.size W w') := by
  refine (long_any W none 0 0 [] (-5) ⟨Byt.nil W, fun _ => rfl⟩ (by omega) (by omega) (by omega)).mono ?_
  rintro e w' ⟨g, cp, rfl, ho, hb⟩
  exact ⟨g, cp, rfl, (owns_row ho (longB_all _)).1, hb⟩
theorem back_five (W : World) (g cp : Nat) (h : Byt W (some ⟨g, 0, none⟩) 8 cp (longB (-5))) : Calls Try.prog 18 #[.slice (some ⟨g, 0, none⟩) 8 cp] W fun e w' => e = .returned (.tuple #[.int .i64 (-5), .bool true]) ∧ W = w' := by
  refine (back_any _ _ 8 cp (longB (-5)) h (by omega)).mono ?_
  rintro e w' ⟨rfl, rfl⟩
  exact ⟨rfl, rfl⟩
theorem put_minus (W : World) : Calls Try.prog 14 #[.slice none 0 0, .int .i64 (-1)] W fun e w' => ∃ g cp, e = .returned (.slice (some ⟨g, 0, none⟩) 1 cp) ∧ (convert 23 9 (.slice (some ⟨g, 0, none⟩) 1 cp)).run Try.prog w' = .ok (.string ⟨#[1]⟩) w' ∧ Hid (Below W.heap.size W w') := by
  refine (put_any W none 0 0 [] (-1) ⟨Byt.nil W, fun _ => rfl⟩ (by omega) (by omega) (by omega)).mono ?_
  rintro e w' ⟨g, cp, rfl, ho, hb⟩
  exact ⟨g, cp, rfl, run_str (owns_row (bs := [1]) ho (all_small (by decide))).1, hb⟩
set_option maxRecDepth 100000 in
set_option maxHeartbeats 1000000 in
theorem known_any (w : World) :
    Calls Try.prog 12 #[] w fun e w' => e = .returned (.bool true) ∧ Below w.heap.size w w' := by
  have hmk : ∀ W, (Instr.makeSlice 23 (.int .i64 7) (.int .i64 7)).run Try.prog W = .ok (.slice (some ⟨W.heap.size, 0, none⟩) 7 7) (W.alloc (.cells #[.int .u8 0, .int .u8 0, .int .u8 0, .int .u8 0, .int .u8 0, .int .u8 0, .int .u8 0] 5)) := fun W => run_make_part W 7 7 (by omega) (by omega)
  go_enter Try.func12, Try.ntmps12
  go_wp2_with fail
  refine (get_none w).mono ?_
  rintro e w1 ⟨rfl, hw1⟩
  have HB1 : Hid (Below w.heap.size w w1) := by rw [← hw1]; exact (Below.refl _ _).alloc (Nat.le_refl _) _
  clear hw1
  go_wp2_with fail
  refine (get_one w1).mono ?_
  rintro e w2 ⟨rfl, hw2⟩
  have HB2 : Hid (Below w.heap.size w w2) := by rw [← hw2]; exact HB1.out.alloc HB1.out.size _
  clear hw2
  go_wp2_with fail
  refine (cut_two w2).mono ?_
  rintro e w3 ⟨rfl, hb3⟩
  have HB3 : Hid (Below w.heap.size w w3) := HB2.out.trans (hb3.out.mono HB2.out.size)
  clear hb3
  go_wp2_with fail
  refine (cut_one w3).mono ?_
  rintro e w4 ⟨rfl, hb4⟩
  have HB4 : Hid (Below w.heap.size w w4) := HB3.out.trans (hb4.out.mono HB3.out.size)
  clear hb4
  go_wp2_with fail
  refine (back_seven w4).mono ?_
  rintro e w5 ⟨rfl, hb5⟩
  have HB5 : Hid (Below w.heap.size w w5) := HB4.out.trans (hb5.out.mono HB4.out.size)
  clear hb5
  go_wp2_with fail
  refine (long_five w5).mono ?_
  rintro e w6 ⟨g6, cp6, rfl, hy6, hb6⟩
  have HB6 : Hid (Below w.heap.size w w6) := HB5.out.trans (hb6.out.mono HB5.out.size)
  clear hb6
  go_wp2_with fail
  refine (back_five w6 g6 cp6 hy6.out).mono ?_
  rintro e w' ⟨rfl, rfl⟩
  go_wp2_with fail
  refine (put_minus w6).mono ?_
  rintro e w7 ⟨g7, cp7, rfl, hcv, hb7⟩
  go_wp2
  go_ret
  exact ⟨rfl, HB6.out.trans (hb7.out.mono HB6.out.size)⟩
end Go.Proofs.Ytnahagcjieckeaa
