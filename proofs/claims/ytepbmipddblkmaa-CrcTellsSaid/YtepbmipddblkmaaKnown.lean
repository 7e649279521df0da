/- The contract of 'known', some of chapter 1's runs: it answers true, whatever the memory. -/
import Derived.Test.YtepbmipddblkmaaStr
import Derived.Lib.SlBytesConst
namespace Go.Proofs.Ytepbmipddblkmaa
open Go.RowKit Go.CrcMath
set_option linter.unusedVariables false

theorem own_new (w : World) (bs : List Nat) : Own (w.alloc (.cells (vals bs).toArray 5)) w.heap.size bs := heap_alloc_new w _
theorem Byt.nil (w : World) : Byt w none 0 0 [] := ⟨rfl, Nat.le_refl _, (fun x hx => by cases hx), .inl rfl⟩

theorem all_small {bs : List Nat} (h : bs.all (· < 256) = true) : AllB bs := by
  intro x hx
  have := List.all_eq_true.1 h x hx
  simpa using this
/-- A new block that is marked as a constant text's reads as its bytes. -/
theorem byt_marked (W : World) (bs : List Nat) (fr : Nat × Nat) (ha : AllB bs) : Byt (W.alloc (.cells (vals bs).toArray 5 fr)) (some ⟨W.heap.size, 0, none⟩) bs.length bs.length bs := by
  refine ⟨rfl, Nat.le_refl _, ha, .inr ⟨W.heap.size, 0, rfl, fun i hi => ?_⟩⟩
  have hg : (W.alloc (.cells (vals bs).toArray 5 fr)).heap[W.heap.size]? = some (.cells (vals bs).toArray 5 fr) := heap_alloc_new W _
  rw [cell_of_row _ _ _ _ _ _ hg]
  simp [vals, byte, hi]
/-- Check of what a new block holds. -/
theorem check_new (W : World) : Calls Try.prog 12 #[.slice (some ⟨W.heap.size, 0, none⟩) 3 3] (W.alloc (.cells #[.int .u8 1, .int .u8 2, .int .u8 3] 5)) fun e w' => e = .returned (.tuple #[.slice none 0 0, .bool false]) ∧ Hid (Below W.heap.size W w') := by
  have h : Own (W.alloc (.cells #[.int .u8 1, .int .u8 2, .int .u8 3] 5)) W.heap.size [1, 2, 3] := own_new W [1, 2, 3]
  refine (check_short _ _ _ _ [1, 2, 3] (h.byt (all_small (by decide)) 3 (by simp)) (by simp)).mono ?_
  rintro e w' ⟨rfl, n, rfl⟩
  exact ⟨rfl, below_drewN ((Below.refl _ _).alloc (Nat.le_refl _) _) _⟩
theorem put_ab (W : World) : Calls Try.prog 11 #[.slice (some ⟨W.heap.size, 0, none⟩) 2 2] (W.alloc (.cells #[.int .u8 97, .int .u8 98] 5 (2, 3))) fun e w' => ∃ g, e = .returned (.slice (some ⟨g, 0, none⟩) 6 6) ∧ Hid (Own w' g (sealB [97, 98])) ∧ Hid (Below W.heap.size W w') := by
  have h := byt_marked W [97, 98] (2, 3) (all_small (by decide))
  refine (put_any _ _ _ _ [97, 98] h (by simp)).mono ?_
  rintro e w' ⟨g, rfl, hg, ho, hb⟩
  exact ⟨g, rfl, ho, ((Below.refl _ _).alloc (Nat.le_refl _) _).trans (hb.mono (by simp))⟩
theorem check_ab (W : World) (g : Nat) (h : Own W g (sealB [97, 98])) : Calls Try.prog 12 #[.slice (some ⟨g, 0, none⟩) 6 6] W fun e w' => ∃ g', e = .returned (.tuple #[.slice (some ⟨g', 0, none⟩) 2 2, .bool true]) ∧ Hid (Own w' g' [97, 98]) ∧ Hid (Below W.heap.size W w') := by
  have ha : AllB (sealB [97, 98]) := sealB_all (all_small (by decide))
  refine (check_long _ _ _ _ (sealB [97, 98]) (h.byt ha 6 (by rw [length_sealB]; simp)) (by rw [length_sealB]; simp) (by rw [length_sealB]; simp)).mono ?_
  rintro e w' ⟨_, h2⟩
  obtain ⟨g', rfl, hg, ho, hb⟩ := h2 (okB_seal (all_small (by decide)))
  rw [drop_sealB] at ho
  exact ⟨g', rfl, ho, hb⟩
def nine : List Nat := [49, 50, 51, 52, 53, 54, 55, 56, 57]
theorem ofB_nine : ofB nine = 3808858755 := by decide +kernel
def nineW (W : World) : World := W.alloc (.cells #[.int .u8 49, .int .u8 50, .int .u8 51, .int .u8 52, .int .u8 53, .int .u8 54, .int .u8 55, .int .u8 56, .int .u8 57] 5 (9, 10))
theorem of_nine (W : World) : Calls Try.prog 13 #[.slice (some ⟨W.heap.size, 0, none⟩) 9 9] (W.alloc (.cells #[.int .u8 49, .int .u8 50, .int .u8 51, .int .u8 52, .int .u8 53, .int .u8 54, .int .u8 55, .int .u8 56, .int .u8 57] 5 (9, 10))) fun e w' => e = .returned (.int .u32 3808858755) ∧ nineW W = w' := by
  have h := byt_marked W nine (9, 10) (all_small (by decide))
  refine (of_any _ _ _ _ nine h (by decide)).mono ?_
  rintro e w' ⟨rfl, hw⟩
  exact ⟨by rw [ofB_nine]; rfl, hw⟩
theorem of_nil (W : World) : Calls Try.prog 13 #[.slice none 0 0] W fun e w' => e = .returned (.int .u32 0) ∧ W = w' := by
  refine (of_any _ _ _ _ [] (Byt.nil W) (by omega)).mono ?_
  rintro e w' ⟨rfl, hw⟩
  exact ⟨by rw [show ofB [] = 0 from by decide]; rfl, hw⟩
theorem put_nil (W : World) : Calls Try.prog 11 #[.slice none 0 0] W fun e w' => ∃ g, e = .returned (.slice (some ⟨g, 0, none⟩) 4 4) ∧ Hid (Below W.heap.size W w') := by
  refine (put_any _ _ _ _ [] (Byt.nil W) (by omega)).mono ?_
  rintro e w' ⟨g, rfl, hg, ho, hb⟩
  exact ⟨g, rfl, hb⟩

set_option maxHeartbeats 400000 in
theorem known_any (w : World) :
    Calls Try.prog 9 #[] w fun e w' => e = .returned (.bool true) ∧ Below w.heap.size w w' := by
  have kc := fun (w : World) (C : Array Value) (n c : Nat) => Lib.run_convert_bytes_const (P := Try.prog) w 22 5 C n c Try.underlying22 Try.underlying5
  go_enter Try.func9, Try.ntmps9
  go_wp2_with fail
  refine (check_new w).mono ?_
  rintro e w2 ⟨rfl, hb2⟩
  go_wp2_with fail
  refine (put_ab w2).mono ?_
  rintro e w3 ⟨g3, rfl, ho3, hb3⟩
  go_wp2_with fail
  refine (check_ab w3 g3 ho3.out).mono ?_
  rintro e w4 ⟨g4, rfl, ho4, hb4⟩
  have hb42 : Hid (Below w.heap.size w w4) := (hb2.out.trans (hb3.out.mono hb2.out.size)).trans (hb4.out.mono (Nat.le_trans hb2.out.size hb3.out.size))
  have hb45 : Hid (Below w4.heap.size w4 (nineW w4)) := (Below.refl _ _).alloc (Nat.le_refl _) _
  have hcv : (convert 22 9 (.slice (some ⟨g4, 0, none⟩) 2 2)).run Try.prog (nineW w4) = .ok (.string ⟨#[97, 98]⟩) (nineW w4) :=
    run_str ((ho4.out.keep hb45.out ho4.out.lt).byt (all_small (by decide)) 2 (by simp))
  go_wp2_with fail
  refine (of_nine w4).mono ?_
  rintro e w5 ⟨rfl, rfl⟩
  go_wp2_with fail
  refine (of_nil _).mono ?_
  rintro e w6 ⟨rfl, rfl⟩
  go_wp2_with fail
  refine (put_nil _).mono ?_
  rintro e w7 ⟨g7, rfl, hb7⟩
  go_wp2
  go_ret
  exact ⟨rfl, (hb42.out.trans (hb45.out.mono hb42.out.size)).trans (hb7.out.mono (Nat.le_trans hb42.out.size hb45.out.size))⟩
end Go.Proofs.Ytepbmipddblkmaa
