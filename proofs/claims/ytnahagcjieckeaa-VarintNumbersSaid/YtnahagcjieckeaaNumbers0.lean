/- What the walk of 'VarintNumbers' wants of rows, slices and texts. -/
import Derived.Test.YtnahagcjieckeaaTells
import Derived.Test.YtnahagcjieckeaaKeep2
namespace Go.Proofs.Ytnahagcjieckeaa
open Go.RowKit
open Go.VarMath hiding AllB
set_option linter.unusedVariables false

theorem wrap64_in (x : Int) : -9223372036854775808 ≤ wrap64 x ∧ wrap64 x ≤ 9223372036854775807 := by unfold wrap64; omega
theorem all_zero : AllB [0] := all_small (by decide)
theorem row_seven (W : World) : Row (W.drew.alloc (.cells #[.int .u8 7] 5)) (some ⟨W.heap.size, 0, none⟩) 1 1 [7] := row_byte W.drew 7 (by omega)
theorem row_zero (W : World) : Row (W.alloc (.cells #[.int .u8 0] 5)) (some ⟨W.heap.size, 0, none⟩) 1 1 [0] := row_byte W 0 (by omega)
theorem row_two (W : World) (z : Nat) (hz : z < 256) : Row (W.alloc (.cells #[.int .u8 (z : Int), .int .u8 0] 5)) (some ⟨W.heap.size, 0, none⟩) 2 2 [z, 0] :=
  ⟨(own_new W [z, 0]).byt (fun x hx => by simp at hx; omega) 2 (by simp), fun h => by cases h⟩
theorem row_cut {w : World} {base g n cap : Nat} {bs : List Nat} (h : w.ownsRow base 5 1 (.slice (some ⟨g, 0, none⟩) n cap) n (vals bs)) (ha : AllB bs) (l : Nat) (hl : l ≤ n) (o : Obj) : Row (w.alloc o) (some ⟨g, 0, none⟩) l l (bs.take l) := by
  have h1 := (byt_upto (owns_row h ha).1 l hl).keep ((Below.refl w.heap.size w).alloc (Nat.le_refl _) o) (Nat.le_refl _)
  exact ⟨⟨h1.length, Nat.le_refl _, h1.all, h1.cells⟩, fun h => by cases h⟩
theorem run_upto_max (a : Addr) (len cap h : Nat) (hc : h ≤ cap) (w : World) :
    (Instr.slice 23 (.slice (some a) len cap) none (some (.int .i64 (h : Int))) (some (.int .i64 (h : Int)))).run Try.prog w = .ok (.slice (some a) h h) w := by
  rw [run_slice_hm _ _ _ _ _ elem22 _ _ _ _ (by omega) (by omega) (by omega), sizeElem]
  simp only [Result.andThen, sliced, Int.toNat_natCast]
  simp [Addr.add]
theorem text_cut (r : Nat) (hr : r ≤ 4) : ∃ s : ByteArray, s.size ≤ 4000 ∧ ∀ W, (Instr.slice 9 (.string ⟨#[116, 101, 120, 116]⟩) none (some (.int .u64 (r : Int))) none).run Try.prog W = .ok (.string s) W := by
  refine ⟨(⟨#[116, 101, 120, 116]⟩ : ByteArray).extract 0 r, by rw [ByteArray.size_extract]; omega, fun W => ?_⟩
  rw [run_slice_string_h]
  · simp
  · exact Try.underlying9
  · omega
  · show (r : Int) ≤ 4
    omega
theorem refPut_nil (W : World) (n : Int) (h0 : -9223372036854775808 ≤ n) (h1 : n ≤ 9223372036854775807) (k : Nat) (hk : k = (encN n).length) : Calls Try.prog 8 #[.slice none 0 0, .int .i64 n] W fun e w' => ∃ g cp, e = .returned (.slice (some ⟨g, 0, none⟩) k cp) ∧ Hid (w'.ownsRow W.heap.size 5 1 (.slice (some ⟨g, 0, none⟩) k cp) k (vals (encN n))) ∧ Hid (Below W.heap.size W w') := by
  refine (refPut_any W none 0 0 [] n ⟨Byt.nil W, fun _ => rfl⟩ (by omega) h0 h1).mono ?_
  rintro e w' ⟨g, cp, rfl, ho, hb⟩
  rw [List.nil_append] at ho ⊢
  rw [← hk] at ho ⊢
  exact ⟨g, cp, rfl, ho, hb⟩
theorem owns_reads {w : World} {base n cap : Nat} {a : Option Addr} {bs : List Nat} (h : w.ownsRow base 5 1 (.slice a n cap) n (vals bs)) (ha : AllB bs) : Byt w a n cap bs := by
  obtain ⟨ad, cap', e, hr⟩ := owns_any h ha
  cases e
  exact hr.1
theorem refText_whole (W : World) : Calls Try.prog 11 #[.slice none 0 0, .string ⟨#[119, 104, 111, 108, 101]⟩] W fun e w' => ∃ g cp, e = .returned (.slice (some ⟨g, 0, none⟩) 6 cp) ∧ Hid (Byt w' (some ⟨g, 0, none⟩) 6 cp [10, 119, 104, 111, 108, 101]) ∧ Hid (Below W.heap.size W w') := by
  refine (refText_any W none 0 0 [] ⟨#[119, 104, 111, 108, 101]⟩ ⟨Byt.nil W, fun _ => rfl⟩ (by decide)).mono ?_
  rintro e w' ⟨g, cp, rfl, ho, hb⟩
  exact ⟨g, cp, rfl, (owns_row (bs := [10, 119, 104, 111, 108, 101]) ho (all_small (by decide))).1, hb⟩
end Go.Proofs.Ytnahagcjieckeaa
