/- The contract of the code's roomy: new memory with the same bytes, and room. What rows that are given are. -/
import Derived.Test.YtelbignfecjjhaaVarBase
import Derived.Lib.AppendStr
namespace Go.Proofs.Ytelbignfecjjhaa
open Go.RowKit
open Go.VarMath hiding AllB
set_option linter.unusedVariables false

/-- The call gives a slice at the head of a new block of its own, which is the bytes bs. -/
def GivesRow (w : World) (bs : List Nat) (e : Ending) (w' : World) : Prop := ∃ g cap, e = .returned (.slice (some ⟨g, 0, none⟩) bs.length cap) ∧ w'.ownsRow w.heap.size 5 1 (.slice (some ⟨g, 0, none⟩) bs.length cap) bs.length (vals bs) ∧ Below w.heap.size w w'
theorem gives_row {w w' : World} {bs : List Nat} {g cap n : Nat} (hn : bs.length = n) (h : w'.ownsRow w.heap.size 5 1 (.slice (some ⟨g, 0, none⟩) n cap) n (vals bs)) (hb : Below w.heap.size w w') : GivesRow w bs (.returned (.slice (some ⟨g, 0, none⟩) n cap)) w' := by
  subst hn; exact ⟨g, cap, rfl, h, hb⟩
set_option maxRecDepth 100000 in
theorem run_make_part (W : World) (l c : Nat) (h : l ≤ c) (hc : c ≤ 281474976710656) :
    (Instr.makeSlice 29 (.int .i64 (l : Int)) (.int .i64 (c : Int))).run Try.prog W = .ok (.slice (some ⟨W.heap.size, 0, none⟩) l c) (W.alloc (.cells (vals (List.replicate c 0)).toArray 5)) := by
  obtain ⟨i0, hi, hz0, hz1, hz2⟩ := info_parts info5
  have hr := run_make (P := Try.prog) W 29 5 i0 (.int .u8 0) Try.underlying29 hi hz0 .i64 .i64 l c (by omega) (by omega) (by rw [hz2]; omega) (by omega)
  simp only [Int.toNat_natCast] at hr
  rw [hr]
  congr 3
  have h2 : (madeCells (Value.int .u8 0).cells c).toList = vals (List.replicate c 0) := by
    have := toList_madeCells_one (.int .u8 0) c
    rw [show (Value.int .u8 0).cells = #[.int .u8 0] from rfl, this]
    simp [vals, byte]
  rw [hz1, Nat.mul_one]
  apply Array.toList_inj.1
  rw [h2]
theorem splice_front (n m : Nat) (bs : List Nat) (h : bs.length = n) : splice (vals (List.replicate (n + m) 0)) 0 (vals bs) = vals (bs ++ List.replicate m 0) := by
  subst h
  rw [splice, List.take_zero, List.nil_append, Nat.zero_add, length_vals, vals_append]
  congr 1
  simp [vals]
theorem owns_front {w w' : World} {g n m : Nat} {bs : List Nat} (hn : bs.length = n) (h : Own w' g (bs ++ List.replicate m 0)) (hg : w.heap.size ≤ g) (hm : n + m ≤ maxLen) :
    w'.ownsRow w.heap.size 5 1 (.slice (some ⟨g, 0, none⟩) n (n + m)) n (vals bs) := by
  subst hn
  refine ⟨by rw [length_vals]; omega, .inr ⟨g, _, _, rfl, hg, h, by omega, hm, by simp [vals], ?_⟩⟩
  rw [Nat.mul_one, vals_append, List.take_append_of_le_length (by rw [length_vals]; omega), List.take_of_length_le (by rw [length_vals]; omega)]
set_option maxHeartbeats 400000 in
theorem roomy_any (w : World) (ad : Option Addr) (len cap n : Nat) (bs : List Nat) (h : Row w ad len cap bs) (hL : len ≤ 140737488355328) (hn : n ≤ 16) :
    Calls Try.prog 28 #[.slice ad len cap, .int .i64 n] w (GivesRow w bs) := by
  have HB := Lib.hid h
  clear h
  have hmk := fun W => run_make_part W len (len + n) (by omega) (by omega)
  have hcast : ((len + n : Nat) : Int) = (len : Int) + (n : Int) := by omega
  rw [hcast] at hmk
  clear hcast
  have hO := own_new w (List.replicate (len + n) 0)
  have hZ : Below w.heap.size w (w.alloc (.cells (vals (List.replicate (len + n) 0)).toArray 5)) := (Below.refl _ _).alloc (Nat.le_refl _) _
  have HO := Lib.hid hO
  have HZ := Lib.hid hZ
  have HR := Lib.hid (HB.out.keep hZ (Nat.le_refl _))
  clear hO hZ
  go_enter Try.func28, Try.ntmps28
  go_wp2_with (with_reducible refine wpList_copy_splice rfl (.tmp 13) (.tmp 14) 29 29 rfl 5 Try.underlying29 size5 _ _ _ _ _ _ rfl rfl w.heap.size 0 (vals (List.replicate (len + n) 0)) 5 ?_ (vals bs) ?_ ?_ ?_ (vals_one bs) w.heap.size w ?_ (Nat.le_refl _) ?_)
  · exact HO.out
  · rw [length_vals, HB.out.len]; simp
  · intro hp
    rw [length_vals, HB.out.len] at hp
    exact HR.out.1.source hp
  · rw [length_vals, length_vals, HB.out.len]; simp
  · exact HZ.out
  · intro w2 HG2 hB2
    have R : Hid (Own w2 w.heap.size (bs ++ List.replicate n 0)) := by
      have h1 := HG2.out
      rw [splice_front _ _ _ HB.out.len] at h1
      exact h1
    clear HG2
    go_wp2
    go_ret
    exact gives_row HB.out.len (owns_front HB.out.len R.out (Nat.le_refl _) (by unfold maxLen; omega)) hB2
end Go.Proofs.Ytelbignfecjjhaa
