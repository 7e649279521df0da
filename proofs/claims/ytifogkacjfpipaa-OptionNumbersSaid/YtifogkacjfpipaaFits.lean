/- The contracts of valid, and of the statements' own fits. -/
import Derived.Test.YtifogkacjfpipaaVal
namespace Go.Proofs.Ytifogkacjfpipaa
open Go.RowKit
open Go.RuneMath
set_option linter.unusedVariables false

def Cf.nth (x : Cf) (j : Nat) : Int := if j = 0 then x.a else if j = 1 then x.b else if j = 2 then x.c else x.d
theorem valid_bad {x : Cf} {j : Nat} (hj : j < 4) (h : within (x.nth j) = false) : x.valid = false := by
  unfold Cf.valid
  unfold Cf.nth at h
  match j, hj with
  | 0, _ => simp at h; simp [h]
  | 1, _ => simp at h; simp [h]
  | 2, _ => simp at h; simp [h]
  | 3, _ => simp at h; simp [h]
theorem valid_good {x : Cf} (h : ∀ i, i < 4 → within (x.nth i) = true) : x.valid = true := by
  unfold Cf.valid
  have h0 := h 0 (by omega)
  have h1 := h 1 (by omega)
  have h2 := h 2 (by omega)
  have h3 := h 3 (by omega)
  unfold Cf.nth at h0 h1 h2 h3
  simp at h0 h1 h2 h3
  simp [h0, h1, h2, h3]
theorem all_more {x : Cf} {j : Nat} (h : ∀ i, i < j → within (x.nth i) = true) (hj : within (x.nth j) = true) : ∀ i, i < j + 1 → within (x.nth i) = true := by
  intro i hi
  by_cases e : i = j
  · rw [e]; exact hj
  · exact h i (by omega)
theorem row4 (w : World) (x : Cf) : ∀ j, j < 4 → (w.alloc (.cells #[.int .i64 x.a, .int .i64 x.b, .int .i64 x.c, .int .i64 x.d] 3)).cell? ⟨w.heap.size, j, none⟩ = some (.int .i64 (x.nth j)) := by
  intro j hj
  rw [cell_of_row _ _ j _ _ _ (heap_alloc_new w _)]
  match j, hj with
  | 0, _ => rfl
  | 1, _ => rfl
  | 2, _ => rfl
  | 3, _ => rfl
def Valids (x : Cf) (w : World) (e : Ending) (w' : World) : Prop := e = .returned (.bool x.valid) ∧ Below w.heap.size w w'
theorem valids_mk {x : Cf} {b : Bool} {w w' : World} (h : x.valid = b) (hb : Below w.heap.size w w') : Valids x w (.returned (.bool b)) w' := ⟨by rw [h], hb⟩
theorem alloc_size (w : World) (o : Obj) : (w.alloc o).heap.size = w.heap.size + 1 := by simp
set_option maxHeartbeats 1000000 in
theorem valid_any (w : World) (x : Cf) : Calls Try.prog 21 #[x.val] w (Valids x w) := by
  have h4 := fun (w1 : World) => row4 w1 x
  have H4 := Lib.hid h4
  clear h4
  unfold Cf.val
  go_enter Try.func21, Try.ntmps21
  go_wp2
  go_loopw [4, 15] (fun v k wr => ∃ j : Nat, k = .int .i64 j ∧ j ≤ 4 ∧ Below w.heap.size w wr ∧ (∀ i, i < 4 → wr.cell? ⟨w.heap.size + 1, i, none⟩ = some (.int .i64 (x.nth i))) ∧ ∀ i, i < j → within (x.nth i) = true) (fun _ k _ => 4 - (intOf k).toNat)
  case atStart => exact ⟨0, rfl, by omega, ((Below.refl _ w).alloc (Nat.le_refl _) _).alloc (by rw [alloc_size]; omega) _, fun i hi => by have := H4.out (w.alloc (.cells #[.int .i64 x.a, .int .i64 x.b, .int .i64 x.c, .int .i64 x.d] 27)) i hi; rw [alloc_size] at this; exact this, fun i hi => by omega⟩
  case round =>
    obtain ⟨j, rfl, hj, hb, hc, hall⟩ := hrel
    have HB := Lib.hid hb
    have HC := Lib.hid hc
    have HA := Lib.hid hall
    clear hb hc hall
    by_cases h4 : j < 4
    · have hcell := HC.out j h4
      obtain ⟨n, hn⟩ : ∃ n, n = x.nth j := ⟨_, rfl⟩
      rw [← hn] at hcell
      obtain ⟨b, hbn⟩ : ∃ b, b = within n := ⟨_, rfl⟩
      have C0 := fun W => within_any W n
      rw [← hbn] at C0
      have C := Lib.hid C0
      have HN := Lib.hid hn
      have HW := Lib.hid hbn
      clear C0 hn hbn
      cases b
      · have HV := Lib.hid (valid_bad h4 (by rw [← HN.out]; exact HW.out.symm))
        go_wp2_with fail
        refine (C.out _).mono ?_
        rintro e w' ⟨rfl, rfl⟩
        go_wp2
        go_ret
        exact valids_mk HV.out HB.out
      · have HV := Lib.hid (all_more HA.out (by rw [← HN.out]; exact HW.out.symm))
        go_wp2_with fail
        refine (C.out _).mono ?_
        rintro e w' ⟨rfl, rfl⟩
        go_wp2
        go_roundw
        case rel => exact ⟨j + 1, by go_num, by omega, HB.out, HC.out, HV.out⟩
        case measure => simp [intOf]; omega
    · have HV := Lib.hid (valid_good (x := x) (fun i hi => HA.out i (by omega)))
      go_wp2
      go_ret
      exact valids_mk HV.out HB.out
end Go.Proofs.Ytifogkacjfpipaa
