/- The contracts of the code's Long, and of the document's own. -/
import Derived.Test.YtelbignfecjjhaaVarRoomy
namespace Go.Proofs.Ytelbignfecjjhaa
open Go.RowKit
open Go.VarMath hiding AllB
set_option linter.unusedVariables false

theorem low64_wrap (n : Int) : IntKind.u64.wrap n = ((low64 n : Nat) : Int) := by rw [wrap_u64']; unfold low64; omega
/-- What stands before round k of Long's loop. -/
def LongAt (w : World) (bs : List Nat) (n : Int) (k : Nat) (v5 : Value) (wr : World) : Prop :=
  ∃ (g cap m : Nat), m = bs.length + k ∧ v5 = .slice (some ⟨g, 0, none⟩) m cap ∧ wr.ownsRow w.heap.size 5 1 (.slice (some ⟨g, 0, none⟩) m cap) m (vals (bs ++ (longB n).take k)) ∧ Below w.heap.size w wr
theorem long_shift (u j : Nat) : (u : Int) / 2 ^ (8 * j) % 256 = ((u / 256 ^ j % 256 : Nat) : Int) := by
  have h : (256 : Nat) ^ j = 2 ^ (8 * j) := by rw [Nat.pow_mul]
  rw [h]; simp
theorem longAt_step {w w' : World} {bs : List Nat} {n : Int} {k m g cap z : Nat} (hk : k < 8) (hm : m = bs.length + k) (hz : z = low64 n / 256 ^ (7 - k) % 256)
    (hown : w'.ownsRow w.heap.size 5 1 (.slice (some ⟨g, 0, none⟩) (m + 1) cap) (m + 1) (vals (bs ++ ((longB n).take k ++ [z])))) (hb : Below w.heap.size w w') :
    LongAt w bs n (k + 1) (.slice (some ⟨g, 0, none⟩) (m + 1) cap) w' := by
  refine ⟨g, cap, m + 1, by omega, rfl, ?_, hb⟩
  have h := beB_take k 8 (low64 n) hk
  unfold longB at hown ⊢
  rw [h]
  have e : 8 - 1 - k = 7 - k := by omega
  rw [e, ← hz]
  exact hown
set_option maxHeartbeats 400000 in
theorem long_any (w : World) (ad : Option Addr) (len cap : Nat) (bs : List Nat) (n : Int) (h : Row w ad len cap bs) (hL : len ≤ 140737488355300) (h0 : -9223372036854775808 ≤ n) (h1 : n ≤ 9223372036854775807) :
    Calls Try.prog 24 #[.slice ad len cap, .int .i64 n] w (GivesRow w (bs ++ longB n)) := by
  have HB := Lib.hid h
  clear h
  go_enter Try.func24, Try.ntmps24
  go_wp2_with fail
  refine (roomy_any w ad len cap 8 bs HB.out (by omega) (by omega)).mono ?_
  rintro e w1 ⟨g, cp, rfl, hown, hb1⟩
  rw [HB.out.len] at hown ⊢
  have HO := Lib.hid hown
  have HB1 := Lib.hid hb1
  clear hown hb1
  go_wp2
  go_loopw [5, 9] (fun v5 v9 wr => ∃ k : Nat, k ≤ 8 ∧ v9 = .int .i64 k ∧ LongAt w bs n k v5 wr) (fun _ v9 _ => (8 - intOf v9).toNat)
  case atStart => exact ⟨0, by omega, rfl, g, cp, len, by rw [HB.out.len]; rfl, rfl, by simpa using HO.out, HB1.out⟩
  case round =>
    obtain ⟨k, hk, rfl, g, cap', m, hm, rfl, hown, hbel⟩ := hrel
    have HM := Lib.hid hm
    have HO' := Lib.hid hown
    have HW := Lib.hid hbel
    have hm2 : m ≤ 140737488355308 := by have := HB.out.len; omega
    clear hm hown hbel
    have hwn := low64_wrap n
    have hl := low64_lt n
    by_cases hlt : k < 8
    · obtain ⟨z, hz⟩ : ∃ z, z = low64 n / 256 ^ (7 - k) % 256 := ⟨_, rfl⟩
      have hz8 : z < 256 := by omega
      have hsh : ((low64 n : Nat) : Int) / 2 ^ (8 * (7 - k)) % 256 = (z : Int) := by rw [hz]; exact long_shift _ _
      have HZ := Lib.hid hz
      clear hz
      have HW2 : Hid (Below w.heap.size w (wr.alloc (.cells #[.int .u8 (z : Int)] 5))) := HW.out.alloc HW.out.size _
      go_wp2_with (at_builtin; refine append_row rfl (.tmp 12) (.tmp 20) rfl w.heap.size m (bs ++ (longB n).take k) [z] _ rfl (HO'.out.alloc _) (some_ne _ _ _) HW2.out.size _ _ _ rfl (row_byte wr z hz8) (by omega) w HW2.out ?_)
      intro g3 cp3 w3 ho3 hb3
      have HO3 := Lib.hid ho3
      have HB3 := Lib.hid hb3
      clear ho3 hb3 hsh hwn
      go_wp2
      go_roundw
      case rel => exact ⟨k + 1, by omega, by go_num, longAt_step hlt HM.out HZ.out HO3.out HB3.out⟩
      case measure => simp [intOf]; omega
    · obtain rfl : k = 8 := by omega
      go_wp2
      go_ret
      have h3 := HO'.out
      rw [List.take_of_length_le (by rw [length_longB]; omega)] at h3
      refine gives_row ?_ h3 HW.out
      rw [HM.out, List.length_append, length_longB]
theorem refLong_shift (n : Int) (j : Nat) (hj : j < 8) : n / 2 ^ (8 * j) % 256 = ((low64 n / 256 ^ j % 256 : Nat) : Int) := by
  unfold low64
  rcases j with _ | _ | _ | _ | _ | _ | _ | _ | j
  all_goals first | (exfalso; omega) | (simp only [Nat.reduceMul, Nat.reduceAdd, Int.reducePow, Nat.reducePow]; omega)
set_option maxHeartbeats 400000 in
theorem refLong_any (w : World) (ad : Option Addr) (len cap : Nat) (bs : List Nat) (n : Int) (h : Row w ad len cap bs) (hL : len ≤ 140737488355300) (h0 : -9223372036854775808 ≤ n) (h1 : n ≤ 9223372036854775807) :
    Calls Try.prog 27 #[.slice ad len cap, .int .i64 n] w (GivesRow w (bs ++ longB n)) := by
  have HB := Lib.hid h
  clear h
  have HZ1 : Hid (Below w.heap.size w (w.alloc (.cells #[] 5))) := (Below.refl _ _).alloc (Nat.le_refl _) _
  go_enter Try.func27, Try.ntmps27
  go_wp2_with (at_builtin; refine append_row rfl (.tmp 7) (.tmp 8) rfl w.heap.size 0 [] _ _ rfl (own_empty w _ (Nat.le_refl _)) (some_ne _ _ _) HZ1.out.size _ _ _ rfl (HB.out.keep HZ1.out (Nat.le_refl _)) (by omega) w HZ1.out ?_)
  intro g cp w1 ho1 hb1
  have HO := Lib.hid (show w1.ownsRow w.heap.size 5 1 (.slice (some ⟨g, 0, none⟩) len cp) len (vals bs) by simpa using ho1)
  have HB1 := Lib.hid hb1
  clear ho1 hb1
  go_wp2
  go_loopw [5, 6] (fun v5 v6 wr => ∃ (k : Nat) (i : Int), k ≤ 8 ∧ i = 56 - 8 * (k : Int) ∧ v6 = .int .i64 i ∧ LongAt w bs n k v5 wr) (fun _ v6 _ => (8 + intOf v6).toNat)
  case atStart => exact ⟨0, _, by omega, by omega, rfl, g, cp, len, by rw [HB.out.len]; rfl, rfl, by simpa using HO.out, HB1.out⟩
  case round =>
    obtain ⟨k, i, hk, hi, rfl, g, cap', m, hm, rfl, hown, hbel⟩ := hrel
    have HM := Lib.hid hm
    have HO' := Lib.hid hown
    have HW := Lib.hid hbel
    have hm2 : m ≤ 140737488355308 := by have := HB.out.len; omega
    clear hm hown hbel
    by_cases hlt : k < 8
    · obtain ⟨z, hz⟩ : ∃ z, z = low64 n / 256 ^ (7 - k) % 256 := ⟨_, rfl⟩
      have hz8 : z < 256 := by omega
      obtain ⟨t, ht⟩ : ∃ t, t = 8 * (7 - k) := ⟨_, rfl⟩
      have hsh : n / 2 ^ t % 256 = (z : Int) := by rw [hz, ht]; exact refLong_shift _ _ (by omega)
      have hsh2 : IntKind.u8.wrap (n / 2 ^ t) = (z : Int) := by rw [wrap_u8', hsh]
      obtain rfl : i = (t : Int) := by omega
      have HI := Lib.hid hi
      have HZ := Lib.hid hz
      have ht2 : t ≤ 56 := by omega
      clear hz hsh hi ht
      have HW2 : Hid (Below w.heap.size w (wr.alloc (.cells #[.int .u8 (z : Int)] 5))) := HW.out.alloc HW.out.size _
      go_wp2_with (at_builtin; refine append_row rfl (.tmp 14) (.tmp 20) rfl w.heap.size m (bs ++ (longB n).take k) [z] _ rfl (HO'.out.alloc _) (some_ne _ _ _) HW2.out.size _ _ _ rfl (row_byte wr z hz8) (by omega) w HW2.out ?_)
      intro g3 cp3 w3 ho3 hb3
      have HO3 := Lib.hid ho3
      have HB3 := Lib.hid hb3
      clear ho3 hb3 hsh2
      go_wp2
      go_roundw
      case rel => exact ⟨k + 1, _, by omega, by have := HI.out; omega, rfl, longAt_step hlt HM.out HZ.out HO3.out HB3.out⟩
      case measure => simp [intOf]; omega
    · obtain rfl : k = 8 := by omega
      obtain rfl : i = -8 := by omega
      clear hi
      go_wp2
      go_ret
      have h3 := HO'.out
      rw [List.take_of_length_le (by rw [length_longB]; omega)] at h3
      refine gives_row ?_ h3 HW.out
      rw [HM.out, List.length_append, length_longB]
end Go.Proofs.Ytelbignfecjjhaa
