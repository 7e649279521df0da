/- The contract of 'Check': whether the first four bytes are the sum of the others, and those. -/
import Derived.Test.YtepbmipddblkmaaPut
import Derived.Deep.QuietTactic
import Derived.BigQuiet
import Derived.WalkSmall
namespace Go.Proofs.Ytepbmipddblkmaa
open Go.RowKit Go.CrcMath
set_option linter.unusedVariables false

theorem Byt.alike {w w' : World} {ad : Option Addr} {len cap : Nat} {bs : List Nat} (h : Byt w ad len cap bs) (hc : ∀ a, w'.cell? a = w.cell? a) : Byt w' ad len cap bs := by
  refine ⟨h.length, h.fits, h.all, ?_⟩
  rcases h.cells with h0 | ⟨b, off, e, hc'⟩
  · exact .inl h0
  · exact .inr ⟨b, off, e, fun i hi => (hc _).trans (hc' i hi)⟩
theorem Byt.drewN {w : World} {ad : Option Addr} {len cap : Nat} {bs : List Nat} (h : Byt w ad len cap bs) (n : Nat) : Byt (w.drewN n) ad len cap bs := h.alike fun a => by simp

theorem check_short (w : World) (ad : Option Addr) (len cap : Nat) (bs : List Nat) (h : Byt w ad len cap bs) (h4 : len < 4) :
    Calls Try.prog 12 #[.slice ad len cap] w fun e w' => e = .returned (.tuple #[.slice none 0 0, .bool false]) ∧ ∃ n, w' = w.drewN n := by
  have hd : decide ((len : Int) < 4) = true := by simp; omega
  go_enter Try.func12, Try.ntmps12
  go_wp2
  go_quiet (fail)
  go_wp2
  go_ret2
  exact ⟨rfl, _, rfl⟩

theorem Byt.four {w : World} {ad : Option Addr} {len cap : Nat} {bs : List Nat} (h : Byt w ad len cap bs) (h4 : 4 ≤ len) :
    ∃ b off x0 x1 x2 x3 r, ad = some ⟨b, off, none⟩ ∧ bs = x0 :: x1 :: x2 :: x3 :: r ∧ x0 < 256 ∧ x1 < 256 ∧ x2 < 256 ∧ x3 < 256 ∧ r.length = len - 4 ∧
      w.cell? ⟨b, off, none⟩ = some (.int .u8 x0) ∧ w.cell? ⟨b, off + 1, none⟩ = some (.int .u8 x1) ∧ w.cell? ⟨b, off + 2, none⟩ = some (.int .u8 x2) ∧ w.cell? ⟨b, off + 3, none⟩ = some (.int .u8 x3) ∧
      Byt w (some ⟨b, if cap = 4 then off else off + 4, none⟩) (len - 4) (cap - 4) r := by
  have hl := h.length
  have hf := h.fits
  obtain ⟨x0, x1, x2, x3, r, rfl⟩ := four_of (bs := bs) (by omega)
  simp only [List.length_cons] at hl
  rcases h.cells with h0 | ⟨b, off, rfl, hc⟩
  · omega
  have ha := h.all
  refine ⟨b, off, x0, x1, x2, x3, r, rfl, rfl, ha _ (by simp), ha _ (by simp), ha _ (by simp), ha _ (by simp), by omega, ?_, ?_, ?_, ?_, ?_⟩
  · simpa using hc 0 (by omega)
  · simpa using hc 1 (by omega)
  · simpa using hc 2 (by omega)
  · simpa using hc 3 (by omega)
  · refine ⟨by omega, by omega, fun x hx => ha x (by simp [hx]), ?_⟩
    by_cases h5 : len - 4 = 0
    · exact .inl h5
    · refine .inr ⟨b, off + 4, by rw [if_neg (by omega)], fun i hi => ?_⟩
      have := hc (4 + i) (by omega)
      rw [Nat.add_assoc, this]
      rw [Nat.add_comm 4 i]
      rfl
theorem elem22 : Try.prog.underlying 22 = some (.slice (Try.prog.elem 22)) := by kernel_rfl
theorem sizeElem (w : World) : (sizeOf (Try.prog.elem 22)).run Try.prog w = .ok 1 w := by kernel_rfl
theorem run_from (b off len cap l : Nat) (h : l ≤ len) (w : World) :
    (Instr.slice 22 (.slice (some ⟨b, off, none⟩) len cap) (some (.int .i64 l)) none none).run Try.prog w = .ok (.slice (some ⟨b, if cap = l then off else off + l, none⟩) (len - l) (cap - l)) w := by
  rw [run_slice_l _ _ _ _ _ elem22 _ _ (by omega) (by omega), sizeElem]
  simp only [Result.andThen, sliced, Nat.mul_one, Int.toNat_natCast]
  congr 2
  by_cases h1 : cap = l
  · simp [h1]
  · simp [h1, Addr.add]
theorem run_from4 (b off len cap o4 : Nat) (h : 4 ≤ len) (ho : o4 = if cap = 4 then off else off + 4) (w : World) :
    (Instr.slice 22 (.slice (some ⟨b, off, none⟩) len cap) (some (.int .i64 4)) none none).run Try.prog w = .ok (.slice (some ⟨b, o4, none⟩) (len - 4) (cap - 4)) w := by
  rw [ho]; exact run_from b off len cap 4 h w
theorem add_at (b o j : Nat) : (⟨b, o, none⟩ : Addr).add j = ⟨b, o + j, none⟩ := by
  unfold Addr.add
  split
  · rename_i h; subst h; rfl
  · rfl
theorem source_at {w : World} {b o : Nat} {r : List Value} (h : ∃ a, some (⟨b, o, none⟩ : Addr) = some a ∧ ∀ j v, r[j]? = some v → w.cell? (a.add j) = some v) : ∀ j v, r[j]? = some v → w.cell? ⟨b, o + j, none⟩ = some v := by
  obtain ⟨a, ha, hs⟩ := h
  obtain rfl := Option.some.inj ha
  intro j v hj
  rw [← add_at]; exact hs j v hj
theorem splice_zero (n : Nat) (bs : List Nat) (h : bs.length = n) : splice (vals (List.replicate n 0)) 0 (vals bs) = vals bs := by
  subst h
  rw [splice, List.take_zero, List.drop_eq_nil_of_le (by simp [vals]), List.append_nil, List.nil_append]
set_option maxHeartbeats 400000 in
theorem check_long (w : World) (ad : Option Addr) (len cap : Nat) (bs : List Nat) (h : Byt w ad len cap bs) (h4 : 4 ≤ len) (hL : len ≤ 140737488355328) :
    Calls Try.prog 12 #[.slice ad len cap] w fun e w' => (okB bs = false → e = .returned (.tuple #[.slice none 0 0, .bool false]) ∧ Below w.heap.size w w') ∧
      (okB bs = true → ∃ g, e = .returned (.tuple #[.slice (some ⟨g, 0, none⟩) (len - 4) (len - 4), .bool true]) ∧ w.heap.size ≤ g ∧ Own w' g (bs.drop 4) ∧ Below w.heap.size w w') := by
  obtain ⟨i0, hi, hz0, hz1, hz2⟩ := info_parts info5
  obtain ⟨b, off, x0, x1, x2, x3, r, rfl, rfl, l0, l1, l2, l3, hr, c0, c1, c2, c3, hB⟩ := h.four h4
  have hd : decide ((len : Int) < 4) = false := by simp; omega
  obtain ⟨o4, ho4⟩ : ∃ o4, o4 = if cap = 4 then off else off + 4 := ⟨_, rfl⟩
  rw [← ho4] at hB
  have hsl := run_from4 b off len cap o4 h4 ho4
  have hok : okB (x0 :: x1 :: x2 :: x3 :: r) = decide (unl [x0, x1, x2, x3] = ofB r) := by rw [okB_long (by simp)]; rfl
  rw [hok]
  have HU : ∃ u, u = unl [x0, x1, x2, x3] := ⟨_, rfl⟩
  obtain ⟨u, hu⟩ := HU
  have HV : ∃ v, v = ofB r := ⟨_, rfl⟩
  obtain ⟨v, hv⟩ := HV
  rw [← hu, ← hv]
  have K18 : ∀ n, Calls Try.prog 18 #[.slice (some ⟨b, off, none⟩) len cap] (w.drewN n) fun e w' => e = .returned (.int .u32 u) ∧ w' = w.drewN n := fun n => by
    rw [hu]
    exact (stored_any _ _ _ _ _ x0 x1 x2 x3 h4 hL (by simpa using c0) (by simpa using c1) (by simpa using c2) (by simpa using c3) l0 l1 l2 l3).mono fun e w' ⟨h1, h2⟩ => ⟨h1, h2.symm⟩
  have K13 : ∀ n, Calls Try.prog 13 #[.slice (some ⟨b, o4, none⟩) (len - 4) (cap - 4)] (w.drewN n) fun e w' => e = .returned (.int .u32 v) ∧ w' = w.drewN n := fun n => by
    rw [hv]
    exact (of_any _ _ _ _ r (hB.drewN _) (by omega)).mono fun e w' ⟨h1, h2⟩ => ⟨h1, h2.symm⟩
  have HK18 := Lib.hid K18
  have HK13 := Lib.hid K13
  have HB := Lib.hid hB
  have HR := Lib.hid hr
  clear hB ho4 h hok hu hv K18 K13 c0 c1 c2 c3 hr
  by_cases hc : u = v
  · subst hc
    go_enter Try.func12, Try.ntmps12
    go_wp2
    go_quiet (first | (go_at_call 18; exact Calls.quiet_of_same (HK18.out _)) | (go_at_call 13; exact Calls.quiet_of_same (HK13.out _)))
    go_wp2_with (first | (at_make; refine wpList_make_full _ rfl _ _ 22 rfl w.heap.size 5 i0 (.int .u8 0) 1 Try.underlying22 hi hz0 hz1 .i64 .i64 _ _ (len - 4) rfl rfl (by omega) (by omega) (by rw [hz2]; omega) (by unfold maxLen; omega) (Nat.le_refl _) ?_; intro w0 hown0 hgrow0) | (with_reducible refine wpList_copy_splice rfl (.tmp 20) (.tmp 22) 22 22 rfl 5 Try.underlying22 size5 _ _ _ _ _ _ rfl rfl w.heap.size 0 (vals (List.replicate (len - 4) 0)) 5 ?_ (vals r) ?_ ?_ ?_ (vals_one r) w.heap.size w ?_ (Nat.le_refl _) ?_))
    · exact own_zero (own_made hown0)
    · rw [length_vals, HR.out]; simp
    · intro hp
      rw [length_vals, HR.out] at hp
      have hb0 : Below w.heap.size w w0 := (below_drewN (Below.refl _ _) nq).grown hgrow0 (Nat.le_refl _) (by simp)
      exact source_at ((HB.out.keep hb0 (Nat.le_refl _)).source hp)
    · rw [length_vals, length_vals, HR.out]; simp
    · exact (below_drewN (Below.refl _ _) nq).grown hgrow0 (Nat.le_refl _) (by simp)
    · intro w2 HG2 hB2
      have R : Hid (Own w2 w.heap.size r) := by
        have h1 := HG2.out
        rw [splice_zero _ _ HR.out] at h1
        exact h1
      clear HG2
      go_wp2
      go_ret2
      exact ⟨fun h => absurd h (by simp), fun _ => ⟨w.heap.size, rfl, Nat.le_refl _, R.out, hB2⟩⟩
  · have hne : ((u : Int) != (v : Int)) = true := by simp; omega
    go_enter Try.func12, Try.ntmps12
    go_wp2
    go_quiet (first | (go_at_call 18; exact Calls.quiet_of_same (HK18.out _)) | (go_at_call 13; exact Calls.quiet_of_same (HK13.out _)))
    go_wp2
    go_ret2
    exact ⟨fun _ => ⟨rfl, below_drewN (Below.refl _ _) _⟩, fun h => absurd (of_decide_eq_true h) hc⟩
end Go.Proofs.Ytepbmipddblkmaa
