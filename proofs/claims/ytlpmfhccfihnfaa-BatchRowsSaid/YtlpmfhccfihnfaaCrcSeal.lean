/- The contracts of the code's stored, Put and Check. -/
import Derived.Test.YtlpmfhccfihnfaaBytes
import Derived.Test.YtlpmfhccfihnfaaCrcMath
import Derived.Test.YtlpmfhccfihnfaaCrcOf
import Derived.Deep.QuietTactic
import Derived.BigQuiet
import Derived.Outline
namespace Go.Proofs.Ytlpmfhccfihnfaa
open Go.RowKit
open Go.CrcMath hiding AllB
set_option linter.unusedVariables false

theorem or_join (i d e : Nat) (hd : d < 2 ^ i) (h : e * 2 ^ i + d < 4294967296) : bits .or .u32 (d : Int) ((e * 2 ^ i : Nat) : Int) = ((d + e * 2 ^ i : Nat) : Int) := by
  rw [u32_or_nat d (e * 2 ^ i) (by omega) (by omega), Nat.or_comm, nat_join i (e * 2 ^ i) d (Nat.mul_mod_left _ _) hd, Nat.add_comm]
theorem or0 (x : Nat) (h : x < 256) : bits .or .u32 0 (x : Int) = (x : Int) := by
  have := u32_or_nat 0 x (by omega) (by omega)
  rw [Nat.zero_or] at this
  exact this
theorem or8 (d e : Nat) (hd : d < 256) (he : e < 256) : bits .or .u32 (d : Int) ((e : Int) * 256) = ((d + e * 256 : Nat) : Int) := or_join 8 d e hd (by omega)
theorem or16 (d e : Nat) (hd : d < 65536) (he : e < 256) : bits .or .u32 (d : Int) ((e : Int) * 65536) = ((d + e * 65536 : Nat) : Int) := or_join 16 d e hd (by omega)
theorem or24 (d e : Nat) (hd : d < 16777216) (he : e < 256) : bits .or .u32 (d : Int) ((e : Int) * 16777216) = ((d + e * 16777216 : Nat) : Int) := or_join 24 d e hd (by omega)
set_option maxHeartbeats 400000 in
theorem stored_any (w : World) (b off len cap : Nat) (x0 x1 x2 x3 : Nat) (h4 : 4 ≤ len) (hL : len ≤ 140737488355328)
    (c0 : w.cell? ⟨b, off, none⟩ = some (.int .u8 x0)) (c1 : w.cell? ⟨b, off + 1, none⟩ = some (.int .u8 x1)) (c2 : w.cell? ⟨b, off + 2, none⟩ = some (.int .u8 x2)) (c3 : w.cell? ⟨b, off + 3, none⟩ = some (.int .u8 x3))
    (h0 : x0 < 256) (h1 : x1 < 256) (h2 : x2 < 256) (h3 : x3 < 256) :
    Calls Try.prog 75 #[.slice (some ⟨b, off, none⟩) len cap] w fun e w' => e = .returned (.int .u32 (unl [x0, x1, x2, x3] : Nat)) ∧ w = w' := by
  go_enter Try.func75, Try.ntmps75
  go_wp2
  refine wp_loop_rounds 5 ?_
  rw [rounds_succ]
  go_wp2
  rw [rounds_succ]
  go_wp2
  rw [rounds_succ]
  go_wp2
  rw [rounds_succ]
  go_wp2
  rw [rounds_succ]
  go_wp2
  go_ret
  refine ⟨ret_u32 ?_, rfl⟩
  rw [or0 x0 h0, or8 x0 x1 h0 h1, or16 _ x2 (by omega) h2, or24 _ x3 (by omega) h3]
  simp only [unl]
  omega
/-- The world behind the four stores. -/
def putW (w0 : World) (g c : Nat) : World :=
  (((w0.setCell ⟨g, 0, none⟩ (.int .u8 ((c : Int) % 256))).setCell ⟨g, 1, none⟩ (.int .u8 ((c : Int) / 256 % 256))).setCell ⟨g, 2, none⟩ (.int .u8 ((c : Int) / 65536 % 256))).setCell ⟨g, 3, none⟩ (.int .u8 ((c : Int) / 16777216))
theorem put_own (w0 : World) (g len c : Nat) (h : Own w0 g (List.replicate (len + 4) 0)) (hc : c < 4294967296) : Own (putW w0 g c) g (leB c ++ List.replicate len 0) := by
  have h4 := (((h.set 0 (c % 256)).set 1 (c / 256 % 256)).set 2 (c / 65536 % 256)).set 3 (c / 16777216 % 256)
  have e3 : (((c / 16777216 % 256 : Nat)) : Int) = (c : Int) / 16777216 := by omega
  rw [e3] at h4
  have e : ((((List.replicate (len + 4) 0).set 0 (c % 256)).set 1 (c / 256 % 256)).set 2 (c / 65536 % 256)).set 3 (c / 16777216 % 256) = leB c ++ List.replicate len 0 := by
    rw [show List.replicate (len + 4) 0 = 0 :: 0 :: 0 :: 0 :: List.replicate len 0 from rfl]
    rfl
  rw [e] at h4
  exact h4
theorem put_below {w w0 : World} {B : Nat} (hb : Below B w w0) (g c : Nat) (hg : B ≤ g) : Below B w (putW w0 g c) :=
  (((hb.setCell (p := ⟨g, 0, none⟩) hg _).setCell (p := ⟨g, 1, none⟩) hg _).setCell (p := ⟨g, 2, none⟩) hg _).setCell (p := ⟨g, 3, none⟩) hg _
theorem put_splice (c : Nat) (bs : List Nat) : splice (vals (leB c ++ List.replicate bs.length 0)) 4 (vals bs) = vals (leB c ++ bs) := by
  have h4 : (vals (leB c)).length = 4 := rfl
  rw [vals_append, splice, List.take_append_of_le_length (by rw [h4]; omega), List.take_of_length_le (by rw [h4]; omega), List.drop_eq_nil_of_le (by simp [vals, leB]; omega), List.append_nil, vals_append]
set_option maxHeartbeats 400000 in
theorem crcPut_any (w : World) (ad : Option Addr) (len cap : Nat) (bs : List Nat) (h : Byt w ad len cap bs) (hL : len ≤ 140737488355300) :
    Calls Try.prog 34 #[.slice ad len cap] w fun e w' => ∃ g, e = .returned (.slice (some ⟨g, 0, none⟩) (len + 4) (len + 4)) ∧ w.heap.size ≤ g ∧ Own w' g (sealB bs) ∧ Below w.heap.size w w' := by
  obtain ⟨i0, hi, hz0, hz1, hz2⟩ := info_parts info5
  have HB := Lib.hid h
  clear h
  go_enter Try.func34, Try.ntmps34
  go_wp2_with (first | (at_make; refine wpList_make_full _ rfl _ _ 34 rfl w.heap.size 5 i0 (.int .u8 0) 1 Try.underlying34 hi hz0 hz1 .i64 .i64 _ _ (len + 4) rfl rfl (by omega) (by omega) (by rw [hz2]; omega) (by unfold maxLen; omega) (Nat.le_refl _) ?_; intro w0 hown0 hgrow0))
  have hb0 : Below w.heap.size w w0 := (Below.refl _ _).grown hgrow0 (Nat.le_refl _) (by simp)
  have O0 : Own w0 w.heap.size (List.replicate (len + 4) 0) := own_zero (own_made hown0)
  have hg0 : w.heap.size < w0.heap.size := (hown0.lt _ rfl).2
  clear hown0 hgrow0
  refine (of_any _ _ _ _ _ (HB.out.keep hb0 (Nat.le_refl _)) (by omega)).mono ?_
  rintro e w' ⟨rfl, rfl⟩
  have hsl := ofB_lt HB.out.all
  obtain ⟨c, hc⟩ : ∃ c, c = ofB bs := ⟨_, rfl⟩
  rw [← hc] at hsl ⊢
  have HCC := Lib.hid hc
  clear hc
  have hcell : ∀ i, i < 4 → w0.cell? ⟨w.heap.size, i, none⟩ = some (.int .u8 0) := fun i hi => by
    rw [O0.cell i (by simp; omega)]
    simp [List.getD_eq_getElem?_getD, show i < len + 4 by omega]
  have k0 := hcell 0 (by omega)
  have k1 := hcell 1 (by omega)
  have k2 := hcell 2 (by omega)
  have k3 := hcell 3 (by omega)
  have f0 := O0.free 0
  have f1 := O0.free 1
  have f2 := O0.free 2
  have f3 := O0.free 3
  have P1 : Own (putW w0 w.heap.size c) w.heap.size (leB c ++ List.replicate len 0) := put_own w0 w.heap.size len c O0 hsl
  have P2 : Below w.heap.size w (putW w0 w.heap.size c) := put_below hb0 _ _ (Nat.le_refl _)
  have P3 : Byt (putW w0 w.heap.size c) ad len cap bs := HB.out.keep P2 (Nat.le_refl _)
  have P4 : bs.length = len := HB.out.length
  have HP1 := Lib.hid P1
  have HP2 := Lib.hid P2
  have HP3 := Lib.hid P3
  have HP4 := Lib.hid P4
  clear O0 hcell P1 P2 P3 P4 hb0
  by_cases hz : len = 0
  · subst hz
    go_wp2
    refine wp_loop_rounds 5 ?_
    rw [rounds_succ]
    go_wp2
    rw [rounds_succ]
    go_wp2
    rw [rounds_succ]
    go_wp2
    rw [rounds_succ]
    go_wp2
    rw [rounds_succ]
    go_wp2_with (with_reducible refine wpList_copy_splice rfl (.tmp 25) (.tmp 26) 34 34 rfl 5 Try.underlying34 size5 _ _ _ _ _ _ rfl rfl w.heap.size 4 (vals (leB c ++ List.replicate 0 0)) 5 ?_ (vals bs) ?_ ?_ ?_ (vals_one bs) w.heap.size w ?_ (Nat.le_refl _) ?_)
    · exact HP1.out
    · rw [length_vals, HP4.out]; simp
    · intro hp
      rw [length_vals, HP4.out] at hp
      omega
    · rw [length_vals, length_vals, HP4.out]; simp [leB]
    · exact HP2.out
    · intro w2 HG2 hB2
      have R : Hid (Own w2 w.heap.size (sealB bs)) := by
        have h1 := HG2.out
        have h2 := put_splice c bs
        rw [HP4.out] at h2
        simp only [List.replicate_zero, List.append_nil] at h2
        rw [h2, HCC.out] at h1
        exact h1
      clear HG2
      go_wp2
      go_ret
      exact ⟨w.heap.size, rfl, Nat.le_refl _, R.out, hB2⟩
  · have hz' : ¬ len = 0 := hz
    go_wp2
    refine wp_loop_rounds 5 ?_
    rw [rounds_succ]
    go_wp2
    rw [rounds_succ]
    go_wp2
    rw [rounds_succ]
    go_wp2
    rw [rounds_succ]
    go_wp2
    rw [rounds_succ]
    go_wp2_with (with_reducible refine wpList_copy_splice rfl (.tmp 25) (.tmp 26) 34 34 rfl 5 Try.underlying34 size5 _ _ _ _ _ _ rfl rfl w.heap.size 4 (vals (leB c ++ List.replicate len 0)) 5 ?_ (vals bs) ?_ ?_ ?_ (vals_one bs) w.heap.size w ?_ (Nat.le_refl _) ?_)
    · exact HP1.out
    · rw [length_vals, HP4.out]; simp
    · intro hp
      rw [length_vals, HP4.out] at hp
      exact HP3.out.source hp
    · rw [length_vals, length_vals, HP4.out]; simp only [leB, List.length_append, List.length_cons, List.length_nil, List.length_replicate]; omega
    · exact HP2.out
    · intro w2 HG2 hB2
      have R : Hid (Own w2 w.heap.size (sealB bs)) := by
        have h1 := HG2.out
        have h2 := put_splice c bs
        rw [HP4.out] at h2
        rw [h2, HCC.out] at h1
        exact h1
      clear HG2
      go_wp2
      go_ret
      exact ⟨w.heap.size, rfl, Nat.le_refl _, R.out, hB2⟩

theorem check_short (w : World) (ad : Option Addr) (len cap : Nat) (bs : List Nat) (h : Byt w ad len cap bs) (h4 : len < 4) :
    Calls Try.prog 58 #[.slice ad len cap] w fun e w' => e = .returned (.tuple #[.slice none 0 0, .bool false]) ∧ ∃ n, w' = w.drewN n := by
  have hd : decide ((len : Int) < 4) = true := by simp; omega
  go_enter Try.func58, Try.ntmps58
  go_wp2
  go_quiet (fail)
  go_wp2
  go_ret2
  exact ⟨rfl, _, rfl⟩

theorem Byt.four {w : World} {ad : Option Addr} {len cap : Nat} {bs : List Nat} (h : Byt w ad len cap bs) (h4 : 4 ≤ len) :
    ∃ b off x0 x1 x2 x3 r, ad = some ⟨b, off, none⟩ ∧ bs = x0 :: x1 :: x2 :: x3 :: r ∧ x0 < 256 ∧ x1 < 256 ∧ x2 < 256 ∧ x3 < 256 ∧ r.length = len - 4 ∧
      w.cell? ⟨b, off, none⟩ = some (.int .u8 x0) ∧ w.cell? ⟨b, off + 1, none⟩ = some (.int .u8 x1) ∧ w.cell? ⟨b, off + 2, none⟩ = some (.int .u8 x2) ∧ w.cell? ⟨b, off + 3, none⟩ = some (.int .u8 x3) ∧
      Byt w (some ⟨b, if cap = 4 then off else off + 4, none⟩) (len - 4) (cap - 4) r := by
  have hl := h.length
  have hf := h.fits
  obtain ⟨x0, x1, x2, x3, r, rfl⟩ := four_of (bs := bs) (by omega)
  simp only [List.length_cons] at hl
  rcases h.cells with h0 | ⟨b, off, rfl, hc⟩
  · omega
  have ha := h.all
  refine ⟨b, off, x0, x1, x2, x3, r, rfl, rfl, ha _ (by simp), ha _ (by simp), ha _ (by simp), ha _ (by simp), by omega, ?_, ?_, ?_, ?_, ?_⟩
  · simpa using hc 0 (by omega)
  · simpa using hc 1 (by omega)
  · simpa using hc 2 (by omega)
  · simpa using hc 3 (by omega)
  · refine ⟨by omega, by omega, fun x hx => ha x (by simp [hx]), ?_⟩
    by_cases h5 : len - 4 = 0
    · exact .inl h5
    · refine .inr ⟨b, off + 4, by rw [if_neg (by omega)], fun i hi => ?_⟩
      have := hc (4 + i) (by omega)
      rw [Nat.add_assoc, this]
      rw [Nat.add_comm 4 i]
      rfl
theorem run_from4 (b off len cap o4 : Nat) (h : 4 ≤ len) (ho : o4 = if cap = 4 then off else off + 4) (w : World) :
    (Instr.slice 34 (.slice (some ⟨b, off, none⟩) len cap) (some (.int .i64 4)) none none).run Try.prog w = .ok (.slice (some ⟨b, o4, none⟩) (len - 4) (cap - 4)) w := by
  rw [ho]; exact run_from b off len cap 4 h w
theorem splice_zero (n : Nat) (bs : List Nat) (h : bs.length = n) : splice (vals (List.replicate n 0)) 0 (vals bs) = vals bs := by
  subst h
  rw [splice, List.take_zero, List.drop_eq_nil_of_le (by simp [vals]), List.append_nil, List.nil_append]
set_option maxHeartbeats 400000 in
theorem check_long (w : World) (ad : Option Addr) (len cap : Nat) (bs : List Nat) (h : Byt w ad len cap bs) (h4 : 4 ≤ len) (hL : len ≤ 140737488355328) :
    Calls Try.prog 58 #[.slice ad len cap] w fun e w' => (okB bs = false → e = .returned (.tuple #[.slice none 0 0, .bool false]) ∧ Below w.heap.size w w') ∧
      (okB bs = true → ∃ g, e = .returned (.tuple #[.slice (some ⟨g, 0, none⟩) (len - 4) (len - 4), .bool true]) ∧ w.heap.size ≤ g ∧ Own w' g (bs.drop 4) ∧ Below w.heap.size w w') := by
  obtain ⟨i0, hi, hz0, hz1, hz2⟩ := info_parts info5
  obtain ⟨b, off, x0, x1, x2, x3, r, rfl, rfl, l0, l1, l2, l3, hr, c0, c1, c2, c3, hB⟩ := h.four h4
  have hd : decide ((len : Int) < 4) = false := by simp; omega
  obtain ⟨o4, ho4⟩ : ∃ o4, o4 = if cap = 4 then off else off + 4 := ⟨_, rfl⟩
  rw [← ho4] at hB
  have hsl := run_from4 b off len cap o4 h4 ho4
  have hok : okB (x0 :: x1 :: x2 :: x3 :: r) = decide (unl [x0, x1, x2, x3] = ofB r) := by rw [okB_long (by simp)]; rfl
  rw [hok]
  have HU : ∃ u, u = unl [x0, x1, x2, x3] := ⟨_, rfl⟩
  obtain ⟨u, hu⟩ := HU
  have HV : ∃ v, v = ofB r := ⟨_, rfl⟩
  obtain ⟨v, hv⟩ := HV
  rw [← hu, ← hv]
  have K18 : ∀ n, Calls Try.prog 75 #[.slice (some ⟨b, off, none⟩) len cap] (w.drewN n) fun e w' => e = .returned (.int .u32 u) ∧ w' = w.drewN n := fun n => by
    rw [hu]
    exact (stored_any _ _ _ _ _ x0 x1 x2 x3 h4 hL (by simpa using c0) (by simpa using c1) (by simpa using c2) (by simpa using c3) l0 l1 l2 l3).mono fun e w' ⟨h1, h2⟩ => ⟨h1, h2.symm⟩
  have K13 : ∀ n, Calls Try.prog 54 #[.slice (some ⟨b, o4, none⟩) (len - 4) (cap - 4)] (w.drewN n) fun e w' => e = .returned (.int .u32 v) ∧ w' = w.drewN n := fun n => by
    rw [hv]
    exact (of_any _ _ _ _ r (hB.drewN _) (by omega)).mono fun e w' ⟨h1, h2⟩ => ⟨h1, h2.symm⟩
  have HK18 := Lib.hid K18
  have HK13 := Lib.hid K13
  have HB := Lib.hid hB
  have HR := Lib.hid hr
  clear hB ho4 h hok hu hv K18 K13 c0 c1 c2 c3 hr
  by_cases hc : u = v
  · subst hc
    go_enter Try.func58, Try.ntmps58
    go_wp2
    go_quiet (first | (go_at_call 75; exact Calls.quiet_of_same (HK18.out _)) | (go_at_call 54; exact Calls.quiet_of_same (HK13.out _)))
    go_wp2_with (first | (at_make; refine wpList_make_full _ rfl _ _ 34 rfl w.heap.size 5 i0 (.int .u8 0) 1 Try.underlying34 hi hz0 hz1 .i64 .i64 _ _ (len - 4) rfl rfl (by omega) (by omega) (by rw [hz2]; omega) (by unfold maxLen; omega) (Nat.le_refl _) ?_; intro w0 hown0 hgrow0) | (with_reducible refine wpList_copy_splice rfl (.tmp 20) (.tmp 22) 34 34 rfl 5 Try.underlying34 size5 _ _ _ _ _ _ rfl rfl w.heap.size 0 (vals (List.replicate (len - 4) 0)) 5 ?_ (vals r) ?_ ?_ ?_ (vals_one r) w.heap.size w ?_ (Nat.le_refl _) ?_))
    · exact own_zero (own_made hown0)
    · rw [length_vals, HR.out]; simp
    · intro hp
      rw [length_vals, HR.out] at hp
      have hb0 : Below w.heap.size w w0 := (below_drewN (Below.refl _ _) nq).grown hgrow0 (Nat.le_refl _) (by simp)
      exact source_at ((HB.out.keep hb0 (Nat.le_refl _)).source hp)
    · rw [length_vals, length_vals, HR.out]; simp
    · exact (below_drewN (Below.refl _ _) nq).grown hgrow0 (Nat.le_refl _) (by simp)
    · intro w2 HG2 hB2
      have R : Hid (Own w2 w.heap.size r) := by
        have h1 := HG2.out
        rw [splice_zero _ _ HR.out] at h1
        exact h1
      clear HG2
      go_wp2
      go_ret2
      exact ⟨fun h => absurd h (by simp), fun _ => ⟨w.heap.size, rfl, Nat.le_refl _, R.out, hB2⟩⟩
  · have hne : ((u : Int) != (v : Int)) = true := by simp; omega
    go_enter Try.func58, Try.ntmps58
    go_wp2
    go_quiet (first | (go_at_call 75; exact Calls.quiet_of_same (HK18.out _)) | (go_at_call 54; exact Calls.quiet_of_same (HK13.out _)))
    go_wp2
    go_ret2
    exact ⟨fun _ => ⟨rfl, below_drewN (Below.refl _ _) _⟩, fun h => absurd (of_decide_eq_true h) hc⟩
end Go.Proofs.Ytlpmfhccfihnfaa
