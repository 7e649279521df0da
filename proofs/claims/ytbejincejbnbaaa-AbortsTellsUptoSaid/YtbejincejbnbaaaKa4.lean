/- Parts of a proof, merged: CrcSeal, SeqRight, CrcRef, CrcSealed, BatWrite, BatUse. -/
import Derived.Deep.QuietTactic
import Derived.BigQuiet
import Derived.Outline
import Derived.Test.YtbejincejbnbaaaRows
import Derived.WalkKit
import Derived.IntWalk
import Derived.Lib.Hide
import Derived.Deep.RegionHeld3
import Derived.Test.YtbejincejbnbaaaKa2
import Derived.Test.YtbejincejbnbaaaKa1
import Derived.Test.YtbejincejbnbaaaKa3
namespace Go.Proofs.Ytbejincejbnbaaa
open Go.RowKit
open Go.CrcMath hiding AllB
set_option linter.unusedVariables false

theorem or_join (i d e : Nat) (hd : d < 2 ^ i) (h : e * 2 ^ i + d < 4294967296) : bits .or .u32 (d : Int) ((e * 2 ^ i : Nat) : Int) = ((d + e * 2 ^ i : Nat) : Int) := by
 rw [u32_or_nat d (e * 2 ^ i) (by omega) (by omega), Nat.or_comm, nat_join i (e * 2 ^ i) d (Nat.mul_mod_left _ _) hd, Nat.add_comm]
theorem or0 (x : Nat) (h : x < 256) : bits .or .u32 0 (x : Int) = (x : Int) := by
 have := u32_or_nat 0 x (by omega) (by omega)
 rw [Nat.zero_or] at this
 exact this
theorem or8 (d e : Nat) (hd : d < 256) (he : e < 256) : bits .or .u32 (d : Int) ((e : Int) * 256) = ((d + e * 256 : Nat) : Int) := or_join 8 d e hd (by omega)
theorem or16 (d e : Nat) (hd : d < 65536) (he : e < 256) : bits .or .u32 (d : Int) ((e : Int) * 65536) = ((d + e * 65536 : Nat) : Int) := or_join 16 d e hd (by omega)
theorem or24 (d e : Nat) (hd : d < 16777216) (he : e < 256) : bits .or .u32 (d : Int) ((e : Int) * 16777216) = ((d + e * 16777216 : Nat) : Int) := or_join 24 d e hd (by omega)
set_option maxHeartbeats 400000 in
theorem stored_any (w : World) (b off len cap : Nat) (x0 x1 x2 x3 : Nat) (h4 : 4 ≤ len) (hL : len ≤ 140737488355328)
 (c0 : w.cell? ⟨b, off, none⟩ = some (.int .u8 x0)) (c1 : w.cell? ⟨b, off + 1, none⟩ = some (.int .u8 x1)) (c2 : w.cell? ⟨b, off + 2, none⟩ = some (.int .u8 x2)) (c3 : w.cell? ⟨b, off + 3, none⟩ = some (.int .u8 x3))
 (h0 : x0 < 256) (h1 : x1 < 256) (h2 : x2 < 256) (h3 : x3 < 256) :
 Calls Try.prog 57 #[.slice (some ⟨b, off, none⟩) len cap] w fun e w' => e = .returned (.int .u32 (unl [x0, x1, x2, x3] : Nat)) ∧ w = w' := by
 go_enter Try.func57, Try.ntmps57
 go_wp2
 refine wp_loop_rounds 5 ?_
 rw [rounds_succ]
 go_wp2
 rw [rounds_succ]
 go_wp2
 rw [rounds_succ]
 go_wp2
 rw [rounds_succ]
 go_wp2
 rw [rounds_succ]
 go_wp2
 go_ret
 refine ⟨ret_u32 ?_, rfl⟩
 rw [or0 x0 h0, or8 x0 x1 h0 h1, or16 _ x2 (by omega) h2, or24 _ x3 (by omega) h3]
 simp only [unl]
 omega
/-- The world behind the four stores. -/
def putW (w0 : World) (g c : Nat) : World :=
 (((w0.setCell ⟨g, 0, none⟩ (.int .u8 ((c : Int) % 256))).setCell ⟨g, 1, none⟩ (.int .u8 ((c : Int) / 256 % 256))).setCell ⟨g, 2, none⟩ (.int .u8 ((c : Int) / 65536 % 256))).setCell ⟨g, 3, none⟩ (.int .u8 ((c : Int) / 16777216))
theorem put_own (w0 : World) (g len c : Nat) (h : Own w0 g (List.replicate (len + 4) 0)) (hc : c < 4294967296) : Own (putW w0 g c) g (leB c ++ List.replicate len 0) := by
 have h4 := (((h.set 0 (c % 256)).set 1 (c / 256 % 256)).set 2 (c / 65536 % 256)).set 3 (c / 16777216 % 256)
 have e3 : (((c / 16777216 % 256 : Nat)) : Int) = (c : Int) / 16777216 := by omega
 rw [e3] at h4
 have e : ((((List.replicate (len + 4) 0).set 0 (c % 256)).set 1 (c / 256 % 256)).set 2 (c / 65536 % 256)).set 3 (c / 16777216 % 256) = leB c ++ List.replicate len 0 := by
  rw [show List.replicate (len + 4) 0 = 0 :: 0 :: 0 :: 0 :: List.replicate len 0 from rfl]
  rfl
 rw [e] at h4
 exact h4
theorem put_below {w w0 : World} {B : Nat} (hb : Below B w w0) (g c : Nat) (hg : B ≤ g) : Below B w (putW w0 g c) :=
 (((hb.setCell (p := ⟨g, 0, none⟩) hg _).setCell (p := ⟨g, 1, none⟩) hg _).setCell (p := ⟨g, 2, none⟩) hg _).setCell (p := ⟨g, 3, none⟩) hg _
theorem put_splice (c : Nat) (bs : List Nat) : splice (vals (leB c ++ List.replicate bs.length 0)) 4 (vals bs) = vals (leB c ++ bs) := by
 have h4 : (vals (leB c)).length = 4 := rfl
 rw [vals_append, splice, List.take_append_of_le_length (by rw [h4]; omega), List.take_of_length_le (by rw [h4]; omega), List.drop_eq_nil_of_le (by simp [vals, leB]; omega), List.append_nil, vals_append]
set_option maxHeartbeats 400000 in
theorem crcPut_any (w : World) (ad : Option Addr) (len cap : Nat) (bs : List Nat) (h : Byt w ad len cap bs) (hL : len ≤ 140737488355300) :
 Calls Try.prog 44 #[.slice ad len cap] w fun e w' => ∃ g, e = .returned (.slice (some ⟨g, 0, none⟩) (len + 4) (len + 4)) ∧ w.heap.size ≤ g ∧ Own w' g (sealB bs) ∧ Below w.heap.size w w' := by
 obtain ⟨i0, hi, hz0, hz1, hz2⟩ := info_parts info5
 have HB := Lib.hid h
 clear h
 go_enter Try.func44, Try.ntmps44
 go_wp2_with (first | (at_make; refine wpList_make_full _ rfl _ _ 38 rfl w.heap.size 5 i0 (.int .u8 0) 1 Try.underlying38 hi hz0 hz1 .i64 .i64 _ _ (len + 4) rfl rfl (by omega) (by omega) (by rw [hz2]; omega) (by unfold maxLen; omega) (Nat.le_refl _) ?_; intro w0 hown0 hgrow0))
 have hb0 : Below w.heap.size w w0 := (Below.refl _ _).grown hgrow0 (Nat.le_refl _) (by simp)
 have O0 : Own w0 w.heap.size (List.replicate (len + 4) 0) := own_zero (own_made hown0)
 have hg0 : w.heap.size < w0.heap.size := (hown0.lt _ rfl).2
 clear hown0 hgrow0
 refine (of_any _ _ _ _ _ (HB.out.keep hb0 (Nat.le_refl _)) (by omega)).mono ?_
 rintro e w' ⟨rfl, rfl⟩
 have hsl := ofB_lt HB.out.all
 obtain ⟨c, hc⟩ : ∃ c, c = ofB bs := ⟨_, rfl⟩
 rw [← hc] at hsl ⊢
 have HCC := Lib.hid hc
 clear hc
 have hcell : ∀ i, i < 4 → w0.cell? ⟨w.heap.size, i, none⟩ = some (.int .u8 0) := fun i hi => by
  rw [O0.cell i (by simp; omega)]
  simp [List.getD_eq_getElem?_getD, show i < len + 4 by omega]
 have k0 := hcell 0 (by omega)
 have k1 := hcell 1 (by omega)
 have k2 := hcell 2 (by omega)
 have k3 := hcell 3 (by omega)
 have f0 := O0.free 0
 have f1 := O0.free 1
 have f2 := O0.free 2
 have f3 := O0.free 3
 have P1 : Own (putW w0 w.heap.size c) w.heap.size (leB c ++ List.replicate len 0) := put_own w0 w.heap.size len c O0 hsl
 have P2 : Below w.heap.size w (putW w0 w.heap.size c) := put_below hb0 _ _ (Nat.le_refl _)
 have P3 : Byt (putW w0 w.heap.size c) ad len cap bs := HB.out.keep P2 (Nat.le_refl _)
 have P4 : bs.length = len := HB.out.length
 have HP1 := Lib.hid P1
 have HP2 := Lib.hid P2
 have HP3 := Lib.hid P3
 have HP4 := Lib.hid P4
 clear O0 hcell P1 P2 P3 P4 hb0
 by_cases hz : len = 0
 · subst hz
   go_wp2
   refine wp_loop_rounds 5 ?_
   rw [rounds_succ]
   go_wp2
   rw [rounds_succ]
   go_wp2
   rw [rounds_succ]
   go_wp2
   rw [rounds_succ]
   go_wp2
   rw [rounds_succ]
   go_wp2_with (with_reducible refine wpList_copy_splice rfl (.tmp 25) (.tmp 26) 38 38 rfl 5 Try.underlying38 size5 _ _ _ _ _ _ rfl rfl w.heap.size 4 (vals (leB c ++ List.replicate 0 0)) 5 ?_ (vals bs) ?_ ?_ ?_ (vals_one bs) w.heap.size w ?_ (Nat.le_refl _) ?_)
   · exact HP1.out
   · rw [length_vals, HP4.out]; simp
   · intro hp
     rw [length_vals, HP4.out] at hp
     omega
   · rw [length_vals, length_vals, HP4.out]; simp [leB]
   · exact HP2.out
   · intro w2 HG2 hB2
     have R : Hid (Own w2 w.heap.size (sealB bs)) := by
      have h1 := HG2.out
      have h2 := put_splice c bs
      rw [HP4.out] at h2
      simp only [List.replicate_zero, List.append_nil] at h2
      rw [h2, HCC.out] at h1
      exact h1
     clear HG2
     go_wp2
     go_ret
     exact ⟨w.heap.size, rfl, Nat.le_refl _, R.out, hB2⟩
 · have hz' : ¬ len = 0 := hz
   go_wp2
   refine wp_loop_rounds 5 ?_
   rw [rounds_succ]
   go_wp2
   rw [rounds_succ]
   go_wp2
   rw [rounds_succ]
   go_wp2
   rw [rounds_succ]
   go_wp2
   rw [rounds_succ]
   go_wp2_with (with_reducible refine wpList_copy_splice rfl (.tmp 25) (.tmp 26) 38 38 rfl 5 Try.underlying38 size5 _ _ _ _ _ _ rfl rfl w.heap.size 4 (vals (leB c ++ List.replicate len 0)) 5 ?_ (vals bs) ?_ ?_ ?_ (vals_one bs) w.heap.size w ?_ (Nat.le_refl _) ?_)
   · exact HP1.out
   · rw [length_vals, HP4.out]; simp
   · intro hp
     rw [length_vals, HP4.out] at hp
     exact HP3.out.source hp
   · rw [length_vals, length_vals, HP4.out]; simp only [leB, List.length_append, List.length_cons, List.length_nil, List.length_replicate]; omega
   · exact HP2.out
   · intro w2 HG2 hB2
     have R : Hid (Own w2 w.heap.size (sealB bs)) := by
      have h1 := HG2.out
      have h2 := put_splice c bs
      rw [HP4.out] at h2
      rw [h2, HCC.out] at h1
      exact h1
     clear HG2
     go_wp2
     go_ret
     exact ⟨w.heap.size, rfl, Nat.le_refl _, R.out, hB2⟩

theorem check_short (w : World) (ad : Option Addr) (len cap : Nat) (bs : List Nat) (h : Byt w ad len cap bs) (h4 : len < 4) :
 Calls Try.prog 41 #[.slice ad len cap] w fun e w' => e = .returned (.tuple #[.slice none 0 0, .bool false]) ∧ ∃ n, w' = w.drewN n := by
 have hd : decide ((len : Int) < 4) = true := by simp; omega
 go_enter Try.func41, Try.ntmps41
 go_wp2
 go_quiet (fail)
 go_wp2
 go_ret2
 exact ⟨rfl, _, rfl⟩

theorem Byt.four {w : World} {ad : Option Addr} {len cap : Nat} {bs : List Nat} (h : Byt w ad len cap bs) (h4 : 4 ≤ len) :
 ∃ b off x0 x1 x2 x3 r, ad = some ⟨b, off, none⟩ ∧ bs = x0 :: x1 :: x2 :: x3 :: r ∧ x0 < 256 ∧ x1 < 256 ∧ x2 < 256 ∧ x3 < 256 ∧ r.length = len - 4 ∧
   w.cell? ⟨b, off, none⟩ = some (.int .u8 x0) ∧ w.cell? ⟨b, off + 1, none⟩ = some (.int .u8 x1) ∧ w.cell? ⟨b, off + 2, none⟩ = some (.int .u8 x2) ∧ w.cell? ⟨b, off + 3, none⟩ = some (.int .u8 x3) ∧
   Byt w (some ⟨b, if cap = 4 then off else off + 4, none⟩) (len - 4) (cap - 4) r := by
 have hl := h.length
 have hf := h.fits
 obtain ⟨x0, x1, x2, x3, r, rfl⟩ := four_of (bs := bs) (by omega)
 simp only [List.length_cons] at hl
 rcases h.cells with h0 | ⟨b, off, rfl, hc⟩
 · omega
 have ha := h.all
 refine ⟨b, off, x0, x1, x2, x3, r, rfl, rfl, ha _ (by simp), ha _ (by simp), ha _ (by simp), ha _ (by simp), by omega, ?_, ?_, ?_, ?_, ?_⟩
 · simpa using hc 0 (by omega)
 · simpa using hc 1 (by omega)
 · simpa using hc 2 (by omega)
 · simpa using hc 3 (by omega)
 · refine ⟨by omega, by omega, fun x hx => ha x (by simp [hx]), ?_⟩
   by_cases h5 : len - 4 = 0
   · exact .inl h5
   · refine .inr ⟨b, off + 4, by rw [if_neg (by omega)], fun i hi => ?_⟩
     have := hc (4 + i) (by omega)
     rw [Nat.add_assoc, this]
     rw [Nat.add_comm 4 i]
     rfl
theorem run_from4 (b off len cap o4 : Nat) (h : 4 ≤ len) (ho : o4 = if cap = 4 then off else off + 4) (w : World) :
 (Instr.slice 38 (.slice (some ⟨b, off, none⟩) len cap) (some (.int .i64 4)) none none).run Try.prog w = .ok (.slice (some ⟨b, o4, none⟩) (len - 4) (cap - 4)) w := by
 rw [ho]; exact run_from b off len cap 4 h w
theorem splice_zero (n : Nat) (bs : List Nat) (h : bs.length = n) : splice (vals (List.replicate n 0)) 0 (vals bs) = vals bs := by
 subst h
 rw [splice, List.take_zero, List.drop_eq_nil_of_le (by simp [vals]), List.append_nil, List.nil_append]
set_option maxHeartbeats 400000 in
theorem check_long (w : World) (ad : Option Addr) (len cap : Nat) (bs : List Nat) (h : Byt w ad len cap bs) (h4 : 4 ≤ len) (hL : len ≤ 140737488355328) :
 Calls Try.prog 41 #[.slice ad len cap] w fun e w' => (okB bs = false → e = .returned (.tuple #[.slice none 0 0, .bool false]) ∧ Below w.heap.size w w') ∧
  (okB bs = true → ∃ g, e = .returned (.tuple #[.slice (some ⟨g, 0, none⟩) (len - 4) (len - 4), .bool true]) ∧ w.heap.size ≤ g ∧ Own w' g (bs.drop 4) ∧ Below w.heap.size w w') := by
 obtain ⟨i0, hi, hz0, hz1, hz2⟩ := info_parts info5
 obtain ⟨b, off, x0, x1, x2, x3, r, rfl, rfl, l0, l1, l2, l3, hr, c0, c1, c2, c3, hB⟩ := h.four h4
 have hd : decide ((len : Int) < 4) = false := by simp; omega
 obtain ⟨o4, ho4⟩ : ∃ o4, o4 = if cap = 4 then off else off + 4 := ⟨_, rfl⟩
 rw [← ho4] at hB
 have hsl := run_from4 b off len cap o4 h4 ho4
 have hok : okB (x0 :: x1 :: x2 :: x3 :: r) = decide (unl [x0, x1, x2, x3] = ofB r) := by rw [okB_long (by simp)]; rfl
 rw [hok]
 have HU : ∃ u, u = unl [x0, x1, x2, x3] := ⟨_, rfl⟩
 obtain ⟨u, hu⟩ := HU
 have HV : ∃ v, v = ofB r := ⟨_, rfl⟩
 obtain ⟨v, hv⟩ := HV
 rw [← hu, ← hv]
 have K18 : ∀ n, Calls Try.prog 57 #[.slice (some ⟨b, off, none⟩) len cap] (w.drewN n) fun e w' => e = .returned (.int .u32 u) ∧ w' = w.drewN n := fun n => by
  rw [hu]
  exact (stored_any _ _ _ _ _ x0 x1 x2 x3 h4 hL (by simpa using c0) (by simpa using c1) (by simpa using c2) (by simpa using c3) l0 l1 l2 l3).mono fun e w' ⟨h1, h2⟩ => ⟨h1, h2.symm⟩
 have K13 : ∀ n, Calls Try.prog 58 #[.slice (some ⟨b, o4, none⟩) (len - 4) (cap - 4)] (w.drewN n) fun e w' => e = .returned (.int .u32 v) ∧ w' = w.drewN n := fun n => by
  rw [hv]
  exact (of_any _ _ _ _ r (hB.drewN _) (by omega)).mono fun e w' ⟨h1, h2⟩ => ⟨h1, h2.symm⟩
 have HK18 := Lib.hid K18
 have HK13 := Lib.hid K13
 have HB := Lib.hid hB
 have HR := Lib.hid hr
 clear hB ho4 h hok hu hv K18 K13 c0 c1 c2 c3 hr
 by_cases hc : u = v
 · subst hc
   go_enter Try.func41, Try.ntmps41
   go_wp2
   go_quiet (first | (go_at_call 57; exact Calls.quiet_of_same (HK18.out _)) | (go_at_call 58; exact Calls.quiet_of_same (HK13.out _)))
   go_wp2_with (first | (at_make; refine wpList_make_full _ rfl _ _ 38 rfl w.heap.size 5 i0 (.int .u8 0) 1 Try.underlying38 hi hz0 hz1 .i64 .i64 _ _ (len - 4) rfl rfl (by omega) (by omega) (by rw [hz2]; omega) (by unfold maxLen; omega) (Nat.le_refl _) ?_; intro w0 hown0 hgrow0) | (with_reducible refine wpList_copy_splice rfl (.tmp 20) (.tmp 22) 38 38 rfl 5 Try.underlying38 size5 _ _ _ _ _ _ rfl rfl w.heap.size 0 (vals (List.replicate (len - 4) 0)) 5 ?_ (vals r) ?_ ?_ ?_ (vals_one r) w.heap.size w ?_ (Nat.le_refl _) ?_))
   · exact own_zero (own_made hown0)
   · rw [length_vals, HR.out]; simp
   · intro hp
     rw [length_vals, HR.out] at hp
     have hb0 : Below w.heap.size w w0 := (below_drewN (Below.refl _ _) nq).grown hgrow0 (Nat.le_refl _) (by simp)
     exact source_at ((HB.out.keep hb0 (Nat.le_refl _)).source hp)
   · rw [length_vals, length_vals, HR.out]; simp
   · exact (below_drewN (Below.refl _ _) nq).grown hgrow0 (Nat.le_refl _) (by simp)
   · intro w2 HG2 hB2
     have R : Hid (Own w2 w.heap.size r) := by
      have h1 := HG2.out
      rw [splice_zero _ _ HR.out] at h1
      exact h1
     clear HG2
     go_wp2
     go_ret2
     exact ⟨fun h => absurd h (by simp), fun _ => ⟨w.heap.size, rfl, Nat.le_refl _, R.out, hB2⟩⟩
 · have hne : ((u : Int) != (v : Int)) = true := by simp; omega
   go_enter Try.func41, Try.ntmps41
   go_wp2
   go_quiet (first | (go_at_call 57; exact Calls.quiet_of_same (HK18.out _)) | (go_at_call 58; exact Calls.quiet_of_same (HK13.out _)))
   go_wp2
   go_ret2
   exact ⟨fun _ => ⟨rfl, below_drewN (Below.refl _ _) _⟩, fun h => absurd (of_decide_eq_true h) hc⟩
end Go.Proofs.Ytbejincejbnbaaa
namespace Go.Proofs.Ytbejincejbnbaaa
open Go.RowKit
open Go.SeqMath
set_option linter.unusedVariables false

theorem seq_ret {a b : Int} (h : a = b) : Ending.returned (.int .i64 a) = .returned (.int .i64 b) := by rw [h]
theorem seq_right (n : Int) (w : World) (r : Bool) (hr : rightB n = r) :
 Calls Try.prog 91 #[.int .i64 n] w fun e w' => e = .returned (.bool r) ∧ w = w' := by
 subst hr
 by_cases h0 : 0 ≤ n
 · by_cases h1 : n ≤ 2147483647
   · rw [right_yes h0 h1]
     go_enter Try.func91, Try.ntmps91
     go_wp2
     go_ret
     exact ⟨rfl, rfl⟩
   · have h1' : 2147483647 < n := by omega
     rw [right_no (.inr h1')]
     go_enter Try.func91, Try.ntmps91
     go_wp2
     go_ret
     exact ⟨rfl, rfl⟩
 · have h0' : n < 0 := by omega
   rw [right_no (.inl h0')]
   go_enter Try.func91, Try.ntmps91
   go_wp2
   go_ret
   exact ⟨rfl, rfl⟩
end Go.Proofs.Ytbejincejbnbaaa
namespace Go.Proofs.Ytbejincejbnbaaa
open Go.RowKit
open Go.CrcMath hiding AllB
set_option linter.unusedVariables false
set_option maxHeartbeats 400000 in
theorem refNext_any (c b : Nat) (w : World) (hc : c < 4294967296) (hb : b < 256) :
 Calls Try.prog 53 #[.int .u32 c, .int .u8 b] w fun e w' => e = .returned (.int .u32 (nxt c b : Nat)) ∧ w = w' := by
 have hx := xorc c b hc hb
 obtain ⟨x, hxe⟩ : ∃ x, x = c ^^^ b := ⟨_, rfl⟩
 have hxl : x < 4294967296 := by rw [hxe]; exact xor_lt hc (by omega)
 rw [← hxe] at hx
 have HX : Hid (x = c ^^^ b) := hxe
 clear hxe
 go_enter Try.func53, Try.ntmps53
 go_wp2
 go_loop [0, 5] (fun s i => ∃ k : Nat, k ≤ 8 ∧ i = .int .i64 k ∧ s = .int .u32 (bsteps k x : Nat)) (fun _ i => (8 - intOf i).toNat)
 case atStart => exact ⟨0, by omega, rfl, rfl⟩
 case round =>
  obtain ⟨k, hk, rfl, rfl⟩ := hrel
  have hl := bsteps_lt hxl k
  obtain ⟨d, hd⟩ : ∃ d, d = bsteps k x := ⟨_, rfl⟩
  rw [← hd] at hl ⊢
  have HD : Hid (d = bsteps k x) := hd
  clear hd hx
  have h1 := and1 d hl
  have h2 := xorp d hl
  by_cases hlt : k < 8
  · by_cases ho : d % 2 = 1
    · have hb1 : (((d % 2 : Nat) : Int) == 1) = true := by simp; omega
      have S : Hid (bsteps (k + 1) x = d / 2 ^^^ poly) := by show bstep (bsteps k x) = _; rw [← HD.out]; exact bstep_odd d ho
      clear ho
      go_wp2
      go_round
      case rel => exact ⟨k + 1, by omega, by go_num, by rw [S.out]⟩
      case measure => simp [intOf]; omega
    · have hb1 : (((d % 2 : Nat) : Int) == 1) = false := by simp; omega
      have S : Hid (bsteps (k + 1) x = d / 2) := by show bstep (bsteps k x) = _; rw [← HD.out]; exact bstep_even d ho
      clear ho
      go_wp2
      go_round
      case rel => exact ⟨k + 1, by omega, by go_num, by rw [S.out]; exact u32_eq (by omega)⟩
      case measure => simp [intOf]; omega
  · have E : Hid (d = nxt c b) := by
     have : k = 8 := by omega
     subst this
     show d = bsteps 8 (c ^^^ b)
     rw [HD.out, HX.out]
    go_wp2
    go_ret
    exact ⟨ret_u32 (by rw [E.out]), rfl⟩
set_option maxHeartbeats 400000 in
theorem refCrc_any (w : World) (ad : Option Addr) (len cap : Nat) (bs : List Nat) (h : Byt w ad len cap bs) (hL : len ≤ 140737488355328) :
 Calls Try.prog 36 #[.slice ad len cap] w fun e w' => e = .returned (.int .u32 (ofB bs : Nat)) ∧ w = w' := by
 obtain ⟨hlen, hfit, hall, hcs⟩ := h
 rcases hcs with h0 | ⟨b, off, rfl, hcell⟩
 · subst h0
   obtain rfl : bs = [] := by simpa using hlen
   have E : Hid (ofB [] = 0) := by show _ = _; decide
   clear hlen hfit hall
   have hcp := xor00
   have hsg := usig
   go_enter Try.func36, Try.ntmps36
   go_wp2
   refine wp_loop_rounds 1 ?_
   rw [rounds_succ]
   go_wp2
   go_ret
   exact ⟨ret_u32 (by rw [E.out]; rfl), rfl⟩
 · have hmx : ∀ k, run full (bs.take k) < 4294967296 := fun k => run_lt _ _ full_lt (take_all hall k)
   have HM := Lib.hid hmx
   have HC := Lib.hid hcell
   have HA := Lib.hid hall
   have HL := Lib.hid hlen
   clear hmx hcell hall hlen
   go_enter Try.func36, Try.ntmps36
   go_wp2
   go_loop [3, 4] (fun s i => ∃ k : Nat, k ≤ len ∧ i = .int .i64 k ∧ s = .int .u32 (run full (bs.take k) : Nat)) (fun _ i => len - (intOf i).toNat)
   case atStart => exact ⟨0, by omega, rfl, rfl⟩
   case round =>
    obtain ⟨k, hk, rfl, rfl⟩ := hrel
    have hl := HM.out k
    obtain ⟨d, hd⟩ : ∃ d, d = run full (bs.take k) := ⟨_, rfl⟩
    rw [← hd] at hl ⊢
    have HD : Hid (d = run full (bs.take k)) := hd
    clear hd
    by_cases hlt : k < len
    · have hc := HC.out k hlt
      have hx8 := getD_all HA.out k
      obtain ⟨x, hx⟩ : ∃ x, x = bs.getD k 0 := ⟨_, rfl⟩
      rw [← hx] at hc hx8
      have S : Hid (run full (bs.take (k + 1)) = nxt d x) := by
       show _ = _
       rw [run_next _ _ _ (by rw [HL.out]; exact hlt), ← HD.out, ← hx]
      clear hx
      go_wp2_with (go_at_call 53; refine (refNext_any _ _ _ hl hx8).mono ?_; rintro e w' ⟨rfl, rfl⟩)
      go_round
      case rel => exact ⟨k + 1, by omega, by go_num, by rw [S.out]⟩
      case measure => simp [intOf]; omega
    · have hcp := cplc d hl
      have hsg := usig
      have E : Hid (cpl d = ofB bs) := by
       show _ = _
       rw [HD.out, List.take_of_length_le (by rw [HL.out]; omega)]; rfl
      go_wp2
      go_ret
      exact ⟨ret_u32 (by rw [E.out]), rfl⟩
end Go.Proofs.Ytbejincejbnbaaa
namespace Go.Proofs.Ytbejincejbnbaaa
open Go.RowKit
open Go.CrcMath hiding AllB
set_option linter.unusedVariables false
theorem lit4 (w : World) (c : Nat) (hc : c < 4294967296) : (w.alloc (.cells #[.int .u8 ((c : Int) % 256), .int .u8 ((c : Int) / 256 % 256), .int .u8 ((c : Int) / 65536 % 256), .int .u8 ((c : Int) / 16777216)] 5)).ownsRow w.heap.size 5 1 (.slice (some ⟨w.heap.size, 0, none⟩) 4 4) 4 (vals (leB c)) := by
 have h := World.ownsRow_lit (e := 5) (size := 1) (base := w.heap.size) w (vals (leB c)).toArray 4 (Nat.le_refl _) (by decide) rfl
 have e3 : (((c / 16777216 % 256 : Nat)) : Int) = (c : Int) / 16777216 := by omega
 have e : (vals (leB c)).toArray = #[.int .u8 ((c : Int) % 256), .int .u8 ((c : Int) / 256 % 256), .int .u8 ((c : Int) / 65536 % 256), .int .u8 ((c : Int) / 16777216)] := by
  show #[byte _, byte _, byte _, byte _] = _
  unfold byte
  rw [e3]; rfl
 rw [e] at h
 have e2 : (vals (leB c)) = [.int .u8 ((c : Int) % 256), .int .u8 ((c : Int) / 256 % 256), .int .u8 ((c : Int) / 65536 % 256), .int .u8 ((c : Int) / 16777216)] := congrArg Array.toList e
 rw [e2]
 exact h
set_option maxHeartbeats 400000 in
theorem sealed_some (w : World) (a : Addr) (len cap : Nat) (bs : List Nat) (h : Byt w (some a) len cap bs) (hL : len ≤ 140737488355300) :
 Calls Try.prog 14 #[.slice (some a) len cap] w (GivesMade w (sealB bs)) := by
 obtain ⟨i0, hi, hz0, hz1, hz2⟩ := info_parts info5
 have HB := Lib.hid h
 clear h
 go_enter Try.func14, Try.ntmps14
 go_wp2_with fail
 refine (refCrc_any _ _ _ _ _ HB.out (by omega)).mono ?_
 rintro e w' ⟨rfl, rfl⟩
 have hsl := ofB_lt HB.out.all
 obtain ⟨c, hc⟩ : ∃ c, c = ofB bs := ⟨_, rfl⟩
 rw [← hc] at hsl ⊢
 have HCC := Lib.hid hc
 clear hc
 have HX := Lib.hid (lit4 w c hsl)
 have HB1 : Hid (Below w.heap.size w (w.alloc (.cells #[.int .u8 ((c : Int) % 256), .int .u8 ((c : Int) / 256 % 256), .int .u8 ((c : Int) / 65536 % 256), .int .u8 ((c : Int) / 16777216)] 5))) := (Below.refl _ _).alloc (Nat.le_refl _) _
 go_wp2_with (at_builtin; refine wpList_append_own _ rfl (.tmp 17) (.tmp 18) 38 rfl w.heap.size 5 i0 (.int .u8 0) 1 1 Try.underlying38 hi hz0 hz1 hz2 rfl (by decide) _ 4 (vals (leB c)) rfl HX.out a len cap (vals bs) rfl ?c1 ?c2 (vals_one bs) ?c3 ?c4 ?c5 ?_)
 case c1 => rw [length_vals, HB.out.length]; simp
 case c2 =>
  intro j u hj
  have hjl : j < bs.length := by
   have := (List.getElem?_eq_some_iff.1 hj).1
   rwa [length_vals] at this
  obtain ⟨a', ha', hs⟩ := HB.out.source (by have := HB.out.length; omega)
  obtain rfl := Option.some.inj ha'
  have h1 := hs j u hj
  rw [HB1.out.cell (World.block_lt_of_cell? w _ h1)]
  exact h1
 case c3 => unfold maxLen; omega
 case c4 => omega
 case c5 => simp
 · intro v' w1 hown' hgrow _
   have hlen := HB.out.length
   have R : Hid (Made w (sealB bs) v' w1) := by
    refine made_of ?_ (by rw [length_sealB]; omega) (HB1.out.grown hgrow (by simp) (by intro k hk; simp [Value.ownBlock] at hk; omega))
    have e : sealB bs = leB c ++ bs := by rw [HCC.out]; rfl
    rw [length_sealB, hlen, e, vals_append, Nat.add_comm len 4]
    exact hown'
   clear hown' hgrow hlen
   go_wp2
   go_ret
   exact ⟨_, rfl, R.out⟩
set_option maxHeartbeats 400000 in
theorem sealed_none (w : World) : Calls Try.prog 14 #[.slice none 0 0] w (GivesMade w (sealB [])) := by
 obtain ⟨i0, hi, hz0, hz1, hz2⟩ := info_parts info5
 have HB : Hid (Byt w none 0 0 []) := ⟨rfl, Nat.le_refl _, (fun x hx => by cases hx), .inl rfl⟩
 go_enter Try.func14, Try.ntmps14
 go_wp2_with fail
 refine (refCrc_any _ _ _ _ _ HB.out (by omega)).mono ?_
 rintro e w' ⟨rfl, rfl⟩
 have hsl := ofB_lt HB.out.all
 obtain ⟨c, hc⟩ : ∃ c, c = ofB [] := ⟨_, rfl⟩
 rw [← hc] at hsl ⊢
 have HCC := Lib.hid hc
 clear hc
 have HX := Lib.hid (lit4 w c hsl)
 have HB1 : Hid (Below w.heap.size w (w.alloc (.cells #[.int .u8 ((c : Int) % 256), .int .u8 ((c : Int) / 256 % 256), .int .u8 ((c : Int) / 65536 % 256), .int .u8 ((c : Int) / 16777216)] 5))) := (Below.refl _ _).alloc (Nat.le_refl _) _
 go_wp2_with (at_builtin; refine wpList_append_own_none rfl (.tmp 17) (.tmp 18) 38 rfl w.heap.size 5 i0 1 Try.underlying38 hi _ 4 (vals (leB c)) rfl HX.out rfl ?_)
 go_ret
 have R : Made w (sealB []) _ _ := made_of (by
  have e : sealB [] = leB c := by rw [HCC.out]; rfl
  rw [e]; exact HX.out) (by rw [length_sealB]; omega) HB1.out
 exact ⟨_, rfl, R⟩
theorem sealed_any (w : World) (ad : Option Addr) (len cap : Nat) (bs : List Nat) (h : Byt w ad len cap bs) (hn : ad = none → cap = 0) (hL : len ≤ 140737488355300) :
 Calls Try.prog 14 #[.slice ad len cap] w (GivesMade w (sealB bs)) := by
 rcases ad with _ | a
 · obtain rfl := hn rfl
   have hf := h.fits
   have hl := h.length
   obtain rfl : len = 0 := by omega
   obtain rfl : bs = [] := List.eq_nil_of_length_eq_zero hl
   exact sealed_none w
 · exact sealed_some w a len cap bs h hL
end Go.Proofs.Ytbejincejbnbaaa
namespace Go.Proofs.Ytbejincejbnbaaa
open Go.RowKit
open Go.SeqMath
open Go.BatMath hiding AllB getD_lt take_all
open Go.VarMath (longB length_longB textB)
open Go.CrcMath (sealB)
set_option linter.unusedVariables false

theorem owns_low {w : World} {base base' e size n : Nat} {v : Value} {xs : List Value} (h : w.ownsRow base e size v n xs) (hb : base' ≤ base) : w.ownsRow base' e size v n xs := by
 refine ⟨h.1, ?_⟩
 rcases h.2 with hn | ⟨g, cap, cur, rfl, hbg, hh, r⟩
 · exact .inl hn
 · exact .inr ⟨g, cap, cur, rfl, Nat.le_trans hb hbg, hh, r⟩
/-- What a call gives that makes a row, in a world that is further on. -/
theorem gives_on {w W w' : World} {bs : List Nat} {e : Ending} {n : Nat} (h : GivesRow W bs e w') (hW : Below w.heap.size w W) (hn : bs.length = n) :
 ∃ g cap, e = .returned (.slice (some ⟨g, 0, none⟩) n cap) ∧ Hid (w'.ownsRow w.heap.size 5 1 (.slice (some ⟨g, 0, none⟩) n cap) n (vals bs)) ∧ Hid (Below w.heap.size w w') ∧ Hid (Below W.heap.size W w') := by
 subst hn
 obtain ⟨g, cap, rfl, ho, hb⟩ := h
 exact ⟨g, cap, rfl, owns_low ho hW.size, hW.trans (hb.mono hW.size), hb⟩
theorem cell_on {w W : World} {a : Addr} {u : Value} (h : Below w.heap.size w W) (ha : w.cell? a = some u) : W.cell? a = some u := (h.cell (World.block_lt_of_cell? _ _ ha)).trans ha
theorem keep_two {w2 W : World} {a b : Addr} {u v : Value} (h : Below w2.heap.size w2 W) (hu : w2.cell? a = some u) (hv : w2.cell? b = some v) : Below w2.heap.size w2 W ∧ W.cell? a = some u ∧ W.cell? b = some v := ⟨h, cell_on h hu, cell_on h hv⟩
theorem row_lit (W : World) (cs : Array Value) (bs : List Nat) (k n : Nat) (hk : W.heap.size = k) (hcs : cs = (vals bs).toArray) (ha : AllB bs) (hn : bs.length = n) : Row (W.alloc (.cells cs 5)) (some ⟨k, 0, none⟩) n n bs := by
 subst hn hk hcs; exact ⟨(own_new W bs).byt ha _ (Nat.le_refl _), fun h => by cases h⟩
/-- What stands before round j of the loop over the records. -/
def WriteAt (w : World) (fr : List Nat) (l : List Rc) (v4 v45 : Value) (wr : World) : Prop := ∃ (j g c m : Nat), j ≤ l.length ∧ v45 = .int .i64 j ∧ v4 = .slice (some ⟨g, 0, none⟩) m c ∧ (fr ++ recsB (l.take j)).length = m ∧ wr.ownsRow w.heap.size 5 1 (.slice (some ⟨g, 0, none⟩) m c) m (vals (fr ++ recsB (l.take j))) ∧ Below w.heap.size w wr
theorem writeAt_start {w W : World} {fr : List Nat} {l : List Rc} {g c m : Nat} (hm : fr.length = m) (ho : W.ownsRow w.heap.size 5 1 (.slice (some ⟨g, 0, none⟩) m c) m (vals fr)) (hb : Below w.heap.size w W) : WriteAt w fr l (.slice (some ⟨g, 0, none⟩) m c) (.int .i64 0) W :=
 ⟨0, g, c, m, Nat.zero_le _, rfl, rfl, by simpa [recsB] using hm, by simpa [recsB] using ho, hb⟩
theorem take_recs {l : List Rc} {j : Nat} {r : Rc} (h : l[j]? = some r) : recsB (l.take (j + 1)) = recsB (l.take j) ++ recB r := by
 obtain ⟨hj, rfl⟩ := List.getElem?_eq_some_iff.1 h
 rw [List.take_succ_eq_append_getElem hj, recsB_snoc]
theorem take_texts {l : List Rc} (h : ∀ r ∈ l, r.key.size ≤ 64 ∧ r.val.size ≤ 64) (j : Nat) : ∀ r ∈ l.take j, r.key.size ≤ 64 ∧ r.val.size ≤ 64 := fun r hr => h r (List.mem_of_mem_take hr)
set_option maxRecDepth 100000 in
set_option maxHeartbeats 4000000 in
theorem write_any (w : World) (b : Bat) (ad : Option Addr) (len cap : Nat) (hr : RecsAt w ad len cap b.recs) (hok : Ok b) (hp1 : b.prod ≤ 9223372036854775807) :
 Calls Try.prog 72 #[.agg #[.int .i64 b.base, .int .i64 b.prod, .int .i64 b.epoch, .int .i64 b.seq, .bool b.txn, .int .i64 b.marker, .slice ad len cap]] w (GivesRow w (bytesB b)) := by
 obtain ⟨q0, q1, q2, q3, q4, q5, q6, q7, q8, q9, q10⟩ := hok
 have hlr := hr.length
 obtain ⟨F, hF⟩ : ∃ F, F = flagN b := ⟨_, rfl⟩
 have hF256 : F < 256 := by rw [hF]; exact flag_lt b
 have hFx : (F : Int) = 2 * b.marker + (if b.txn = true then 1 else 0) := by
  rw [hF]; unfold flagN; split <;> omega
 obtain ⟨E, hE⟩ : ∃ E, E = epochN b := ⟨_, rfl⟩
 have hE1 : b.epoch / 256 % 256 = ((E / 256 : Nat) : Int) := by rw [hE]; unfold epochN; omega
 have hE2 : b.epoch % 256 = ((E % 256 : Nat) : Int) := by rw [hE]; unfold epochN; omega
 have hfr : frontB b = F :: (longB b.prod ++ (E / 256 :: E % 256 :: (longB b.seq ++ [len % 256]))) := by rw [hF, hE, ← hlr]; rfl
 have hE6 : E < 65536 := by rw [hE]; exact epoch_lt b
 obtain ⟨E1, hE1'⟩ : ∃ E1, E1 = E / 256 := ⟨_, rfl⟩
 obtain ⟨E2, hE2'⟩ : ∃ E2, E2 = E % 256 := ⟨_, rfl⟩
 have hE1l : E1 < 256 := by omega
 have hE2l : E2 < 256 := by omega
 rw [← hE1'] at hE1 hfr
 rw [← hE2'] at hE2 hfr
 have HFR := Lib.hid hfr
 have HBO : Hid (bodyB b = frontB b ++ recsB b.recs) := rfl
 have HBY : Hid (bytesB b = longB b.base ++ (VarMath.beB 4 (sealB (bodyB b)).length ++ sealB (bodyB b))) := rfl
 have HT := Lib.hid q10
 have HR := Lib.hid hr
 have HE1 := Lib.hid hE1
 have HE2 := Lib.hid hE2
 have HF := Lib.hid hFx
 have hlen16 : len ≤ 16 := by omega
 have HLR := Lib.hid hlr
 clear hF hE hfr hE1' hE2' hE6 q9 q10 hr hFx hlr hE1 hE2
 obtain ⟨base, prod, epoch, seq, txn, marker, recs⟩ := b
 simp only at q0 q1 q2 q3 q4 q5 q6 q7 q8 hp1 HR HE1 HE2 HF HT HLR ⊢
 go_enter Try.func72, Try.ntmps72
 go_upto_if 14 with (fail)
 go_cut [3] from 9 (fun s3 wx => s3 = .int .u8 (F : Int) ∧ wx = w.alloc (.cells #[.int .i64 base, .int .i64 prod, .int .i64 epoch, .int .i64 seq, .bool txn, .int .i64 marker, .slice ad len cap] 58))
 case first =>
  have hmm : marker = 0 ∨ marker = 1 ∨ marker = 2 := by omega
  cases txn
  · rcases hmm with rfl | rfl | rfl
    all_goals
     go_wp2
     go_meet
     case rel => exact ⟨by have := HF.out; rw [this]; rfl, rfl⟩
  · rcases hmm with rfl | rfl | rfl
    all_goals
     go_wp2
     go_meet
     case rel => exact ⟨by have := HF.out; rw [this]; rfl, rfl⟩
 case rest =>
  obtain ⟨rfl, rfl⟩ := hcut
  obtain ⟨W0, hW0⟩ : ∃ W0, W0 = (w.alloc (.cells #[.int .i64 base, .int .i64 prod, .int .i64 epoch, .int .i64 seq, .bool txn, .int .i64 marker, .slice ad len cap] 58)) := ⟨_, rfl⟩
  have hs0 : W0.heap.size = w.heap.size + 1 := by rw [hW0]; simp
  have HX := Lib.hid (show BoxAt W0 w.heap.size base prod epoch seq txn marker (.slice ad len cap) by rw [hW0]; exact boxAt_new w _ _ _ _ _ _ _)
  have HB := Lib.hid (show Below w.heap.size w W0 by rw [hW0]; exact (Below.refl _ _).alloc (Nat.le_refl _) _)
  rw [← hW0]
  have hc1 := HX.out.c1
  have HROW := Lib.hid (row_lit W0 #[.int .u8 (F : Int)] [F] (w.heap.size + 1) 1 hs0 rfl (all_cons hF256 all_nil) rfl)
  have HB0 : Hid (Below W0.heap.size W0 (W0.alloc (.cells #[.int .u8 (F : Int)] 5))) := (Below.refl _ _).alloc (Nat.le_refl _) _
  clear hW0
  go_wp2_with fail
  (with_reducible refine (refLong_any _ _ 1 1 [F] prod HROW.out (by omega) (by omega) hp1).mono ?_)
  rintro e w1 hg
  obtain ⟨g1, c1, rfl, ho1, hb1, hbb⟩ := gives_on hg HB0.out (n := 9) (by simp [length_longB])
  have HX1 := Lib.hid (HX.out.on hb1.out)
  clear hg hbb hc1
  have hc2 := HX1.out.c2
  have he1 := HE1.out
  have he2 := HE2.out
  have HROW2 := Lib.hid (row_lit w1 #[.int .u8 (E1 : Int), .int .u8 (E2 : Int)] [E1, E2] w1.heap.size 2 rfl rfl (all_cons hE1l (all_cons hE2l all_nil)) rfl)
  have HB2 := Lib.hid (hb1.out.alloc hb1.out.size (.cells #[.int .u8 (E1 : Int), .int .u8 (E2 : Int)] 5))
  have HZ := Lib.hid hs0
  clear hs0
  go_wp2_with (at_builtin; refine append_row rfl (.tmp 22) (.tmp 30) rfl W0.heap.size 9 ([F] ++ longB prod) [E1, E2] _ rfl (ho1.out.alloc _) (some_ne _ _ _) HB2.out.size _ _ _ rfl HROW2.out (by omega) W0 HB2.out ?_)
  intro g2 c2 w2 ho2 hb2
  have HO2 := Lib.hid ho2
  have HBW2 := Lib.hid hb2
  have HA2 : Hid (AllB (([F] ++ longB prod) ++ [E1, E2])) := all_app (all_app (all_cons hF256 all_nil) (VarMath.longB_all _)) (all_cons hE1l (all_cons hE2l all_nil))
  have HX2 := Lib.hid (HX.out.on hb2)
  clear ho2 hb2 hc2 he1 he2
  have hc3 := HX2.out.c3
  have hc6 := HX2.out.c6
  have hl256 : IntKind.u8.wrap (len : Int) = (len : Int) := by rw [wrap_u8']; omega
  have CL : Hid (∀ W, Below w2.heap.size w2 W → Calls Try.prog 87 #[.slice (some ⟨g2, 0, none⟩) 11 c2, .int .i64 seq] W (GivesRow W ((([F] ++ longB prod) ++ [E1, E2]) ++ longB seq))) := by
   intro W hW
   exact refLong_any W _ 11 c2 _ seq ((owns_row HO2.out HA2.out).keep hW (Nat.le_refl _)) (by omega) (by omega) (by omega)
  go_upto_region 6 with fail
  go_cut [4] from 32 (fun s4 wx => ∃ g c, s4 = .slice (some ⟨g, 0, none⟩) 20 c ∧ Hid (wx.ownsRow W0.heap.size 5 1 (.slice (some ⟨g, 0, none⟩) 20 c) 20 (vals (((([F] ++ longB prod) ++ [E1, E2]) ++ longB seq) ++ [len]))) ∧ Hid (Below W0.heap.size W0 wx))
  case first =>
   have HL8 : Hid (AllB [len]) := all_cons (by omega) all_nil
   have HRL : Hid (∀ W, Below (w2.drew.alloc (.cells #[.int .u8 (len : Int)] 5)).heap.size (w2.drew.alloc (.cells #[.int .u8 (len : Int)] 5)) W → Row W (some ⟨w2.heap.size, 0, none⟩) 1 1 [len]) := fun W hW => (row_lit w2.drew #[.int .u8 (len : Int)] [len] w2.heap.size 1 rfl rfl HL8.out rfl).keep hW (Nat.le_refl _)
   go_region_held3 (fun W => Below w2.heap.size w2 W ∧ W.cell? ⟨w.heap.size, 3, none⟩ = some (.int .i64 seq) ∧ W.cell? ⟨w.heap.size, 6, none⟩ = some (.slice ad len cap)) (first | exact keep_two hb4 hc3 hc6 | exact keep_two hb3.out hc3 hc6 | exact keep_two (hb3.out.alloc hb3.out.size _) hc3 hc6 | exact keep_two ((Below.refl _ w2).drew) hc3 hc6 | exact keep_two (((Below.refl _ w2).drew).alloc (by simp) _) hc3 hc6) (first | (go_at_call 87; refine (CL.out _ ?_).mono ?_; exact (And.left ‹Below w2.heap.size w2 _ ∧ _›); rintro e w3 hg; obtain ⟨g3, k3, rfl, ho3, hb3, hbb3⟩ := gives_on (w := w2) (n := 19) hg (And.left ‹Below w2.heap.size w2 _ ∧ _›) (by simp [length_longB])) | (refine held_append (by rfl) (.tmp 35) (.tmp 40) rfl w2.heap.size 19 ((([F] ++ longB prod) ++ [E1, E2]) ++ longB seq) [len] _ rfl (ho3.out.alloc _) (hb3.out.alloc hb3.out.size _).size ⟨w3.heap.size, 0, none⟩ 1 1 rfl (row_lit w3 #[.int .u8 (len : Int)] [len] w3.heap.size 1 rfl rfl HL8.out rfl) (by omega) (by omega) w2 (hb3.out.alloc hb3.out.size _) ?_; intro g4 k4 w4 ho4 hp4 hb4) | (refine held_append (by rfl) (.tmp 35) (.tmp 40) rfl w2.heap.size 19 ((([F] ++ longB prod) ++ [E1, E2]) ++ longB seq) [len] _ rfl ho3.out hb3.out.size ⟨w2.heap.size, 0, none⟩ 1 1 rfl (HRL.out _ hbb3.out) (by omega) (by omega) w2 hb3.out ?_; intro g4 k4 w4 ho4 hp4 hb4))
   all_goals
    go_wp2
    go_meet
    case rel => exact ⟨_, _, rfl, owns_low ho4 HBW2.out.size, HBW2.out.trans (hb4.mono HBW2.out.size)⟩
  case rest =>
   clear hc3 hc6 hl256
   obtain ⟨g4, c4, rfl, ho4, hb4⟩ := hcut
   have HX4 := Lib.hid (HX.out.on hb4.out)
   have hc6 := HX4.out.c6
   obtain ⟨fr, hfr⟩ : ∃ fr, fr = ((([F] ++ longB prod) ++ [E1, E2]) ++ longB seq) ++ [len] := ⟨_, rfl⟩
   rw [← hfr] at ho4
   have hfl : fr.length = 20 := by rw [hfr]; simp [length_longB]
   have HFA : Hid (AllB fr) := by
    show AllB fr
    rw [hfr]
    exact all_app (all_app HA2.out (VarMath.longB_all _)) (all_cons (by omega) all_nil)
   have HFR2 : Hid (bodyB ⟨base, prod, epoch, seq, txn, marker, recs⟩ = fr ++ recsB recs) := by
    show _ = _
    rw [HBO.out, HFR.out, hfr, Nat.mod_eq_of_lt (show len < 256 by omega)]
    simp
   have HFL := Lib.hid hfl
   clear hfr hfl
   go_wp2_with fail
   go_loopw [4, 45] (fun v4 v45 wr => WriteAt W0 fr recs v4 v45 wr) (fun _ v45 _ => len - (intOf v45).toNat)
   case atStart => exact writeAt_start HFL.out ho4.out hb4.out
   case round =>
    obtain ⟨j, g, c, m, hj, rfl, rfl, hm, hown, hbel⟩ := hrel
    rw [HLR.out] at hj
    have HM := Lib.hid hm
    have HOWN := Lib.hid hown
    have HBEL := Lib.hid hbel
    have hmle : m ≤ 2388 := by
     have h1 := (recs_len (take_texts HT.out j)).2
     have h2 : (recs.take j).length ≤ 16 := by rw [List.length_take]; have := HLR.out; omega
     have h3 := HFL.out
     rw [← hm, List.length_append]
     omega
    clear hm hown hbel
    by_cases hlt : j < len
    · obtain ⟨r, hrj⟩ : ∃ r, recs[j]? = some r := by
       have hjl : j < recs.length := by rw [HLR.out]; exact hlt
       exact ⟨_, List.getElem?_eq_getElem hjl⟩
      obtain ⟨bk, off, rfl, hbk, hcell⟩ : ∃ bk off, ad = some ⟨bk, off, none⟩ ∧ bk < w.heap.size ∧ ∀ i r, recs[i]? = some r → wr.cell? ⟨bk, off + i * 2, none⟩ = some (.string r.key) ∧ wr.cell? ⟨bk, off + i * 2 + 1, none⟩ = some (.string r.val) := by
       have hbw : Below w.heap.size w wr := HB.out.trans (HBEL.out.mono HB.out.size)
       rcases HR.out.cells with h | ⟨bk, off, e, hlt, hc⟩
       · omega
       · exact ⟨bk, off, e, hlt, fun i r hi => ⟨(hbw.cell (p := ⟨bk, _, none⟩) hlt).trans (hc i r hi).1, (hbw.cell (p := ⟨bk, _, none⟩) hlt).trans (hc i r hi).2⟩⟩
      obtain ⟨hk, hv⟩ := hcell j r hrj
      have hmem := List.mem_of_getElem? hrj
      obtain ⟨hs1, hs2⟩ := HT.out r hmem
      have hsn := take_recs hrj
      have hta := take_texts HT.out j
      obtain ⟨pre, hpre⟩ : ∃ pre, pre = fr ++ recsB (recs.take j) := ⟨_, rfl⟩
      have hpa : AllB pre := by
       rw [hpre]
       exact all_app HFA.out (recs_all fun x hx => by have := hta x hx; omega)
      rw [← hpre] at HM HOWN
      have HSN : Hid (fr ++ recsB (recs.take (j + 1)) = pre ++ recB r) := by
       show _ = _
       rw [hsn, hpre, List.append_assoc]
      obtain ⟨ks, vs⟩ := r
      simp only at hk hv hs1 hs2
      have HPA := Lib.hid hpa
      have HLE : Hid (j + 1 ≤ recs.length) := by show _ ≤ _; rw [HLR.out]; exact hlt
      clear hcell hrj hmem hsn hta hpre hpa
      have l1 := BatMath.text_len (s := bl ks) (by rw [bl_len]; omega)
      have l2 := BatMath.text_len (s := bl vs) (by rw [bl_len]; omega)
      rw [bl_len] at l1 l2
      obtain ⟨n1, hn1⟩ : ∃ n1, n1 = (textB (bl ks)).length := ⟨_, rfl⟩
      obtain ⟨n2, hn2⟩ : ∃ n2, n2 = (textB (bl vs)).length := ⟨_, rfl⟩
      rw [← hn1] at l1
      rw [← hn2] at l2
      have HN1 : Hid ((pre ++ textB (bl ks)).length = m + n1) := by show _ = _; rw [List.length_append, HM.out, hn1]
      have HN2 : Hid (((pre ++ textB (bl ks)) ++ textB (bl vs)).length = m + n1 + n2) := by show _ = _; rw [List.length_append, HN1.out, hn2]
      have HA1 : Hid (AllB (pre ++ textB (bl ks))) := all_app HPA.out (text_all (bl_all _) (by rw [bl_len]; omega))
      clear hn1 hn2
      obtain ⟨wx, hwx⟩ : ∃ wx, wx = wr.alloc (.cells #[.string ks, .string vs] 132) := ⟨_, rfl⟩
      have hd0 : wx.cell? ⟨wr.heap.size, 0, none⟩ = some (.string ks) := by rw [hwx, World.cell?, heap_alloc_new]; rfl
      have hd1 : wx.cell? ⟨wr.heap.size, 1, none⟩ = some (.string vs) := by rw [hwx, World.cell?, heap_alloc_new]; rfl
      have HWX := Lib.hid hwx
      have HBX : Hid (Below W0.heap.size W0 wx) := by show Below _ _ _; rw [hwx]; exact HBEL.out.alloc HBEL.out.size _
      have CT : Hid (∀ W, Below wx.heap.size wx W → Calls Try.prog 88 #[.slice (some ⟨g, 0, none⟩) m c, .string ks] W (GivesRow W (pre ++ textB (bl ks)))) := by
       intro W hW
       have hown : wx.ownsRow W0.heap.size 5 1 (.slice (some ⟨g, 0, none⟩) m c) m (vals pre) := by rw [HWX.out]; exact HOWN.out.alloc _
       exact refText_any W _ m c _ ks ((owns_row hown HPA.out).keep hW (Nat.le_refl _)) (by omega)
      clear hwx
      go_upto_region 10 with fail
      rw [← HWX.out]
      go_region_held3 (fun W => Below wx.heap.size wx W ∧ W.cell? ⟨wr.heap.size, 0, none⟩ = some (.string ks) ∧ W.cell? ⟨wr.heap.size, 1, none⟩ = some (.string vs)) (first | exact keep_two hb6.out hd0 hd1 | exact keep_two hb5.out hd0 hd1 | exact keep_two ((Below.refl _ wx).drew) hd0 hd1) (first | (go_at_call 88; refine (refText_any _ _ _ _ _ vs (owns_row ho5.out HA1.out) (by omega)).mono ?_; rintro e w6 hg; obtain ⟨g6, k6, rfl, ho6, hb6, hbb6⟩ := gives_on (w := wx) (n := m + n1 + n2) hg hb5.out HN2.out) | (go_at_call 88; refine (CT.out _ ?_).mono ?_; exact (And.left ‹Below wx.heap.size wx _ ∧ _›); rintro e w5 hg; obtain ⟨g5, k5, rfl, ho5, hb5, hbb5⟩ := gives_on (w := wx) (n := m + n1) hg (And.left ‹Below wx.heap.size wx _ ∧ _›) HN1.out))
      go_wp2
      go_roundw
      case rel => exact ⟨j + 1, _, _, _, HLE.out, by go_num, rfl, by rw [HSN.out, recB, ← List.append_assoc]; exact HN2.out, by rw [HSN.out, recB, ← List.append_assoc]; exact owns_low ho6.out HBX.out.size, HBX.out.trans (hb6.out.mono HBX.out.size)⟩
      case measure => simp [intOf]; omega
    · obtain rfl : j = len := by omega
      have hrl : recs.take j = recs := by rw [List.take_of_length_le (by rw [HLR.out]; exact Nat.le_refl _)]
      rw [hrl] at HM HOWN
      have HBA : Hid (AllB (fr ++ recsB recs)) := all_app HFA.out (recs_all fun x hx => by have := HT.out x hx; omega)
      have HBB : Hid (bodyB ⟨base, prod, epoch, seq, txn, marker, recs⟩ = fr ++ recsB recs) := HFR2
      clear hlt hrl
      go_wp2_with fail
      refine (sealed_any wr _ m c _ (owns_row HOWN.out HBA.out).1 (fun h => by cases h) (by omega)).mono ?_
      rintro e w7 ⟨v7, rfl, g7, k7, rfl, hk7, hg7, hp7, hb7⟩
      obtain ⟨N, hN⟩ : ∃ N, N = (sealB (fr ++ recsB recs)).length := ⟨_, rfl⟩
      have hN4 : N = m + 4 := by rw [hN, CrcMath.length_sealB, HM.out]
      rw [← hN] at hk7 ⊢
      have HX7 := Lib.hid (HX.out.on (HBEL.out.trans (hb7.mono HBEL.out.size)))
      have HY7 := Lib.hid (hp7.byt (CrcMath.sealB_all HBA.out) k7 (by rw [← hN]; exact hk7))
      rw [← hN] at HY7
      have HB7 : Hid (Below W0.heap.size W0 w7) := HBEL.out.trans (hb7.mono HBEL.out.size)
      have HNN := Lib.hid hN
      have hN1 : N ≤ 2392 := by omega
      clear hp7 hN hN4 hb7
      have hc0 := HX7.out.c0
      go_wp2_with fail
      refine (refLong_any w7 none 0 0 [] base ⟨Byt.nil w7, fun _ => rfl⟩ (by omega) (by omega) (by omega)).mono ?_
      rintro e w8 hg
      obtain ⟨g8, k8, rfl, ho8, hb8, hbb8⟩ := gives_on (w := w7) hg (Below.refl _ _) (n := 8) (by simp [length_longB])
      clear hg hc0
      obtain ⟨B3, hB3⟩ : ∃ B, B = N / 16777216 := ⟨_, rfl⟩
      obtain ⟨B2, hB2⟩ : ∃ B, B = N / 65536 := ⟨_, rfl⟩
      obtain ⟨B1, hB1⟩ : ∃ B, B = N / 256 := ⟨_, rfl⟩
      obtain ⟨B0, hB0⟩ : ∃ B, B = N % 256 := ⟨_, rfl⟩
      have hv3 : (N : Int) / 16777216 = (B3 : Int) := by omega
      have hv2 : (N : Int) / 65536 = (B2 : Int) := by omega
      have hv1 : (N : Int) / 256 = (B1 : Int) := by omega
      have hv0 : (N : Int) % 256 = (B0 : Int) := by omega
      have HBE : Hid (VarMath.beB 4 N = [B3, B2, B1, B0]) := by
       show _ = _
       simp only [VarMath.beB]
       have p3 : N / 256 ^ 3 % 256 = B3 := by rw [hB3]; simp only [Nat.reducePow]; omega
       have p2 : N / 256 ^ 2 % 256 = B2 := by rw [hB2]; simp only [Nat.reducePow]; omega
       have p1 : N / 256 ^ 1 % 256 = B1 := by rw [hB1]; simp only [Nat.reducePow]; omega
       have p0 : N / 256 ^ 0 % 256 = B0 := by rw [hB0]; simp only [Nat.reducePow]; omega
       rw [p3, p2, p1, p0]
      have HBL : Hid (AllB [B3, B2, B1, B0]) := all_cons (by omega) (all_cons (by omega) (all_cons (by omega) (all_cons (by omega) all_nil)))
      have HROW8 := Lib.hid (row_lit w8 #[.int .u8 (B3 : Int), .int .u8 (B2 : Int), .int .u8 (B1 : Int), .int .u8 (B0 : Int)] [B3, B2, B1, B0] w8.heap.size 4 rfl rfl HBL.out rfl)
      have HY8 := Lib.hid (HY7.out.keep (hbb8.out.alloc hbb8.out.size (.cells #[.int .u8 (B3 : Int), .int .u8 (B2 : Int), .int .u8 (B1 : Int), .int .u8 (B0 : Int)] 5)) (Nat.le_refl _))
      clear hB3 hB2 hB1 hB0
      go_wp2_with (at_builtin; refine append_row rfl (.tmp 63) (.tmp 75) rfl w7.heap.size 8 ([] ++ longB base) [B3, B2, B1, B0] _ rfl (ho8.out.alloc _) (some_ne _ _ _) (hbb8.out.alloc hbb8.out.size _).size _ _ _ rfl HROW8.out (by omega) w7 (hbb8.out.alloc hbb8.out.size _) ?_)
      intro g9 c9 w9 ho9 hb9
      have HO9 := Lib.hid ho9
      have HY9 := Lib.hid (HY7.out.keep hb9 (Nat.le_refl _))
      have HB9 := Lib.hid hb9
      clear ho9 hb9 hv3 hv2 hv1 hv0
      go_wp2_with (at_builtin; refine append_row rfl (.tmp 77) (.tmp 78) rfl w7.heap.size 12 (longB base ++ [B3, B2, B1, B0]) (sealB (fr ++ recsB recs)) _ rfl HO9.out (some_ne _ _ _) HB9.out.size _ _ _ rfl ⟨HY9.out, fun h => by cases h⟩ (by omega) w7 HB9.out ?_)
      intro g10 c10 w10 ho10 hb10
      have HFIN : Hid (longB base ++ [B3, B2, B1, B0] ++ sealB (fr ++ recsB recs) = bytesB ⟨base, prod, epoch, seq, txn, marker, recs⟩) := by
       show _ = _
       rw [HBY.out, HBB.out, ← HNN.out, HBE.out]
       simp
      have hlen : (bytesB ⟨base, prod, epoch, seq, txn, marker, recs⟩).length = 12 + N := by
       rw [← HFIN.out]
       simp only [List.length_append, length_longB, List.length_nil, List.length_cons, ← HNN.out]
      have hfe : w10.ownsRow w7.heap.size 5 1 (.slice (some ⟨g10, 0, none⟩) (12 + N) c10) (12 + N) (vals (bytesB ⟨base, prod, epoch, seq, txn, marker, recs⟩)) := by
       rw [← HFIN.out]
       simpa using ho10
      have HO10 := Lib.hid (owns_low hfe HB7.out.size)
      clear hfe
      have HB10 := Lib.hid (HB7.out.trans (hb10.mono HB7.out.size))
      have HLEN := Lib.hid hlen
      clear ho10 hb10 hlen
      go_wp2
      go_ret
      exact gives_row HLEN.out (owns_low HO10.out HB.out.size) (HB.out.trans (HB10.out.mono HB.out.size))
end Go.Proofs.Ytbejincejbnbaaa
namespace Go.Proofs.Ytbejincejbnbaaa
open Go.RowKit
open Go.SeqMath
open Go.BatMath hiding AllB getD_lt take_all
set_option linter.unusedVariables false

theorem refRight_any (w : World) (b : Bat) (ad : Option Addr) (len cap : Nat) (hr : RecsAt w ad len cap b.recs) (ht : TextsOk b.recs) (hL : len ≤ 140737488355328) (hp : b.prod ≤ 9223372036854775807) :
 Calls Try.prog 51 #[.agg #[.int .i64 b.base, .int .i64 b.prod, .int .i64 b.epoch, .int .i64 b.seq, .bool b.txn, .int .i64 b.marker, .slice ad len cap]] w (Says (rightE b) w) := by
 obtain rfl := hr.length
 have CP : Hid (∀ W, Below w.heap.size w W → Calls Try.prog 71 #[.agg #[.int .i64 b.base, .int .i64 b.prod, .int .i64 b.epoch, .int .i64 b.seq, .bool b.txn, .int .i64 b.marker, .slice ad b.recs.length cap]] W (Says (rightE b) W)) := fun W hW => plain_any W b ad cap (hr.keep hW) ht hL
 obtain ⟨ev, hev⟩ : ∃ ev, ev = rightE b := ⟨_, rfl⟩
 rw [← hev] at CP ⊢
 have CW : Hid (ev = 0 → ∀ W, Below w.heap.size w W → Calls Try.prog 72 #[.agg #[.int .i64 b.base, .int .i64 b.prod, .int .i64 b.epoch, .int .i64 b.seq, .bool b.txn, .int .i64 b.marker, .slice ad b.recs.length cap]] W (GivesRow W (bytesB b))) := by
  intro h W hW
  exact write_any W b ad _ cap (hr.keep hW) (ok_of (by rw [← hev, h])) hp
 have HLE : Hid (ev = 0 → (bytesB b).length ≤ 4096) := by
  intro h
  have := (ok_len (ok_of (b := b) (by rw [← hev, h]))).1
  omega
 clear hev hr ht hp
 obtain ⟨base, prod, epoch, seq, txn, marker, recs⟩ := b
 simp only at CP CW hL ⊢
 obtain ⟨len, hlen⟩ : ∃ len, len = recs.length := ⟨_, rfl⟩
 rw [← hlen] at CP CW hL ⊢
 clear hlen
 obtain ⟨W0, hW0⟩ : ∃ W0, W0 = (w.alloc (.cells #[.int .i64 base, .int .i64 prod, .int .i64 epoch, .int .i64 seq, .bool txn, .int .i64 marker, .slice ad len cap] 58)) := ⟨_, rfl⟩
 have hs0 : W0.heap.size = w.heap.size + 1 := by rw [hW0]; simp
 have HX := Lib.hid (show BoxAt W0 w.heap.size base prod epoch seq txn marker (.slice ad len cap) by rw [hW0]; exact boxAt_new w _ _ _ _ _ _ _)
 have HB := Lib.hid (show Below w.heap.size w W0 by rw [hW0]; exact (Below.refl _ _).alloc (Nat.le_refl _) _)
 have HW0 := Lib.hid hW0
 clear hW0
 go_enter Try.func51, Try.ntmps51
 go_wp2_with fail
 rw [← HW0.out]
 refine (CP.out W0 HB.out).mono ?_
 rintro e w1 ⟨rfl, hb⟩
 have HX1 := Lib.hid (HX.out.on hb)
 have HB1 := Lib.hid (HB.out.trans (hb.mono HB.out.size))
 clear hb
 by_cases h0 : ev = 0
 · have h1 : (ev != 0) = false := by simpa using h0
   have H0 := Lib.hid h0
   clear h0
   have hc0 := HX1.out.c0
   have hc1 := HX1.out.c1
   have hc2 := HX1.out.c2
   have hc3 := HX1.out.c3
   have hc4 := HX1.out.c4
   have hc5 := HX1.out.c5
   have hc6 := HX1.out.c6
   obtain ⟨n, hn⟩ : ∃ n, (bytesB ⟨base, prod, epoch, seq, txn, marker, recs⟩).length = n := ⟨_, rfl⟩
   have hn4 : n ≤ 4096 := by rw [← hn]; exact HLE.out H0.out
   have HN := Lib.hid hn
   clear hn
   go_wp2_with fail
   refine (CW.out H0.out w1 HB1.out).mono ?_
   rintro e w2 hg
   obtain ⟨g, c, rfl, ho, hb, hbb⟩ := gives_on hg HB1.out HN.out
   clear hg hc0 hc1 hc2 hc3 hc4 hc5 hc6
   go_wp2
   go_ret
   exact says_mk H0.out.symm hb.out
 · have h1 : (ev != 0) = true := by simpa using h0
   go_wp2
   go_ret
   exact says_mk rfl HB1.out
/-- What Bytes gives: the bytes and no error, or none and the error. -/
def GivesBytes (w : World) (ev : Int) (L : List Nat) (e : Ending) (w' : World) : Prop :=
 (ev = 0 ∧ ∃ g c, e = .returned (.tuple #[.slice (some ⟨g, 0, none⟩) L.length c, .int .i64 0]) ∧ w'.ownsRow w.heap.size 5 1 (.slice (some ⟨g, 0, none⟩) L.length c) L.length (vals L) ∧ Below w.heap.size w w') ∨
 (ev ≠ 0 ∧ e = .returned (.tuple #[.slice none 0 0, .int .i64 ev]) ∧ Below w.heap.size w w')
theorem gives_bytes {w w' : World} {ev : Int} {L : List Nat} {g c : Nat} (h : ev = 0) (h1 : w'.ownsRow w.heap.size 5 1 (.slice (some ⟨g, 0, none⟩) L.length c) L.length (vals L)) (h2 : Below w.heap.size w w') : GivesBytes w ev L (.returned (.tuple #[.slice (some ⟨g, 0, none⟩) L.length c, .int .i64 0])) w' := .inl ⟨h, g, c, rfl, h1, h2⟩
theorem gives_none {w w' : World} {ev : Int} {L : List Nat} (h : ev ≠ 0) (h2 : Below w.heap.size w w') : GivesBytes w ev L (.returned (.tuple #[.slice none 0 0, .int .i64 ev])) w' := .inr ⟨h, rfl, h2⟩
theorem refBytes_any (w : World) (b : Bat) (ad : Option Addr) (len cap : Nat) (hr : RecsAt w ad len cap b.recs) (ht : TextsOk b.recs) (hL : len ≤ 140737488355328) (hp : b.prod ≤ 9223372036854775807) :
 Calls Try.prog 84 #[.agg #[.int .i64 b.base, .int .i64 b.prod, .int .i64 b.epoch, .int .i64 b.seq, .bool b.txn, .int .i64 b.marker, .slice ad len cap]] w (GivesBytes w (rightE b) (bytesB b)) := by
 have CP : Hid (∀ W, Below w.heap.size w W → Calls Try.prog 51 #[.agg #[.int .i64 b.base, .int .i64 b.prod, .int .i64 b.epoch, .int .i64 b.seq, .bool b.txn, .int .i64 b.marker, .slice ad len cap]] W (Says (rightE b) W)) := fun W hW => refRight_any W b ad len cap (hr.keep hW) ht hL hp
 have CW : Hid (rightE b = 0 → ∀ W, Below w.heap.size w W → Calls Try.prog 72 #[.agg #[.int .i64 b.base, .int .i64 b.prod, .int .i64 b.epoch, .int .i64 b.seq, .bool b.txn, .int .i64 b.marker, .slice ad len cap]] W (GivesRow W (bytesB b))) :=
  fun h W hW => write_any W b ad len cap (hr.keep hW) (ok_of h) hp
 obtain ⟨ev, hev⟩ : ∃ ev, ev = rightE b := ⟨_, rfl⟩
 rw [← hev] at CP CW ⊢
 obtain ⟨L, hLL⟩ : ∃ L, L = bytesB b := ⟨_, rfl⟩
 rw [← hLL] at CW ⊢
 clear hev hr ht hp hLL hL
 obtain ⟨base, prod, epoch, seq, txn, marker, recs⟩ := b
 simp only at CP CW ⊢
 obtain ⟨W0, hW0⟩ : ∃ W0, W0 = (w.alloc (.cells #[.int .i64 base, .int .i64 prod, .int .i64 epoch, .int .i64 seq, .bool txn, .int .i64 marker, .slice ad len cap] 58)) := ⟨_, rfl⟩
 have hs0 : W0.heap.size = w.heap.size + 1 := by rw [hW0]; simp
 have HX := Lib.hid (show BoxAt W0 w.heap.size base prod epoch seq txn marker (.slice ad len cap) by rw [hW0]; exact boxAt_new w _ _ _ _ _ _ _)
 have HB := Lib.hid (show Below w.heap.size w W0 by rw [hW0]; exact (Below.refl _ _).alloc (Nat.le_refl _) _)
 have HW0 := Lib.hid hW0
 clear hW0
 go_enter Try.func84, Try.ntmps84
 go_wp2_with fail
 rw [← HW0.out]
 refine (CP.out W0 HB.out).mono ?_
 rintro e w1 ⟨rfl, hb⟩
 have HX1 := Lib.hid (HX.out.on hb)
 have HB1 := Lib.hid (HB.out.trans (hb.mono HB.out.size))
 clear hb
 by_cases h0 : ev = 0
 · have h1 : (ev != 0) = false := by simpa using h0
   have H0 := Lib.hid h0
   clear h0
   have hc0 := HX1.out.c0
   have hc1 := HX1.out.c1
   have hc2 := HX1.out.c2
   have hc3 := HX1.out.c3
   have hc4 := HX1.out.c4
   have hc5 := HX1.out.c5
   have hc6 := HX1.out.c6
   go_wp2_with fail
   refine (CW.out H0.out w1 HB1.out).mono ?_
   rintro e w2 hg
   obtain ⟨g, c, rfl, ho, hb, hbb⟩ := gives_on hg HB1.out rfl
   clear hg hc0 hc1 hc2 hc3 hc4 hc5 hc6
   go_wp2
   go_ret2
   exact gives_bytes H0.out ho.out hb.out
 · have h1 : (ev != 0) = true := by simpa using h0
   have H0 := Lib.hid h0
   clear h0
   go_wp2
   go_ret2
   exact gives_none H0.out HB1.out
theorem refSize_any (w : World) (b : Bat) (ad : Option Addr) (len cap : Nat) (hr : RecsAt w ad len cap b.recs) (ht : TextsOk b.recs) (hL : len ≤ 140737488355328) (hp : b.prod ≤ 9223372036854775807) :
 Calls Try.prog 68 #[.agg #[.int .i64 b.base, .int .i64 b.prod, .int .i64 b.epoch, .int .i64 b.seq, .bool b.txn, .int .i64 b.marker, .slice ad len cap]] w (Says (sizeB b) w) := by
 have CP : Hid (∀ W, Below w.heap.size w W → Calls Try.prog 84 #[.agg #[.int .i64 b.base, .int .i64 b.prod, .int .i64 b.epoch, .int .i64 b.seq, .bool b.txn, .int .i64 b.marker, .slice ad len cap]] W (GivesBytes W (rightE b) (bytesB b))) := fun W hW => refBytes_any W b ad len cap (hr.keep hW) ht hL hp
 have HY : Hid (rightE b = 0 → ((bytesB b).length : Int) = sizeB b) := fun h => by unfold sizeB; rw [if_pos h]
 have HN : Hid (rightE b ≠ 0 → 0 = sizeB b) := fun h => by unfold sizeB; rw [if_neg h]
 obtain ⟨P, hP⟩ : ∃ P, P = sizeB b := ⟨_, rfl⟩
 rw [← hP] at HY HN ⊢
 obtain ⟨ev, hev⟩ : ∃ ev, ev = rightE b := ⟨_, rfl⟩
 rw [← hev] at HY HN CP
 obtain ⟨L, hLL⟩ : ∃ L, L = bytesB b := ⟨_, rfl⟩
 rw [← hLL] at HY CP
 clear hev hP hr ht hp hLL hL
 obtain ⟨base, prod, epoch, seq, txn, marker, recs⟩ := b
 simp only at CP ⊢
 go_enter Try.func68, Try.ntmps68
 go_wp2_with fail
 refine (CP.out _ ((Below.refl _ _).alloc (Nat.le_refl _) _)).mono ?_
 rintro e w1 hg
 rcases hg with ⟨h, g, c, rfl, _, hb⟩ | ⟨h, rfl, hb⟩
 · have H := Lib.hid h
   have HB := Lib.hid (((Below.refl w.heap.size w).alloc (Nat.le_refl _) _).trans (hb.mono (by simp)))
   clear h hb
   go_wp2
   go_ret
   exact says_mk (HY.out H.out) HB.out
 · have H := Lib.hid h
   have HB := Lib.hid (((Below.refl w.heap.size w).alloc (Nat.le_refl _) _).trans (hb.mono (by simp)))
   clear h hb
   go_wp2
   go_ret
   exact says_mk (HN.out H.out) HB.out
theorem refCount_any (w : World) (b0 b1 b2 b3 : Int) (b4 : Bool) (b5 : Int) (ad : Option Addr) (len cap : Nat) (n : Int) (hn : (if b5 ≠ 0 then 1 else (len : Int)) = n) :
 Calls Try.prog 69 #[.agg #[.int .i64 b0, .int .i64 b1, .int .i64 b2, .int .i64 b3, .bool b4, .int .i64 b5, .slice ad len cap]] w (Says n w) := by
 by_cases h : b5 = 0
 · subst h
   obtain rfl : (len : Int) = n := by rw [← hn, if_neg (by decide)]
   clear hn
   go_enter Try.func69, Try.ntmps69
   go_wp2
   go_ret
   exact says_mk rfl ((Below.refl _ _).alloc (Nat.le_refl _) _)
 · have h1 : (b5 != 0) = true := by simpa using h
   obtain rfl : 1 = n := by rw [← hn, if_pos h]
   clear hn
   go_enter Try.func69, Try.ntmps69
   go_wp2
   go_ret
   exact says_mk rfl ((Below.refl _ _).alloc (Nat.le_refl _) _)
end Go.Proofs.Ytbejincejbnbaaa
