/- Parts of a proof, merged: FoKnM, FoKnown, FoNumbers, FoBegins, FoParts. -/
import Derived.Test.YtipaebflkebdjaaKa14
import Derived.Test.YtipaebflkebdjaaKa10
import Derived.Test.YtipaebflkebdjaaKa13
import Derived.Test.YtipaebflkebdjaaKa3
import Derived.Test.YtipaebflkebdjaaKa12
import Derived.Test.YtipaebflkebdjaaKa4
namespace Go.Proofs.Ytipaebflkebdjaa
open Go.FoMath
open Go.ProdMath
open Go.BatMath hiding AllB getD_lt take_all
set_option linter.unusedVariables false

def nRa : Rc := ⟨⟨#[97]⟩, ⟨#[]⟩⟩
def nRb : Rc := ⟨⟨#[98]⟩, ⟨#[]⟩⟩
def nRc : Rc := ⟨⟨#[99]⟩, ⟨#[]⟩⟩
def nB1 : Bat := ⟨5, 1, 0, 0, true, 0, [nRa, nRb]⟩
def nB2 : Bat := ⟨7, -1, -1, -1, false, 0, [nRc]⟩
def nB3 : Bat := ⟨8, 1, 0, -1, true, 2, []⟩
def nP1 : Pd := ⟨1, 0, [⟨0, 1, 5⟩], 5⟩
theorem n_short : ¬ longRec nRa ∧ ¬ longRec nRb ∧ ¬ longRec nRc := by unfold longRec nRa nRb nRc; decide
theorem n_right1 : rightE nB1 = 0 := by
 unfold rightE
 rw [if_neg (by decide), if_neg (by decide), if_pos ⟨.inr (by decide), by unfold nB1; simp⟩, if_neg ?_]
 rintro (h | ⟨r, h1, h2⟩)
 · revert h; decide
 · rcases List.mem_cons.1 h1 with rfl | h1
   · exact n_short.1 h2
   · rw [List.mem_singleton.1 h1] at h2
     exact n_short.2.1 h2
theorem n_right2 : rightE nB2 = 0 := by
 unfold rightE
 rw [if_neg (by decide), if_neg (by decide), if_pos ⟨.inl (by decide), by unfold nB2; simp⟩, if_neg ?_]
 rintro (h | ⟨r, h1, h2⟩)
 · revert h; decide
 · rw [List.mem_singleton.1 h1] at h2
   exact n_short.2.2 h2
theorem n_right3 : rightE nB3 = 0 := by
 unfold rightE
 rw [if_neg (by decide), if_pos (by decide), if_pos ⟨.inr rfl, by decide, rfl, rfl, rfl⟩]
theorem n_apply1 : tapplyD [] nB1 = [nP1] := by
 rw [tapply_ins asc_nil nB1 n_right1 (by decide)]
 rfl
theorem n_apply2 : tapplyD [nP1] nB2 = [nP1] := by
 unfold tapplyD
 rw [if_pos (.inr (by decide))]
theorem n_fold2 : foldP [] [nB1, nB2] = [nP1] := by
 show tapplyD (tapplyD [] nB1) nB2 = _
 rw [n_apply1, n_apply2]
theorem n_drop1 : tdropD [] nB1 = none := by
 unfold tdropD
 rw [n_right1, if_neg (by decide), if_neg (by decide)]
theorem n_drop2 : tdropD [nP1] nB2 = none := by
 unfold tdropD
 rw [if_pos (.inr (by decide))]
theorem n_drops : foldR [] [nB1, nB2] = [] := by
 show (tdropD [] nB1).toList ++ ((tdropD (tapplyD [] nB1) nB2).toList ++ []) = []
 rw [n_apply1, n_drop1, n_drop2]
 rfl
theorem n_row2 : RowD 5 [nB1, nB2] := by
 have h1 : RowD 5 ([] ++ [nB1]) := by
  refine RowD.snoc RowD.nil rfl ⟨⟨by decide, by decide⟩, ⟨by decide, by decide⟩, ⟨by decide, by decide⟩, ⟨by decide, by decide⟩, ⟨by decide, by decide⟩⟩ ?_ ?_ (by decide)
  · unfold tcheckD; rw [n_right1, if_neg (by decide), if_neg (by decide)]; rfl
  · unfold tcheckD; rw [n_right1, if_neg (by decide), if_neg (by decide)]; decide
 refine RowD.snoc h1 rfl ⟨⟨by decide, by decide⟩, ⟨by decide, by decide⟩, ⟨by decide, by decide⟩, ⟨by decide, by decide⟩, ⟨by decide, by decide⟩⟩ ?_ ?_ (by decide)
 · unfold tcheckD; rw [n_right2, if_neg (by decide), if_pos (by decide)]
 · unfold tcheckD; rw [n_right2, if_neg (by decide), if_pos (by decide)]; decide
theorem n_row3 : RowD 5 [nB1, nB2, nB3] := by
 refine RowD.snoc n_row2 rfl ⟨⟨by decide, by decide⟩, ⟨by decide, by decide⟩, ⟨by decide, by decide⟩, ⟨by decide, by decide⟩, ⟨by decide, by decide⟩⟩ ?_ ?_ (by decide)
 · rw [n_fold2]; unfold tcheckD; rw [n_right3, if_neg (by decide), if_neg (by decide)]; rfl
 · rw [n_fold2]; unfold tcheckD; rw [n_right3, if_neg (by decide), if_neg (by decide)]; decide
theorem n_end2 : endD 5 [nB1, nB2] = 8 := rfl
theorem n_open2 : firstOpen [nB1, nB2] = 5 := by decide
theorem n_open3 : firstOpen [nB1, nB2, nB3] = -1 := by decide
theorem n_st2 : stableD 5 [nB1, nB2] = 5 := by unfold stableD; rw [n_open2]; rfl
theorem n_st3 : stableD 5 [nB1, nB2, nB3] = 9 := by unfold stableD; rw [n_open3]; rfl
theorem n_recs : recordsD [nB1, nB2] 6 8 = [⟨6, 1, nRb⟩, ⟨7, -1, nRc⟩] := rfl
theorem n_comm : committedD 5 [nB1, nB2, nB3] = [⟨7, -1, nRc⟩] := by unfold committedD; rw [n_st3]; rfl
theorem n_fetch1 : fetchD 5 [nB1, nB2] 5 9 true = (⟨[], [], 5, 5⟩, 0) := by
 unfold fetchD
 rw [if_neg (by decide), n_end2, if_neg (by decide), n_st2, n_drops]
 rfl
theorem n_fetch2 : fetchD 5 [nB1, nB2] 5 2 false = (⟨[⟨5, 1, nRa⟩, ⟨6, 1, nRb⟩], [], 7, 5⟩, 0) := by
 unfold fetchD
 rw [if_neg (by decide), n_end2, if_neg (by decide), n_st2]
 rfl
theorem n_fetch3 : fetchD 5 [nB1, nB2] 5 0 false = (Fd.zero, 1) := by
 unfold fetchD
 rw [if_pos (by decide)]
theorem n_fetch4 : fetchD 5 [nB1, nB2] 4 1 false = (Fd.zero, 20) := by
 unfold fetchD
 rw [if_neg (by decide), if_pos (by decide)]
end Go.Proofs.Ytipaebflkebdjaa
namespace Go.Proofs.Ytipaebflkebdjaa
open Go.RowKit
open Go.FoMath
open Go.ProdMath
open Go.BatMath hiding AllB getD_lt take_all In64
set_option linter.unusedVariables false

def nMs (g : Nat) : List BM := [⟨nB1, some ⟨g, 0, none⟩, 2⟩, ⟨nB2, some ⟨g + 1, 0, none⟩, 1⟩]
theorem n_world (w : World) : ∃ W, W = (((w.alloc (.cells #[.string ⟨#[97]⟩, .string ⟨#[]⟩, .string ⟨#[98]⟩, .string ⟨#[]⟩] 59)).alloc (.cells #[.string ⟨#[99]⟩, .string ⟨#[]⟩] 59)).alloc (.cells #[.int .i64 5, .int .i64 1, .int .i64 0, .int .i64 0, .bool true, .int .i64 0, .slice (some ⟨w.heap.size, 0, none⟩) 2 2, .int .i64 7, .int .i64 (-1), .int .i64 (-1), .int .i64 (-1), .bool false, .int .i64 0, .slice (some ⟨w.heap.size + 1, 0, none⟩) 1 1] 52)) ∧ Below w.heap.size w W ∧ FoBats W 5 (some ⟨w.heap.size + 1 + 1, 0, none⟩) 2 2 (nMs w.heap.size) := by
 refine ⟨_, rfl, ?_, ?_⟩
 · exact (((Below.refl _ _).alloc (Nat.le_refl _) _).alloc (by simp) _).alloc (by simp; omega) _
 · obtain ⟨W1, hW1⟩ : ∃ x, x = w.alloc (.cells #[.string ⟨#[97]⟩, .string ⟨#[]⟩, .string ⟨#[98]⟩, .string ⟨#[]⟩] 59) := ⟨_, rfl⟩
   have h1 : RowAt recK W1 (some ⟨w.heap.size, 0, none⟩) 2 2 [nRa, nRb] := by rw [hW1]; exact rowAt_lit recK_ok w [nRa, nRb] (by decide) _ rfl 2 rfl
   have hs1 : W1.heap.size = w.heap.size + 1 := by rw [hW1]; simp
   rw [← hW1]
   obtain ⟨W2, hW2⟩ : ∃ x, x = W1.alloc (.cells #[.string ⟨#[99]⟩, .string ⟨#[]⟩] 59) := ⟨_, rfl⟩
   have h2 : RowAt recK W2 (some ⟨w.heap.size + 1, 0, none⟩) 1 1 [nRc] := by rw [hW2, ← hs1]; exact rowAt_lit recK_ok W1 [nRc] (by decide) _ rfl 1 rfl
   have hb2 : Below W1.heap.size W1 W2 := by rw [hW2]; exact (Below.refl _ _).alloc (Nat.le_refl _) _
   have hs2 : W2.heap.size = w.heap.size + 1 + 1 := by rw [hW2]; simp [hs1]
   rw [← hW2]
   have h3 : RowAt batK (W2.alloc (.cells #[.int .i64 5, .int .i64 1, .int .i64 0, .int .i64 0, .bool true, .int .i64 0, .slice (some ⟨w.heap.size, 0, none⟩) 2 2, .int .i64 7, .int .i64 (-1), .int .i64 (-1), .int .i64 (-1), .bool false, .int .i64 0, .slice (some ⟨w.heap.size + 1, 0, none⟩) 1 1] 52)) (some ⟨w.heap.size + 1 + 1, 0, none⟩) 2 2 (nMs w.heap.size) := by
    rw [← hs2]
    exact rowAt_lit batK_ok W2 (nMs w.heap.size) (by unfold nMs; simp) _ rfl 2 rfl
   have hb3 : Below W2.heap.size W2 (W2.alloc (.cells #[.int .i64 5, .int .i64 1, .int .i64 0, .int .i64 0, .bool true, .int .i64 0, .slice (some ⟨w.heap.size, 0, none⟩) 2 2, .int .i64 7, .int .i64 (-1), .int .i64 (-1), .int .i64 (-1), .bool false, .int .i64 0, .slice (some ⟨w.heap.size + 1, 0, none⟩) 1 1] 52)) := (Below.refl _ _).alloc (Nat.le_refl _) _
   refine ⟨⟨h3, ?_⟩, by decide, n_row2, by decide, by decide⟩
   intro m hm
   simp only [nMs, List.mem_cons, List.not_mem_nil, or_false] at hm
   rcases hm with rfl | rfl
   · exact recsAt_row.2 ((h1.keep hb2).keep hb3)
   · exact recsAt_row.2 (h2.keep hb3)
set_option maxRecDepth 100000 in
set_option maxHeartbeats 8000000 in
theorem known14_any (C : FoCode) (w : World) :
 Calls Try.prog 13 #[] w (GivesBool w true) := by
 have HC := Lib.hid C
 clear C
 go_enter Try.func13, Try.ntmps13
 go_upto_region 2 with fail
 obtain ⟨W0, hW0, hb0, hm0⟩ := n_world w
 obtain ⟨ms, hms⟩ : ∃ x, x = nMs w.heap.size := ⟨_, rfl⟩
 obtain ⟨B, hB⟩ : ∃ x, x = w.heap.size + 1 + 1 := ⟨_, rfl⟩
 have HBT : Hid (bats ms = [nB1, nB2]) := by show _ = _; rw [hms]; rfl
 have HL2 : Hid (ms.length = 2) := by show _ = _; rw [hms]; rfl
 rw [← hms, ← hB] at hm0
 rw [← hB, ← hW0]
 have HM0 := Lib.hid hm0
 have HB0 := Lib.hid hb0
 clear hW0 hb0 hm0 hms hB
 go_wp2_with fail
 refine (HC.out.fetch W0 5 (some ⟨B, 0, none⟩) 2 2 ms 5 9 true HM0.out).mono ?_
 rintro e w1 ⟨v, rfl, hfa, hb⟩
 rw [HBT.out, n_fetch1] at hfa ⊢
 obtain ⟨ra0, rn0, rc0, da0, dn0, dc0, rfl, hr, _⟩ := hfa
 simp only at hr ⊢
 have hrn0 := hr.length
 simp only [List.length_nil] at hrn0
 subst hrn0
 have HM1 := Lib.hid (HM0.out.keep hb)
 have HB1 := Lib.hid (HB0.out.trans (hb.mono HB0.out.size))
 clear hb hr HM0 HB0
 go_upto_region 3 with fail
 obtain ⟨W2, hW⟩ : ∃ y, y = w1.alloc (.cells #[.slice ra0 0 rc0, .slice da0 dn0 dc0, .int .i64 5, .int .i64 5] 34) := ⟨_, rfl⟩
 obtain ⟨P0, hP⟩ : ∃ y, y = w1.heap.size := ⟨_, rfl⟩
 have hb : Below w1.heap.size w1 W2 := by rw [hW]; exact (Below.refl _ _).alloc (Nat.le_refl _) _
 have HP0_2 : Hid (FBox W2 P0 (.slice ra0 0 rc0) (.slice da0 dn0 dc0) 5 5) := by show FBox _ _ _ _ _ _; rw [hW, hP]; exact fbox_new w1 _ _ _ _
 have HM2 := Lib.hid (HM1.out.keep hb)
 have HB2 := Lib.hid (HB1.out.trans (hb.mono HB1.out.size))
 (try rw [← hW, ← hP])
 clear hW hP hb HM1 HB1
 go_wp2_with fail
 refine (HC.out.fetch W2 5 (some ⟨B, 0, none⟩) 2 2 ms 5 2 false HM2.out).mono ?_
 rintro e w3 ⟨v, rfl, hfa, hb⟩
 rw [HBT.out, n_fetch2] at hfa ⊢
 obtain ⟨ra1, rn1, rc1, da1, dn1, dc1, rfl, hr, _⟩ := hfa
 simp only at hr ⊢
 have hrn1 := hr.length
 simp only [List.length_nil, List.length_cons] at hrn1
 subst hrn1
 have HM3 := Lib.hid (HM2.out.keep hb)
 have HB3 := Lib.hid (HB2.out.trans (hb.mono HB2.out.size))
 have HP0_3 := Lib.hid (HP0_2.out.on hb)
 clear hb hr HM2 HB2 HP0_2
 go_upto_region 4 with fail
 obtain ⟨W4, hW⟩ : ∃ y, y = w3.alloc (.cells #[.slice ra1 (0 + 1 + 1) rc1, .slice da1 dn1 dc1, .int .i64 7, .int .i64 5] 34) := ⟨_, rfl⟩
 obtain ⟨P1, hP⟩ : ∃ y, y = w3.heap.size := ⟨_, rfl⟩
 have hb : Below w3.heap.size w3 W4 := by rw [hW]; exact (Below.refl _ _).alloc (Nat.le_refl _) _
 have HP1_4 : Hid (FBox W4 P1 (.slice ra1 (0 + 1 + 1) rc1) (.slice da1 dn1 dc1) 7 5) := by show FBox _ _ _ _ _ _; rw [hW, hP]; exact fbox_new w3 _ _ _ _
 have HM4 := Lib.hid (HM3.out.keep hb)
 have HB4 := Lib.hid (HB3.out.trans (hb.mono HB3.out.size))
 have HP0_4 := Lib.hid (HP0_3.out.on hb)
 (try rw [← hW, ← hP])
 clear hW hP hb HM3 HB3 HP0_3
 go_wp2_with fail
 refine (HC.out.fetch W4 5 (some ⟨B, 0, none⟩) 2 2 ms 5 0 false HM4.out).mono ?_
 rintro e w5 ⟨v, rfl, hfa, hb⟩
 rw [HBT.out, n_fetch3] at hfa ⊢
 obtain ⟨ra2, rn2, rc2, da2, dn2, dc2, rfl, hr, _⟩ := hfa
 simp only [Fd.zero] at hr ⊢
 have hrn2 := hr.length
 simp only [List.length_nil] at hrn2
 subst hrn2
 have HM5 := Lib.hid (HM4.out.keep hb)
 have HB5 := Lib.hid (HB4.out.trans (hb.mono HB4.out.size))
 have HP0_5 := Lib.hid (HP0_4.out.on hb)
 have HP1_5 := Lib.hid (HP1_4.out.on hb)
 clear hb hr HM4 HB4 HP0_4 HP1_4
 go_upto_region 5 with fail
 obtain ⟨W6, hW⟩ : ∃ y, y = w5.alloc (.cells #[.slice ra2 0 rc2, .slice da2 dn2 dc2, .int .i64 0, .int .i64 0] 34) := ⟨_, rfl⟩
 obtain ⟨P2, hP⟩ : ∃ y, y = w5.heap.size := ⟨_, rfl⟩
 have hb : Below w5.heap.size w5 W6 := by rw [hW]; exact (Below.refl _ _).alloc (Nat.le_refl _) _
 have HP2_6 : Hid (FBox W6 P2 (.slice ra2 0 rc2) (.slice da2 dn2 dc2) 0 0) := by show FBox _ _ _ _ _ _; rw [hW, hP]; exact fbox_new w5 _ _ _ _
 have HM6 := Lib.hid (HM5.out.keep hb)
 have HB6 := Lib.hid (HB5.out.trans (hb.mono HB5.out.size))
 have HP0_6 := Lib.hid (HP0_5.out.on hb)
 have HP1_6 := Lib.hid (HP1_5.out.on hb)
 (try rw [← hW, ← hP])
 clear hW hP hb HM5 HB5 HP0_5 HP1_5
 go_wp2_with fail
 refine (HC.out.fetch W6 5 (some ⟨B, 0, none⟩) 2 2 ms 4 1 false HM6.out).mono ?_
 rintro e w7 ⟨v, rfl, hfa, hb⟩
 rw [HBT.out, n_fetch4] at hfa ⊢
 obtain ⟨ra3, rn3, rc3, da3, dn3, dc3, rfl, hr, _⟩ := hfa
 simp only [Fd.zero] at hr ⊢
 have hrn3 := hr.length
 simp only [List.length_nil] at hrn3
 subst hrn3
 have HM7 := Lib.hid (HM6.out.keep hb)
 have HB7 := Lib.hid (HB6.out.trans (hb.mono HB6.out.size))
 have HP0_7 := Lib.hid (HP0_6.out.on hb)
 have HP1_7 := Lib.hid (HP1_6.out.on hb)
 have HP2_7 := Lib.hid (HP2_6.out.on hb)
 clear hb hr HM6 HB6 HP0_6 HP1_6 HP2_6
 go_upto_region 6 with fail
 obtain ⟨W8, hW⟩ : ∃ y, y = w7.alloc (.cells #[.slice ra3 0 rc3, .slice da3 dn3 dc3, .int .i64 0, .int .i64 0] 34) := ⟨_, rfl⟩
 obtain ⟨P3, hP⟩ : ∃ y, y = w7.heap.size := ⟨_, rfl⟩
 have hb : Below w7.heap.size w7 W8 := by rw [hW]; exact (Below.refl _ _).alloc (Nat.le_refl _) _
 have HP3_8 : Hid (FBox W8 P3 (.slice ra3 0 rc3) (.slice da3 dn3 dc3) 0 0) := by show FBox _ _ _ _ _ _; rw [hW, hP]; exact fbox_new w7 _ _ _ _
 have HM8 := Lib.hid (HM7.out.keep hb)
 have HB8 := Lib.hid (HB7.out.trans (hb.mono HB7.out.size))
 have HP0_8 := Lib.hid (HP0_7.out.on hb)
 have HP1_8 := Lib.hid (HP1_7.out.on hb)
 have HP2_8 := Lib.hid (HP2_7.out.on hb)
 (try rw [← hW, ← hP])
 clear hW hP hb HM7 HB7 HP0_7 HP1_7 HP2_7
 obtain ⟨X1, hX1⟩ : ∃ z, z = W8.alloc (.cells #[] 52) := ⟨_, rfl⟩
 have hb1 : Below W8.heap.size W8 X1 := by rw [hX1]; exact (Below.refl _ _).alloc (Nat.le_refl _) _
 have HO : Hid (OwnRow batK X1 W8.heap.size (.slice (some ⟨W8.heap.size, 0, none⟩) 0 0) []) := by show OwnRow _ _ _ _ _; rw [hX1]; exact ownRow_lit batK_ok W8 _ [] (Nat.le_refl _) (by simp) _ rfl 0 rfl
 have HX1 := Lib.hid hX1
 have HU1 := Lib.hid hb1
 clear hX1 hb1
 go_wp2_with (at_builtin; rw [← HX1.out]; refine list_row (by rfl) batK_ok (.tmp 40) (.tmp 41) rfl W8.heap.size [] ms _ rfl HO.out HU1.out.size (some ⟨B, 0, none⟩) 2 2 rfl (HM8.out.at_.row.keep HU1.out) (by simp) ?_)
 intro v2 x2 hap
 have HO2 : Hid (OwnRow batK x2 W8.heap.size v2 ms) := hap.1
 have HU2 := Lib.hid (HU1.out.grown hap.2.1 HU1.out.size (fun q hq => (HO.out.lt q hq).1))
 clear hap HO HU1 HX1
 obtain ⟨X4, hX4⟩ : ∃ z, z = x2.alloc (.cells #[.int .i64 8, .int .i64 1, .int .i64 0, .int .i64 (-1), .bool true, .int .i64 2, .slice none 0 0] 52) := ⟨_, rfl⟩
 have hb4 : Below x2.heap.size x2 X4 := by rw [hX4]; exact (Below.refl _ _).alloc (Nat.le_refl _) _
 have HLIT : Hid (RowAt batK X4 (some ⟨x2.heap.size, 0, none⟩) 1 1 [(⟨⟨8, 1, 0, -1, true, 2, []⟩, none, 0⟩ : BM)]) := by show RowAt _ _ _ _ _ _; rw [hX4]; exact rowAt_lit batK_ok x2 [(⟨⟨8, 1, 0, -1, true, 2, []⟩, none, 0⟩ : BM)] (by simp) _ rfl 1 rfl
 have HO4 := Lib.hid (HO2.out.on hb4)
 have HU4 := Lib.hid (HU2.out.trans (hb4.mono HU2.out.size))
 have HX4 := Lib.hid hX4
 clear hX4 hb4 HO2 HU2
 go_wp2_with (at_builtin; rw [← HX4.out]; refine list_row (by rfl) batK_ok (.tmp 42) (.tmp 44) rfl W8.heap.size ms [(⟨⟨8, 1, 0, -1, true, 2, []⟩, none, 0⟩ : BM)] _ rfl HO4.out HU4.out.size (some ⟨x2.heap.size, 0, none⟩) 1 1 rfl HLIT.out (by have := HL2.out; omega) ?_)
 intro v5 x5 hap
 obtain ⟨ad5, cap5, hv5, hr5, hk5⟩ := OwnRow.row (n := 3) batK_ok hap.1 (by rw [List.length_append, HL2.out]; rfl)
 subst hv5
 have HU := Lib.hid (HU4.out.grown hap.2.1 HU4.out.size (fun q hq => (HO4.out.lt q hq).1))
 have HR5 := Lib.hid hr5
 clear hap hr5 hk5 HO4 HLIT HU4 HX4
 have hb5 : bats (ms ++ [(⟨⟨8, 1, 0, -1, true, 2, []⟩, none, 0⟩ : BM)]) = [nB1, nB2, nB3] := by
  have h5 : bats (ms ++ [(⟨⟨8, 1, 0, -1, true, 2, []⟩, none, 0⟩ : BM)]) = bats ms ++ [nB3] := by unfold bats; rw [List.map_append]; rfl
  rw [h5, HBT.out]
  rfl
 have HMF : Hid (FoBats x5 5 ad5 3 cap5 (ms ++ [(⟨⟨8, 1, 0, -1, true, 2, []⟩, none, 0⟩ : BM)])) := ⟨⟨HR5.out, fun m hm => by
  rcases List.mem_append.1 hm with hm | hm
  · exact (HM8.out.keep HU.out).at_.ins m hm
  · rw [List.mem_singleton.1 hm]; exact recsAt_nil _⟩, by decide, by rw [hb5]; exact n_row3, by decide, by decide⟩
 have HB5 := Lib.hid hb5
 have HB9 := Lib.hid (HB8.out.trans (HU.out.mono HB8.out.size))
 have HM9 := Lib.hid (HM8.out.keep HU.out)
 have HP0_9 := Lib.hid (HP0_8.out.on HU.out)
 have HP1_9 := Lib.hid (HP1_8.out.on HU.out)
 clear hb5 HU HR5 HB8 HM8 HP0_8 HP1_8 HP2_8 HP3_8
 go_wp2_with fail
 refine (HC.out.committed x5 5 ad5 3 cap5 _ HMF.out).mono ?_
 rintro e y1 ⟨ca, cn, cc, rfl, hr, -, hb⟩
 rw [HB5.out, n_comm] at hr
 have hcn := hr.length
 simp only [List.length_cons, List.length_nil] at hcn
 subst hcn
 have HR1 := Lib.hid hr
 have HB10 := Lib.hid (HB9.out.trans (hb.mono HB9.out.size))
 have HM10 := Lib.hid (HM9.out.keep hb)
 have HP0_10 := Lib.hid (HP0_9.out.on hb)
 have HP1_10 := Lib.hid (HP1_9.out.on hb)
 clear hr hb HB9 HM9 HP0_9 HP1_9 HMF
 have hnil : FoBats y1 5 none 0 0 [] := ⟨⟨rowAt_nil _, fun m hm => by cases hm⟩, by decide, RowD.nil, by decide, by decide⟩
 have HNIL := Lib.hid hnil
 clear hnil
 go_wp2_with fail
 refine (HC.out.end_ y1 5 none 0 0 [] HNIL.out).mono ?_
 rintro e y2 ⟨rfl, hb⟩
 rw [show endD 5 (bats []) = 5 from rfl]
 have HR2 := Lib.hid (HR1.out.keep hb)
 have HB11 := Lib.hid (HB10.out.trans (hb.mono HB10.out.size))
 have HM11 := Lib.hid (HM10.out.keep hb)
 have HP0_11 := Lib.hid (HP0_10.out.on hb)
 have HP1_11 := Lib.hid (HP1_10.out.on hb)
 clear hb HB10 HM10 HP0_10 HP1_10 HR1 HNIL
 go_wp2_with fail
 refine (HC.out.end_ y2 5 (some ⟨B, 0, none⟩) 2 2 ms HM11.out).mono ?_
 rintro e y3 ⟨rfl, hb⟩
 rw [HBT.out, n_end2]
 have HR3 := Lib.hid (HR2.out.keep hb)
 have HB12 := Lib.hid (HB11.out.trans (hb.mono HB11.out.size))
 have HM12 := Lib.hid (HM11.out.keep hb)
 have HP0_12 := Lib.hid (HP0_11.out.on hb)
 have HP1_12 := Lib.hid (HP1_11.out.on hb)
 clear hb HB11 HM11 HP0_11 HP1_11 HR2
 go_wp2_with fail
 refine (HC.out.stable y3 5 (some ⟨B, 0, none⟩) 2 2 ms HM12.out).mono ?_
 rintro e y4 ⟨rfl, hb⟩
 rw [HBT.out, n_st2]
 have HR4 := Lib.hid (HR3.out.keep hb)
 have HB13 := Lib.hid (HB12.out.trans (hb.mono HB12.out.size))
 have HM13 := Lib.hid (HM12.out.keep hb)
 have HP0_13 := Lib.hid (HP0_12.out.on hb)
 have HP1_13 := Lib.hid (HP1_12.out.on hb)
 clear hb HB12 HM12 HP0_12 HP1_12 HR3
 obtain ⟨gb, go2, g, el, hgb, hg, hga⟩ := gt_get HR4.out (show 0 < 0 + 1 by decide)
 subst el
 cases hg
 have p0 := HP0_13.out.c0
 have p2 := HP0_13.out.c2
 have p3 := HP0_13.out.c3
 have q0 := HP1_13.out.c0
 have q2 := HP1_13.out.c2
 have k0 := hga.c0
 simp only [Nat.zero_mul, Nat.add_zero] at k0
 clear hga hgb
 go_wp2_with fail
 refine (HC.out.records y4 5 (some ⟨B, 0, none⟩) 2 2 ms 6 8 HM13.out).mono ?_
 rintro e y5 ⟨ra9, rn9, rc9, rfl, hr, -, hb⟩
 rw [HBT.out, n_recs] at hr
 have hrn9 := hr.length
 simp only [List.length_cons, List.length_nil] at hrn9
 subst hrn9
 have HB14 := Lib.hid (HB13.out.trans (hb.mono HB13.out.size))
 clear hb hr p0 p2 p3 q0 q2 k0
 go_wp2
 go_ret
 exact ⟨rfl, HB14.out⟩
end Go.Proofs.Ytipaebflkebdjaa
namespace Go.Proofs.Ytipaebflkebdjaa
open Go.RowKit
open Go.FoMath
open Go.ProdMath
open Go.BatMath hiding AllB getD_lt take_all In64
set_option linter.unusedVariables false

set_option maxRecDepth 100000 in
theorem foTape_any (w : World) (k : Nat) (hk : k ≤ 60) :
 Calls Try.prog 9 #[.int .i64 (k : Int)] w fun e w' => ∃ ad cap zs, e = .returned (.slice ad 400 cap) ∧ Hid (Nums w' ad 400 zs) ∧ Hid (Below w.heap.size w w') := by
 go_enter Try.func9, Try.ntmps9
 go_wp2
 go_loopw [3, 4] (fun v3 v4 wr => TapeLoop w v3 v4 wr) (fun _ v4 _ => (400 - intOf v4).toNat)
 case atStart => exact ⟨[], 0, _, rfl, rfl, by omega, rfl, (fun z hz => by cases hz), ownRow_nil _ _ _, Below.refl _ _⟩
 case round =>
  obtain ⟨zs, i, u, rfl, rfl, hi, hl, ha, hown, hbel⟩ := hrel
  have HL := Lib.hid hl
  have HA := Lib.hid ha
  have HO := Lib.hid hown
  have HB := Lib.hid hbel
  clear hl ha hown hbel
  by_cases hlt : i < 400
  · have hd : decide ((i : Int) < 400) = true := by simp; omega
    obtain ⟨x, hx⟩ : ∃ x, wrap64 (wrap64 (wrap64 (wrap64 ((i : Int) * i) * 7) + (k : Int) * 47) + wrap64 ((i : Int) * k)) = x := ⟨_, rfl⟩
    obtain ⟨z, hz⟩ : ∃ z, x.tmod 211 = z := ⟨_, rfl⟩
    have hz64 := tmod_in x 211 z (by omega) hz
    obtain ⟨wo, rfl⟩ : ∃ wo : World, wo = wr := ⟨_, rfl⟩
    have HBA : Hid (Below w.heap.size w (wo.alloc (.cells #[.int .i64 z] 3))) := HB.out.alloc HB.out.size _
    have HRW : Hid (RowAt intK (wo.alloc (.cells #[.int .i64 z] 3)) (some ⟨wo.heap.size, 0, none⟩) 1 1 [z]) := rowAt_lit intK_ok wo [z] (by simp) _ rfl 1 rfl
    go_wp2_with (at_builtin; refine list_row (by rfl) intK_ok (.tmp 9) (.tmp 22) rfl w.heap.size zs [z] _ rfl (HO.out.alloc _) HBA.out.size (some ⟨wo.heap.size, 0, none⟩) 1 1 rfl HRW.out (by have := HL.out; omega) ?_)
    intro v' w' hap
    have HO2 := Lib.hid hap.1
    have HB2 : Hid (Below w.heap.size w w') := HBA.out.grown hap.2.1 HBA.out.size fun q hq => (HO.out.lt q hq).1
    have HL2 : Hid ((zs ++ [z]).length = i + 1) := by show _ = _; rw [List.length_append, HL.out]; rfl
    have HA2 : Hid (∀ y ∈ zs ++ [z], In64 y) := by
     intro y hy
     rcases List.mem_append.1 hy with hy | hy
     · exact HA.out y hy
     · rw [List.mem_singleton.1 hy]; exact hz64
    clear hap hx hz
    go_wp2
    go_roundw
    case rel => exact ⟨zs ++ [z], i + 1, _, rfl, by go_num, by omega, HL2.out, HA2.out, HO2.out, HB2.out⟩
    case measure => simp [intOf]; omega
  · have hd : decide ((i : Int) < 400) = false := by simp; omega
    go_wp2
    go_ret
    obtain ⟨ad, cap, rfl, hr, _⟩ := HO.out.at intK_ok
    have hl := HL.out
    obtain rfl : i = 400 := by omega
    rw [hl] at hr
    rw [hl]
    exact ⟨ad, cap, zs, rfl, nums_of hr HA.out, HB.out⟩
theorem fo_six (w : World) : ∀ j, j < 6 → ∃ x, (w.alloc (.cells #[.int .i64 (-1), .int .i64 0, .int .i64 1, .int .i64 3, .int .i64 64, .int .i64 65] 2)).cell? ⟨w.heap.size, j, none⟩ = some (.int .i64 x) := by
 intro j hj
 have h := heap_alloc_new w (.cells #[.int .i64 (-1), .int .i64 0, .int .i64 1, .int .i64 3, .int .i64 64, .int .i64 65] 2)
 rw [cell_of_row _ _ j _ _ _ h]
 match j, hj with
 | 0, _ => exact ⟨_, rfl⟩
 | 1, _ => exact ⟨_, rfl⟩
 | 2, _ => exact ⟨_, rfl⟩
 | 3, _ => exact ⟨_, rfl⟩
 | 4, _ => exact ⟨_, rfl⟩
 | 5, _ => exact ⟨_, rfl⟩
theorem fo_nil (w : World) (s : Int) (h0 : 0 ≤ s) (h1 : s ≤ 1099511627776) : FoBats w s none 0 0 [] := ⟨⟨rowAt_nil _, fun m hm => by cases hm⟩, by decide, RowD.nil, h0, h1⟩
set_option maxRecDepth 100000 in
set_option maxHeartbeats 16000000 in
theorem foNumbers_any (C : FoCode) (K : ∀ W, Calls Try.prog 13 #[] W (GivesBool W true)) (w : World) :
 Calls Try.prog 3 #[] w (GivesBool w true) := by
 have HC := Lib.hid C
 have HK := Lib.hid K
 clear C K
 go_enter Try.func3, Try.ntmps3
 go_wp2
 go_loopw [1] (fun v1 wr => ∃ k : Nat, v1 = .int .i64 (k : Int) ∧ k ≤ 30 ∧ Hid (Below w.heap.size w wr)) (fun v1 _ => 30 - (intOf v1).toNat)
 case atStart => exact ⟨0, rfl, by omega, Below.refl _ _⟩
 case round =>
  obtain ⟨k, rfl, hk, HB⟩ := hrel
  obtain ⟨wo, hwo⟩ : ∃ wo : World, wo = wr := ⟨_, rfl⟩
  subst hwo
  by_cases hlt : k < 30
  · have hd1 : decide ((k : Int) < 30) = true := decide_eq_true (by omega)
    have hd1n : decide (k < 30) = true := decide_eq_true hlt
    obtain ⟨sv, hs1⟩ : ∃ x : Int, (k : Int).tmod 7 = x := ⟨_, rfl⟩
    have hs2 : (k : Int) % 7 = sv := by rw [← hs1, Int.tmod_eq_emod_of_nonneg (by omega)]
    have HSV : Hid (0 ≤ sv ∧ sv ≤ 6) := by show 0 ≤ sv ∧ sv ≤ 6; omega
    have HLT : Hid (k < 30) := hlt
    go_wp2_with fail
    refine (foTape_any wo k (by omega)).mono ?_
    rintro e w1 ⟨tad, tcap, zs, rfl, hnum, hb1⟩
    have HNUM := Lib.hid hnum.out
    have HB1 := Lib.hid (HB.out.trans (hb1.out.mono HB.out.size))
    clear hnum hb1 HB
    go_wp2_with fail
    refine (foRowAt_any w1 tad 400 tcap zs HNUM.out (by omega) sv HSV.out.1 (by have := HSV.out; omega) 18 (by decide)).mono ?_
    rintro e w2 ⟨ad, len, cap, ms, rfl, hm, hlen, hb2⟩
    obtain ⟨en, hen⟩ : ∃ x, x = endD sv (bats ms) := ⟨_, rfl⟩
    have henb : 0 ≤ en ∧ en ≤ 400 := by
     have hbl : (bats ms).length = len := by unfold bats; rw [List.length_map]; exact hm.at_.row.length
     have h1 := row_end hm.row
     have h2 := (row_chain hm.row hm.lo).2
     have h3 := HSV.out
     rw [hbl] at h1
     rw [hen]
     omega
    have HEN := Lib.hid hen
    have HENB : Hid (0 ≤ en ∧ en ≤ 400) := henb
    have HM := Lib.hid hm
    have HB2 := Lib.hid (HB1.out.trans (hb2.mono HB1.out.size))
    clear hm hb2 hlen HB1 HNUM hen henb
    go_wp2_with fail
    refine (foAll_any HC.out w2 sv ad len cap ms HM.out).mono ?_
    rintro e w3 ⟨rfl, hb⟩
    have HM3 := Lib.hid (HM.out.keep hb)
    have HB3 := Lib.hid (HB2.out.trans (hb.mono HB2.out.size))
    clear hb HM HB2
    have HO0 : Hid (-1 ≤ wrap64 (sv - 1) ∧ wrap64 (sv - 1) ≤ 1000) := by have h1 := HSV.out; show -1 ≤ wrap64 (sv - 1) ∧ wrap64 (sv - 1) ≤ 1000; unfold wrap64; omega
    clear hs1 hs2 hlt hk hd1 hd1n
    go_wp2_with fail
    go_loopw [4] (fun v4 wr => ∃ o : Int, v4 = .int .i64 o ∧ Hid (-1 ≤ o ∧ o ≤ 1000) ∧ Hid (Below w3.heap.size w3 wr)) (fun v4 _ => (1000 - intOf v4).toNat)
    case atStart => exact ⟨wrap64 (sv - 1), rfl, HO0.out, Below.refl _ _⟩
    case round =>
     obtain ⟨o, rfl, HO, HBO⟩ := hrel
     obtain ⟨wi, hwi⟩ : ∃ wi : World, wi = wr := ⟨_, rfl⟩
     subst hwi
     go_wp2_with fail
     refine (refEnd_any wi sv ad len cap ms (HM3.out.keep HBO.out).at_ (Nat.le_trans HM3.out.few (by decide)) (HM3.out.keep HBO.out).foRow.ok _ HEN.out.symm).mono ?_
     rintro e w5 ⟨rfl, hb⟩
     have HB5 := Lib.hid (HBO.out.trans (hb.mono HBO.out.size))
     clear hb HBO
     obtain ⟨e1, he1⟩ : ∃ x, wrap64 (en + 1) = x := ⟨_, rfl⟩
     have HE1 : Hid (e1 ≤ 401) := by have h1 := HENB.out; show e1 ≤ 401; rw [← he1]; unfold wrap64; omega
     by_cases hle : o ≤ e1
     · have hd2 : decide (o ≤ e1) = true := decide_eq_true hle
       have HLE : Hid (o ≤ e1) := hle
       clear hle
       obtain ⟨W6, hW6⟩ : ∃ z, z = w5.alloc (.cells #[.int .i64 (-1), .int .i64 0, .int .i64 1, .int .i64 3, .int .i64 64, .int .i64 65] 2) := ⟨_, rfl⟩
       obtain ⟨Q, hQ⟩ : ∃ z, z = w5.heap.size := ⟨_, rfl⟩
       have hb6 : Below w5.heap.size w5 W6 := by rw [hW6]; exact (Below.refl _ _).alloc (Nat.le_refl _) _
       have HSIX : Hid (∀ V, Below W6.heap.size W6 V → ∀ j, j < 6 → ∃ x, V.cell? ⟨Q, j, none⟩ = some (.int .i64 x)) := fun V hV j hj => by
        obtain ⟨x, hx⟩ := fo_six w5 j hj
        refine ⟨x, ?_⟩
        rw [hV.cell (p := ⟨Q, j, none⟩) (by show Q < _; rw [hW6, hQ]; simp), hW6, hQ]
        exact hx
       have HB6 := Lib.hid (HB5.out.trans (hb6.mono HB5.out.size))
       clear hb6 HB5
       go_upto_region 12 with fail
       rw [← hW6, ← hQ]
       clear hW6 hQ he1 hd2
       go_loopw [33] (fun v33 wr => ∃ j : Nat, v33 = .int .i64 (j : Int) ∧ j ≤ 6 ∧ Hid (Below W6.heap.size W6 wr)) (fun v33 _ => 6 - (intOf v33).toNat)
       case atStart => exact ⟨0, rfl, by omega, Below.refl _ _⟩
       case round =>
        obtain ⟨j, rfl, hj, HBJ⟩ := hrel
        obtain ⟨wj, hwj⟩ : ∃ wj : World, wj = wr := ⟨_, rfl⟩
        subst hwj
        by_cases hj6 : j < 6
        · skip
          have hd3 : decide ((j : Int) < 6) = true := decide_eq_true (by omega)
          have hd3n : decide (j < 6) = true := decide_eq_true hj6
          obtain ⟨x, c0⟩ := HSIX.out wj HBJ.out j hj6
          obtain ⟨r2, hr2⟩ : ∃ z, x.tmod 2 = z := ⟨_, rfl⟩
          obtain ⟨b1, hb1⟩ : ∃ z, (r2 == 1) = z := ⟨_, rfl⟩
          obtain ⟨b0, hb0⟩ : ∃ z, (r2 == 0) = z := ⟨_, rfl⟩
          have HMJ : Hid (FoBats wj sv ad len cap ms) := HM3.out.keep (HB6.out.trans (HBJ.out.mono HB6.out.size))
          go_wp2_with fail
          refine (foSame_any HC.out wj sv ad len cap ms HMJ.out _ _ _).mono ?_
          rintro e wa ⟨rfl, hb⟩
          have HMa := Lib.hid (HMJ.out.keep hb)
          have HBa := Lib.hid (HBJ.out.trans (hb.mono HBJ.out.size))
          clear hb HMJ HBJ c0
          go_wp2_with fail
          refine (foSame_any HC.out wa sv ad len cap ms HMa.out _ _ _).mono ?_
          rintro e wb ⟨rfl, hb⟩
          have HBb := Lib.hid (HBa.out.trans (hb.mono HBa.out.size))
          clear hb HMa HBa
          go_wp2_with fail
          go_roundw
          case rel => exact ⟨j + 1, by go_num, by omega, HBb.out⟩
          case measure => simp [intOf]; omega
        · have hd3 : decide ((j : Int) < 6) = false := decide_eq_false (by omega)
          have hd3n : decide (j < 6) = false := decide_eq_false hj6
          have HB7 : Hid (Below w3.heap.size w3 wj) := HB6.out.trans (HBJ.out.mono HB6.out.size)
          have ho2 : wrap64 (o + 2) = o + 2 := by have h1 := HO.out; unfold wrap64; omega
          clear hj6 hj HBJ
          go_wp2_with fail
          go_roundw
          case rel => exact ⟨o + 2, by first | rfl | rw [ho2], by have h1 := HLE.out; have h2 := HE1.out; have h3 := HO.out; show _ ∧ _; omega, HB7.out⟩
          case measure => have h1 := HO.out; have h2 := HLE.out; have h3 := HE1.out; first | (simp only [intOf]; omega) | (simp only [intOf, ho2]; omega)
     · have hd2 : decide (o ≤ e1) = false := decide_eq_false hle
       have HB7 := Lib.hid (HB3.out.trans (HB5.out.mono HB3.out.size))
       have hlt := HLT.out
       clear hle HB5
       go_wp2_with fail
       go_roundw
       case rel => exact ⟨k + 1, by go_num, by omega, HB7.out⟩
       case measure => simp [intOf]; omega
  · skip
    have hd1 : decide ((k : Int) < 30) = false := decide_eq_false (by omega)
    have hd1n : decide (k < 30) = false := decide_eq_false hlt
    clear hlt
    go_wp2_with fail
    refine (foSame_any HC.out wo 3 none 0 0 [] (fo_nil wo 3 (by decide) (by decide)) 3 5 true).mono ?_
    rintro e wa ⟨rfl, hb⟩
    have HBa := Lib.hid (HB.out.trans (hb.mono HB.out.size))
    clear hb HB
    go_wp2_with fail
    refine (foAll_any HC.out wa 9 none 0 0 [] (fo_nil wa 9 (by decide) (by decide))).mono ?_
    rintro e wb ⟨rfl, hb⟩
    have HBb := Lib.hid (HBa.out.trans (hb.mono HBa.out.size))
    clear hb HBa
    go_wp2_with fail
    refine (HK.out wb).mono ?_
    rintro e wc ⟨rfl, hb⟩
    have HBc := Lib.hid (HBb.out.trans (hb.mono HBb.out.size))
    clear hb HBb
    go_wp2_with fail
    go_ret
    exact ⟨rfl, HBc.out⟩
end Go.Proofs.Ytipaebflkebdjaa
namespace Go.Proofs.Ytipaebflkebdjaa
open Go.RowKit
open Go.FoMath
open Go.ProdMath
open Go.BatMath hiding AllB getD_lt take_all In64
set_option linter.unusedVariables false

set_option maxRecDepth 100000 in
set_option maxHeartbeats 8000000 in
theorem foBegins_any (C : FoCode) (K : ∀ W, Calls Try.prog 13 #[] W (GivesBool W true)) (w : World) (tad : Option Addr) (tlen tcap : Nat) (tz : List Int) (ht : Nums w tad tlen tz) (htl : tlen ≤ 140737488355328) (n0 : Int) (hn0 : In64 n0) :
 Calls Try.prog 6 #[.slice tad tlen tcap, .int .i64 n0] w (GivesBool w true) := by
 have HC := Lib.hid C
 have HK := Lib.hid K
 have HT := Lib.hid ht
 clear C K ht
 go_enter Try.func6, Try.ntmps6
 go_wp2_with fail
 refine (abRow_any w tad tlen tcap tz HT.out htl 20 (by decide)).mono ?_
 rintro e w1 ⟨ad, len, cap, ms, rfl, hba, hok, hrd, hlen, hb⟩
 have HM : Hid (FoBats w1 0 ad len cap ms) := ⟨hba, by omega, hrd, by decide, by decide⟩
 have HB1 := Lib.hid hb
 have hfit := hba.row.fits
 clear hba hok hrd hb
 go_wp2_with fail
 refine (within_any n0 (len : Int) w1 hn0 ⟨by omega, by omega⟩).mono ?_
 rintro e W1X ⟨k, rfl, hk, rfl⟩
 have hkl : k ≤ len := by omega
 have hsu : ∀ V, (Instr.slice 22 (.slice ad len cap) none (some (.int .i64 (k : Int))) none).run Try.prog V = .ok (.slice ad k cap) V := row_upto batK_ok _ len cap k (Nat.le_trans hkl hfit)
 obtain ⟨hmono, hend, rest, hrest⟩ := row_begins HM.out.row (by decide) k
 have HMK := Lib.hid (HM.out.take k hkl)
 have HBT : Hid (bats (ms.take k) = (bats ms).take k) := bats_take ms k
 obtain ⟨ca, hca⟩ : ∃ x, x = committedD 0 (bats (ms.take k)) := ⟨_, rfl⟩
 obtain ⟨cb, hcb⟩ : ∃ x, x = committedD 0 (bats ms) := ⟨_, rfl⟩
 obtain ⟨s1, hs1⟩ : ∃ x, x = stableD 0 (bats (ms.take k)) := ⟨_, rfl⟩
 obtain ⟨s2, hs2⟩ : ∃ x, x = stableD 0 (bats ms) := ⟨_, rfl⟩
 obtain ⟨e1, he1⟩ : ∃ x, x = endD 0 (bats (ms.take k)) := ⟨_, rfl⟩
 obtain ⟨e2, he2⟩ : ∃ x, x = endD 0 (bats ms) := ⟨_, rfl⟩
 have HR : Hid (cb = ca ++ rest) := by show _ = _; rw [hca, hcb, HBT.out]; exact hrest
 have hds : decide (s1 ≤ s2) = true := decide_eq_true (by rw [hs1, hs2, HBT.out]; exact hmono)
 have hde : decide (e1 ≤ e2) = true := decide_eq_true (by rw [he1, he2, HBT.out]; exact hend)
 have HFEW : Hid (cb.length ≤ 80000) := by show _ ≤ _; rw [hcb]; exact comm_few HM.out
 have HCA := Lib.hid hca
 have HCB := Lib.hid hcb
 have HS1 := Lib.hid hs1
 have HS2 := Lib.hid hs2
 have HE1 := Lib.hid he1
 have HE2 := Lib.hid he2
 clear hk hmono hend hrest hca hcb hs1 hs2 he1 he2 hfit
 go_wp2_with fail
 refine (HC.out.committed w1 0 ad k cap (ms.take k) HMK.out).mono ?_
 rintro e w2 ⟨aa, an, ac, rfl, ha, -, hb⟩
 rw [← HCA.out] at ha
 have HA := Lib.hid ha
 have han : ca.length = an := ha.length
 have HB2 := Lib.hid (HB1.out.trans (hb.mono HB1.out.size))
 have HM2 := Lib.hid (HM.out.keep hb)
 have HMK2 := Lib.hid (HMK.out.keep hb)
 clear ha hb HM HMK
 go_wp2_with fail
 refine (HC.out.committed w2 0 ad len cap ms HM2.out).mono ?_
 rintro e w3 ⟨ba, bn, bc, rfl, hbw, -, hb⟩
 rw [← HCB.out] at hbw
 have hbn : cb.length = bn := hbw.length
 have hab : an ≤ bn := by rw [← han, ← hbn, HR.out, List.length_append]; omega
 have HBR := Lib.hid hbw
 have HA3 := Lib.hid (HA.out.keep hb)
 have HB3 := Lib.hid (HB2.out.trans (hb.mono HB2.out.size))
 have HM3 := Lib.hid (HM2.out.keep hb)
 have HMK3 := Lib.hid (HMK2.out.keep hb)
 have hda : decide (an ≤ bn) = true := decide_eq_true hab
 have hdai : decide ((an : Int) ≤ (bn : Int)) = true := decide_eq_true (by omega)
 have hsb : ∀ V, (Instr.slice 31 (.slice ba bn bc) none (some (.int .i64 (an : Int))) none).run Try.prog V = .ok (.slice ba an bc) V := row_upto gtK_ok _ bn bc an (Nat.le_trans hab hbw.fits)
 have HBT3 : Hid (RowAt gtK w3 ba an bc ca) := by
  have h1 := hbw.take an hab
  rw [HR.out, ← han, List.take_left] at h1
  rw [han] at h1
  exact h1
 have HCL : Hid (ca.length ≤ 1000000) := by show _ ≤ _; have := HFEW.out; omega
 clear hb hbw han hbn HA HM2 HMK2 HB2
 go_wp2_with fail
 refine (refGots_any w3 aa ba an an ac bc ca HA3.out HBT3.out HCL.out).mono ?_
 rintro e w4 ⟨rfl, hb⟩
 have HB4 := Lib.hid (HB3.out.trans (hb.mono HB3.out.size))
 have HM4 := Lib.hid (HM3.out.keep hb)
 have HMK4 := Lib.hid (HMK3.out.keep hb)
 clear hb HM3 HMK3 HB3 HA3 HBT3
 go_wp2_with fail
 refine (HC.out.stable w4 0 ad k cap (ms.take k) HMK4.out).mono ?_
 rintro e w5 ⟨rfl, hb⟩
 rw [← HS1.out]
 have HB5 := Lib.hid (HB4.out.trans (hb.mono HB4.out.size))
 have HM5 := Lib.hid (HM4.out.keep hb)
 have HMK5 := Lib.hid (HMK4.out.keep hb)
 clear hb HM4 HMK4 HB4
 go_wp2_with fail
 refine (HC.out.stable w5 0 ad len cap ms HM5.out).mono ?_
 rintro e w6 ⟨rfl, hb⟩
 rw [← HS2.out]
 have HB6 := Lib.hid (HB5.out.trans (hb.mono HB5.out.size))
 have HM6 := Lib.hid (HM5.out.keep hb)
 have HMK6 := Lib.hid (HMK5.out.keep hb)
 clear hb HM5 HMK5 HB5
 go_wp2_with fail
 refine (HC.out.end_ w6 0 ad k cap (ms.take k) HMK6.out).mono ?_
 rintro e w7 ⟨rfl, hb⟩
 rw [← HE1.out]
 have HB7 := Lib.hid (HB6.out.trans (hb.mono HB6.out.size))
 have HM7 := Lib.hid (HM6.out.keep hb)
 clear hb HM6 HMK6 HB6
 go_wp2_with fail
 refine (HC.out.end_ w7 0 ad len cap ms HM7.out).mono ?_
 rintro e w8 ⟨rfl, hb⟩
 rw [← HE2.out]
 have HB8 := Lib.hid (HB7.out.trans (hb.mono HB7.out.size))
 clear hb HM7 HB7
 go_wp2_with fail
 refine (HK.out w8).mono ?_
 rintro e w9 ⟨rfl, hb⟩
 have HB9 := Lib.hid (HB8.out.trans (hb.mono HB8.out.size))
 clear hb
 go_wp2
 go_ret
 exact ⟨rfl, HB9.out⟩
end Go.Proofs.Ytipaebflkebdjaa
namespace Go.Proofs.Ytipaebflkebdjaa
open Go.RowKit
open Go.FoMath
open Go.AbMath (withinD)
open Go.ProdMath
open Go.BatMath hiding AllB getD_lt take_all In64
set_option linter.unusedVariables false

theorem maskF (a : Int) : bits .and .i64 a 31 = a % 32 := by
 have h1 : (BitVec.ofInt 64 31).toNat = 2 ^ 5 - 1 := by decide
 have key : (BitVec.ofInt 64 a &&& BitVec.ofInt 64 31).toNat = (a % ((2 ^ 64 : Nat) : Int)).toNat % 2 ^ 5 := by
  rw [BitVec.toNat_and, BitVec.toNat_ofInt, h1, Nat.and_two_pow_sub_one_eq_mod]
 show IntKind.i64.wrap ((BitVec.ofInt 64 a &&& BitVec.ofInt 64 31).toNat : Nat) = _
 rw [key, IntKind.wrap_i64]
 omega
theorem fetch_ok {start : Int} {bs : List Bat} {o : Int} {n : Nat} {only : Bool} (h1 : 1 ≤ n) (h2 : n ≤ 64) (h3 : start ≤ o) (h4 : o ≤ endD start bs) :
 fetchD start bs o (n : Int) only = (⟨(recordsD bs o (if only = true then stableD start bs else endD start bs)).take n, if only = true then withinD (foldR [] bs) o (nextD (recordsD bs o (if only = true then stableD start bs else endD start bs)) n (if only = true then stableD start bs else endD start bs) o) else [], nextD (recordsD bs o (if only = true then stableD start bs else endD start bs)) n (if only = true then stableD start bs else endD start bs) o, stableD start bs⟩, 0) := by
 unfold fetchD
 rw [if_neg (by omega), if_neg (by omega)]
 simp only [Int.toNat_natCast]
set_option maxRecDepth 100000 in
set_option maxHeartbeats 8000000 in
theorem foParts_any (C : FoCode) (K : ∀ W, Calls Try.prog 13 #[] W (GivesBool W true)) (w : World) (tad : Option Addr) (tlen tcap : Nat) (tz : List Int) (ht : Nums w tad tlen tz) (htl : tlen ≤ 140737488355328) (fr n0 m0 : Int) (only : Bool) :
 Calls Try.prog 7 #[.slice tad tlen tcap, .int .i64 fr, .int .i64 n0, .int .i64 m0, .bool only] w (GivesBool w true) := by
 have HC := Lib.hid C
 have HK := Lib.hid K
 have HT := Lib.hid ht
 clear C K ht
 go_enter Try.func7, Try.ntmps7
 go_wp2_with fail
 refine (abRow_any w tad tlen tcap tz HT.out htl 20 (by decide)).mono ?_
 rintro e w1 ⟨ad, len, cap, ms, rfl, hba, hok, hrd, hlen, hb⟩
 have HM : Hid (FoBats w1 0 ad len cap ms) := ⟨hba, by omega, hrd, by decide, by decide⟩
 have HB1 := Lib.hid hb
 obtain ⟨en, hen⟩ : ∃ x, x = endD 0 (bats ms) := ⟨_, rfl⟩
 have hbl : (bats ms).length = len := by unfold bats; rw [List.length_map]; exact hba.row.length
 have henb : 0 ≤ en ∧ en ≤ 320 := by
  have h1 := row_end hrd
  have h2 := (row_chain hrd (by decide)).2
  rw [hbl] at h1
  rw [hen]
  omega
 obtain ⟨he0, he1⟩ := henb
 have HEN := Lib.hid hen
 clear hba hok hrd hb hbl hen
 go_wp2_with fail
 refine (HC.out.end_ w1 0 ad len cap ms HM.out).mono ?_
 rintro e w2 ⟨rfl, hb⟩
 rw [← HEN.out]
 have HB2 := Lib.hid (HB1.out.trans (hb.mono HB1.out.size))
 have HM2 := Lib.hid (HM.out.keep hb)
 have hc0 : decide (en < 0) = false := decide_eq_false (by omega)
 have hc1 : decide (1048576 < en) = false := decide_eq_false (by omega)
 clear hb HM HB1
 have hmk : bits .and .i64 fr 65535 = fr % 65536 := mask16 fr
 have hmn : bits .and .i64 n0 15 = n0 % 16 := mask4 n0
 have hmm : bits .and .i64 m0 31 = m0 % 32 := maskF m0
 obtain ⟨f0, hf0⟩ : ∃ f0 : Nat, fr % 65536 = (f0 : Int) := ⟨(fr % 65536).toNat, by omega⟩
 obtain ⟨a0, ha0⟩ : ∃ a0 : Nat, n0 % 16 = (a0 : Int) := ⟨(n0 % 16).toNat, by omega⟩
 obtain ⟨b0, hb0⟩ : ∃ b0 : Nat, m0 % 32 = (b0 : Int) := ⟨(m0 % 32).toNat, by omega⟩
 rw [hf0] at hmk
 rw [ha0] at hmn
 rw [hb0] at hmm
 have hf1 : f0 < 65536 := by omega
 have ha1 : a0 < 16 := by omega
 have hb1 : b0 < 32 := by omega
 clear hf0 ha0 hb0
 obtain ⟨enn, rfl⟩ : ∃ enn : Nat, en = (enn : Int) := ⟨en.toNat, by omega⟩
 obtain ⟨oo, hoo⟩ : ∃ oo : Nat, oo = f0 % (enn + 1) := ⟨_, rfl⟩
 have ho1 : oo ≤ enn := by have := Nat.mod_lt f0 (show 0 < enn + 1 by omega); omega
 have hot : Int.tmod (f0 : Int) ((enn : Int) + 1) = (oo : Int) := by
  rw [hoo]
  exact (Int.ofNat_tmod f0 (enn + 1)).symm
 have hoe : (f0 : Int) % ((enn : Int) + 1) = (oo : Int) := by
  rw [hoo]
  simp
 have HOO := Lib.hid hoo
 clear hoo
 obtain ⟨n1, hn1⟩ : ∃ n1, n1 = 1 + a0 := ⟨_, rfl⟩
 obtain ⟨n2, hn2⟩ : ∃ n2, n2 = n1 + b0 := ⟨_, rfl⟩
 have hw1 : (1 : Int) + (a0 : Int) = (n1 : Int) := by omega
 have hw2 : (n1 : Int) + (b0 : Int) = (n2 : Int) := by omega
 have hn11 : 1 ≤ n1 := by omega
 have hn12 : n1 ≤ n2 := by omega
 have hn13 : n2 ≤ 64 := by omega
 have HN1 := Lib.hid hn1
 have HN2 := Lib.hid hn2
 clear hn1 hn2
 obtain ⟨tp, htp⟩ : ∃ tp, tp = (if only = true then stableD 0 (bats ms) else endD 0 (bats ms)) := ⟨_, rfl⟩
 obtain ⟨rs, hrs⟩ : ∃ rs, rs = recordsD (bats ms) (oo : Int) tp := ⟨_, rfl⟩
 obtain ⟨st, hst⟩ : ∃ st, st = stableD 0 (bats ms) := ⟨_, rfl⟩
 obtain ⟨x1, hx1⟩ : ∃ x1, x1 = nextD rs n1 tp (oo : Int) := ⟨_, rfl⟩
 obtain ⟨x2, hx2⟩ : ∃ x2, x2 = nextD rs n2 tp (oo : Int) := ⟨_, rfl⟩
 have hasc : rs.Pairwise fun a b => a.off < b.off := by rw [hrs]; exact recordsD_asc HM2.out.foRow.chain
 have hin : ∀ g ∈ rs, (oo : Int) ≤ g.off ∧ g.off < tp := fun g hg => by
  rw [hrs] at hg
  have := recordsD_mem hg
  exact ⟨this.1, this.2.1⟩
 have hle : x1 ≤ x2 := by rw [hx1, hx2]; exact next_le hasc hin hn12 hn11
 have hge : (oo : Int) ≤ x1 := by rw [hx1]; exact next_ge hin
 have HPAST : Hid (∀ g ∈ rs.take n2, (oo : Int) ≤ g.off ∧ g.off < x2) := by
  show ∀ g ∈ _, _
  rw [hx2]
  exact next_past hasc hin (Nat.le_trans hn11 hn12)
 have HFEW : Hid (rs.length ≤ 80000) := by
  show _ ≤ _
  rw [hrs]
  have h1 := recordsD_few (a := (oo : Int)) (z := tp) (l := bats ms) (fun b hb => (HM2.out.foRow.few b hb).2.2)
  have h2 : (bats ms).length = len := by unfold bats; rw [List.length_map]; exact HM2.out.at_.row.length
  omega
 have HF1 : Hid (∃ ds, fetchD 0 (bats ms) (oo : Int) (n1 : Int) only = (⟨rs.take n1, ds, x1, st⟩, 0)) := by
  show ∃ ds, _
  refine ⟨if only = true then withinD (foldR [] (bats ms)) (oo : Int) x1 else [], ?_⟩
  rw [fetch_ok hn11 (Nat.le_trans hn12 hn13) (by omega) (by rw [← HEN.out]; omega), hx1, hst, hrs, htp]
 have HF2 : Hid (∃ ds, fetchD 0 (bats ms) (oo : Int) (n2 : Int) only = (⟨rs.take n2, ds, x2, st⟩, 0)) := by
  show ∃ ds, _
  refine ⟨if only = true then withinD (foldR [] (bats ms)) (oo : Int) x2 else [], ?_⟩
  rw [fetch_ok (Nat.le_trans hn11 hn12) hn13 (by omega) (by rw [← HEN.out]; omega), hx2, hst, hrs, htp]
 have hdn : decide (x2 < x1) = false := decide_eq_false (by omega)
 have hdg : decide ((oo : Int) ≤ x1) = true := decide_eq_true hge
 have hss : (st != st) = false := by simp
 clear htp hrs hst hx1 hx2 hasc hin hle hge
 go_wp2_with fail
 refine (HC.out.fetch w2 0 ad len cap ms (oo : Int) (n1 : Int) only HM2.out).mono ?_
 rintro e w3 ⟨va, rfl, hfa, hb⟩
 obtain ⟨ds1, hd1⟩ := HF1.out
 rw [hd1] at hfa ⊢
 obtain ⟨ra, rn, rc, da, dn, dc, rfl, hr1, _⟩ := hfa
 simp only at hr1 ⊢
 have HR1 := Lib.hid hr1
 have HB3 := Lib.hid (HB2.out.trans (hb.mono HB2.out.size))
 have HM3 := Lib.hid (HM2.out.keep hb)
 clear hb hd1 HF1 hr1 HM2 HB2
 go_upto_region 7 with fail
 obtain ⟨W4, hW4⟩ : ∃ y, y = w3.alloc (.cells #[.slice ra rn rc, .slice da dn dc, .int .i64 x1, .int .i64 st] 34) := ⟨_, rfl⟩
 obtain ⟨P, hP⟩ : ∃ y, y = w3.heap.size := ⟨_, rfl⟩
 have hb4 : Below w3.heap.size w3 W4 := by rw [hW4]; exact (Below.refl _ _).alloc (Nat.le_refl _) _
 have HP4 : Hid (FBox W4 P (.slice ra rn rc) (.slice da dn dc) x1 st) := by show FBox _ _ _ _ _ _; rw [hW4, hP]; exact fbox_new w3 _ _ _ _
 have HR4 := Lib.hid (HR1.out.keep hb4)
 have HB4 := Lib.hid (HB3.out.trans (hb4.mono HB3.out.size))
 have HM4 := Lib.hid (HM3.out.keep hb4)
 (try rw [← hW4, ← hP])
 clear hW4 hP hb4 HR1 HB3 HM3
 go_wp2_with fail
 refine (HC.out.fetch W4 0 ad len cap ms (oo : Int) (n2 : Int) only HM4.out).mono ?_
 rintro e w5 ⟨vb, rfl, hfb, hb⟩
 obtain ⟨ds2, hd2⟩ := HF2.out
 rw [hd2] at hfb ⊢
 obtain ⟨qa, qn, qc, ea, en2, ec, rfl, hr2, _⟩ := hfb
 simp only at hr2 ⊢
 have HQ5 := Lib.hid hr2
 have HR5 := Lib.hid (HR4.out.keep hb)
 have HP5 := Lib.hid (HP4.out.on hb)
 have HB5 := Lib.hid (HB4.out.trans (hb.mono HB4.out.size))
 clear hb hd2 HF2 hr2 HR4 HB4 HM4 HP4
 go_upto_region 8 with fail
 obtain ⟨W6, hW6⟩ : ∃ y, y = w5.alloc (.cells #[.slice qa qn qc, .slice ea en2 ec, .int .i64 x2, .int .i64 st] 34) := ⟨_, rfl⟩
 obtain ⟨Q, hQ⟩ : ∃ y, y = w5.heap.size := ⟨_, rfl⟩
 have hb6 : Below w5.heap.size w5 W6 := by rw [hW6]; exact (Below.refl _ _).alloc (Nat.le_refl _) _
 have HX6 : Hid (FBox W6 Q (.slice qa qn qc) (.slice ea en2 ec) x2 st) := by show FBox _ _ _ _ _ _; rw [hW6, hQ]; exact fbox_new w5 _ _ _ _
 have HR6 := Lib.hid (HR5.out.keep hb6)
 have HQ6 := Lib.hid (HQ5.out.keep hb6)
 have HP6 := Lib.hid (HP5.out.on hb6)
 have HB6 := Lib.hid (HB5.out.trans (hb6.mono HB5.out.size))
 (try rw [← hW6, ← hQ])
 clear hW6 hQ hb6 HR5 HB5 HP5 HQ5
 have hrn : (rs.take n1).length = rn := HR6.out.length
 have hqn : (rs.take n2).length = qn := HQ6.out.length
 rw [List.length_take] at hrn hqn
 have hrq : rn ≤ qn := by omega
 have hdq : decide (qn < rn) = false := decide_eq_false (by omega)
 have hdqi : decide ((qn : Int) < (rn : Int)) = false := decide_eq_false (by omega)
 have hqc := HQ6.out.fits
 have hsl : ∀ V, (Instr.slice 31 (.slice qa qn qc) none (some (.int .i64 (rn : Int))) none).run Try.prog V = .ok (.slice qa rn qc) V := row_upto gtK_ok _ qn qc rn (Nat.le_trans hrq hqc)
 have hqb : qn ≤ 64 := by omega
 have HQT : Hid (RowAt gtK W6 qa rn qc (rs.take n1)) := by
  have h1 := HQ6.out.take rn hrq
  rw [List.take_take] at h1
  have h2 : (rs.take (min rn n2)) = rs.take n1 := by
   rcases Nat.le_total rs.length n1 with h3 | h3
   · rw [List.take_of_length_le h3, List.take_of_length_le (by omega)]
   · have : min rn n2 = n1 := by omega
     rw [this]
  rw [h2] at h1
  exact h1
 have HTL : Hid ((rs.take n1).length ≤ 1000000) := by show _ ≤ _; rw [List.length_take]; have := HFEW.out; omega
 have KS : Hid (∀ V, Below W6.heap.size W6 V → (fun (V : World) => V.cell? ⟨P, 0, none⟩ = some (.slice ra rn rc) ∧ V.cell? ⟨P, 2, none⟩ = some (.int .i64 x1) ∧ V.cell? ⟨P, 3, none⟩ = some (.int .i64 st) ∧ V.cell? ⟨Q, 0, none⟩ = some (.slice qa qn qc) ∧ V.cell? ⟨Q, 2, none⟩ = some (.int .i64 x2) ∧ V.cell? ⟨Q, 3, none⟩ = some (.int .i64 st)) V) := fun V hV => ⟨(HP6.out.on hV).c0, (HP6.out.on hV).c2, (HP6.out.on hV).c3, (HX6.out.on hV).c0, (HX6.out.on hV).c2, (HX6.out.on hV).c3⟩
 have hdrw : Below W6.heap.size W6 W6.drew := (Below.refl _ W6).drew
 clear hrn hqn hqc
 refine wp_region_noPanic ?_
 refine wp_region_z [] (fun (V : World) => V.cell? ⟨P, 0, none⟩ = some (.slice ra rn rc) ∧ V.cell? ⟨P, 2, none⟩ = some (.int .i64 x1) ∧ V.cell? ⟨P, 3, none⟩ = some (.int .i64 st) ∧ V.cell? ⟨Q, 0, none⟩ = some (.slice qa qn qc) ∧ V.cell? ⟨Q, 2, none⟩ = some (.int .i64 x2) ∧ V.cell? ⟨Q, 3, none⟩ = some (.int .i64 st)) (by kernel_rfl) ?_
 have hHeld := KS.out _ hdrw
 obtain ⟨u0, hu⟩ : ∃ u, u = W6.drew := ⟨_, rfl⟩
 rw [← hu] at hHeld hdrw
 rw [← hu]
 clear hu
 have HU := Lib.hid hdrw
 clear hdrw
 refine zt 0 ?_
 refine zt 1 ?_
 refine zt 2 ?_
 refine zt 3 ?_
 refine zt 4 ?_
 refine zt 5 ?_
 refine zt 6 ?_
 refine zt 7 ?_
 refine zt 8 ?_
 refine zt 9 ?_
 refine zt 10 ?_
 refine zt 11 ?_
 refine zt 12 ?_
 refine zt 13 ?_
 refine zt 14 ?_
 refine zt 15 ?_
 refine zt 16 ?_
 refine zt 17 ?_
 refine zt 18 ?_
 refine zt 19 ?_
 refine zt 20 ?_
 refine zt 21 ?_
 refine zt 22 ?_
 refine zt 23 ?_
 refine zr 24 (fun C hC => ?_)
 go_simp
 refine (refGots_any u0 ra qa rn rn rc qc (rs.take n1) (HR6.out.keep HU.out) (HQT.out.keep HU.out) HTL.out).mono ?_
 rintro e uf ⟨rfl, hb⟩
 replace HU := Lib.hid (HU.out.trans (hb.mono HU.out.size))
 clear hb
 have hHeld := KS.out _ HU.out
 refine zc hC hHeld ?_
 clear hC C
 refine zt 25 ?_
 refine zt 26 ?_
 refine zt 27 ?_
 refine zt 28 ?_
 refine zt 29 ?_
 refine zt 30 ?_
 refine zt 31 ?_
 refine zt 32 ?_
 refine zt 33 ?_
 refine zt 34 ?_
 refine zt 35 ?_
 refine zt 36 ?_
 refine zt 37 ?_
 refine zt 38 ?_
 refine zt 39 ?_
 refine zt 40 ?_
 refine wpAnyZ_done (by kernel_rfl) ?_ _
 refine NoPanic.normal ?_
 clear hHeld KS
 have HB8 := Lib.hid (HB6.out.trans (HU.out.mono HB6.out.size))
 have HX8 := Lib.hid (HX6.out.on HU.out)
 have HP8 := Lib.hid (HP6.out.on HU.out)
 have HQ8 := Lib.hid (HQ6.out.keep HU.out)
 clear HB6 HX6 HP6 HQ6 HU HR6 HQT
 have y0 := HX8.out.c0
 go_wp2
 clear y0
 go_loopw [102] (fun v102 wr => ∃ i : Nat, v102 = .int .i64 (i : Int) ∧ i ≤ qn ∧ Hid (Below uf.heap.size uf wr)) (fun v102 _ => qn - (intOf v102).toNat)
 case atStart => exact ⟨0, rfl, Nat.zero_le _, Below.refl _ _⟩
 case round =>
  obtain ⟨i, rfl, hi, HBB⟩ := hrel
  obtain ⟨wi, hwi⟩ : ∃ wi : World, wi = wr := ⟨_, rfl⟩
  subst hwi
  by_cases hit : i < qn
  · have hdi : decide (i < qn) = true := decide_eq_true hit
    have hil : (i : Int) < (qn : Int) := by omega
    obtain ⟨gb, go2, g, el, hgb, hg, hga⟩ := gt_get (HQ8.out.keep HBB.out) hit
    subst el
    have hp := HPAST.out g (List.mem_of_getElem? hg)
    obtain ⟨g0, gp, gk, gv⟩ := g
    have k0 := hga.c0
    have k1 := hga.c1
    have k2 := hga.c2
    have k3 := hga.c3
    simp only at k0 k1 k2 k3 hp
    have hd1 : decide (g0 < (oo : Int)) = false := decide_eq_false (by omega)
    have hd2 : decide (x2 ≤ g0) = false := decide_eq_false (by omega)
    clear hg hga hp hgb
    go_upto_region 13 with fail
    obtain ⟨W9, hW9⟩ : ∃ y, y = wi.alloc (.cells #[.int .i64 g0, .int .i64 gp, .string gk, .string gv] 61) := ⟨_, rfl⟩
    obtain ⟨G, hG⟩ : ∃ y, y = wi.heap.size := ⟨_, rfl⟩
    have hb9 : Below wi.heap.size wi W9 := by rw [hW9]; exact (Below.refl _ _).alloc (Nat.le_refl _) _
    have hgx : W9.heap[G]? = some (.cells #[.int .i64 g0, .int .i64 gp, .string gk, .string gv] 61 (0, 0)) := by rw [hW9, hG]; exact heap_alloc_new wi _
    have HB9 := Lib.hid (HBB.out.trans (hb9.mono HBB.out.size))
    (try rw [← hW9, ← hG])
    clear hW9 hG hb9 k0 k1 k2 k3
    have e0 : W9.cell? ⟨G, 0, none⟩ = some (.int .i64 g0) := by rw [cell_of_row _ _ 0 _ _ _ hgx]; rfl
    have y2 := (HX8.out.on HB9.out).c2
    clear hgx
    go_wp2
    go_roundw
    case rel => exact ⟨i + 1, rfl, hit, HB9.out⟩
    case measure => simp [intOf]; omega
  · have hdi : decide (i < qn) = false := decide_eq_false hit
    have z2 := (HP8.out.on HBB.out).c2
    go_wp2_with fail
    refine (HK.out wi).mono ?_
    rintro e w10 ⟨rfl, hb⟩
    have HB10 := Lib.hid ((HB8.out.trans (HBB.out.mono HB8.out.size)).trans (hb.mono (HB8.out.trans (HBB.out.mono HB8.out.size)).size))
    clear hb z2
    go_wp2
    go_ret
    exact ⟨rfl, HB10.out⟩
end Go.Proofs.Ytipaebflkebdjaa
