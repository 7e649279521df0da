/- Chapter 10's law: a later epoch begins with 0, and knows nothing of the one ahead of it. -/
import Derived.Test.YtinilkkpocnnpaaKa5
import Derived.Test.YtinilkkpocnnpaaKa2
namespace Go.Proofs.Ytinilkkpocnnpaa
open Go.RowKit
open Go.SeqMath
open Go.ProdMath
open Go.BatMath hiding AllB getD_lt take_all
set_option linter.unusedVariables false

theorem last_one {s : Int} (h0 : 0 ≤ s) (h1 : s < 2147483648) : lastI s 1 = s := by
  rw [last_yes (by decide) (by decide), add_yes h0 (by omega)]; omega
/-- A new box of a batch, of a producer; a new record. -/
theorem box_new (w : World) (b0 b1 b2 b3 : Int) (b4 : Bool) (b5 : Int) (v : Value) : ∃ W, W = w.alloc (.cells #[.int .i64 b0, .int .i64 b1, .int .i64 b2, .int .i64 b3, .bool b4, .int .i64 b5, v] 33) ∧ Below w.heap.size w W ∧ BoxAt W w.heap.size b0 b1 b2 b3 b4 b5 v ∧ W.heap.size = w.heap.size + 1 := ⟨_, rfl, (Below.refl _ _).alloc (Nat.le_refl _) _, boxAt_new w _ _ _ _ _ _ _, by simp⟩
theorem pd_new (w : World) (b0 b1 : Int) (v : Value) (b3 : Int) : ∃ W, W = w.alloc (.cells #[.int .i64 b0, .int .i64 b1, v, .int .i64 b3] 40) ∧ Below w.heap.size w W ∧ PBox W w.heap.size b0 b1 v b3 ∧ W.heap.size = w.heap.size + 1 := ⟨_, rfl, (Below.refl _ _).alloc (Nat.le_refl _) _, pbox_new w _ _ _ _, by simp⟩
theorem one_rec (w : World) : ∃ W, W = w.alloc (.cells #[.string ⟨#[]⟩, .string ⟨#[]⟩] 48) ∧ Below w.heap.size w W ∧ RecsAt W (some ⟨w.heap.size, 0, none⟩) 1 1 [Rc.nil] ∧ W.heap.size = w.heap.size + 1 := ⟨_, rfl, (Below.refl _ _).alloc (Nat.le_refl _) _, recs_nil w 1 (by decide), by simp⟩
set_option maxRecDepth 100000 in
set_option maxHeartbeats 4000000 in
theorem prEpochs_any (w : World) (x0 x1 x2 : Int) (h0 : -9223372036854775808 ≤ x0 ∧ x0 ≤ 9223372036854775807) (h1 : -9223372036854775808 ≤ x1 ∧ x1 ≤ 9223372036854775807) :
    Calls Try.prog 6 #[.int .i64 x0, .int .i64 x1, .int .i64 x2] w (GivesBool w true) := by
  obtain ⟨s, hs⟩ : ∃ s, bits .and .i64 x2 2147483647 = s := ⟨_, rfl⟩
  have HS : Hid (0 ≤ s ∧ s < 2147483648) := by show _ ∧ _; rw [mask31] at hs; omega
  obtain ⟨t, ht⟩ : ∃ t, bits .and .i64 x2 65535 = t := ⟨_, rfl⟩
  have ht0 : 0 ≤ t ∧ t < 65536 := by rw [mask16] at ht; omega
  go_enter Try.func6, Try.ntmps6
  go_wp2_with fail
  refine (within_any x0 900 w h0 (by decide)).mono ?_
  rintro e w0 ⟨k, rfl, hk, rfl⟩
  go_wp2_with fail
  refine (within_any x1 900 w h1 (by decide)).mono ?_
  rintro e w0 ⟨m, rfl, hm, rfl⟩
  go_upto_region 3 with fail
  obtain ⟨y, hy⟩ : ∃ y : Int, y = (k : Int) + 1 + (m : Int) := ⟨_, rfl⟩
  have HY : Hid ((k : Int) < y) := by show _ < _; omega
  rw [← hy]
  clear hy hk hm h0 h1
  obtain ⟨W1, hW1, hb1, hr1, _⟩ := one_rec w
  have HB : Hid (Below w.heap.size w W1) := hb1
  have e1 : applyD ⟨0, 0, [], 0⟩ false ⟨1, 2, (k : Int), s, false, 0, [Rc.nil]⟩ = ⟨2, (k : Int), [⟨s, s, 1⟩], -1⟩ := by
    have := last_one HS.out.1 HS.out.2
    simp [applyD, oldLast, oldOpen, newLast, this]
  have E1 := Lib.hid e1
  have HW1 := Lib.hid hW1
  clear hb1 hr1 hW1 e1
  go_wp2_with fail
  rw [← HW1.out]
  refine (prApply_any W1 0 0 0 [] none 0 0 (rowAt_nil _) (by omega) false 1 2 k s false 0 [Rc.nil] (some ⟨w.heap.size, 0, none⟩) 1 1 rfl (by omega) _ E1.out).mono ?_
  rintro e w2 ⟨ad, n, cap, rfl, hrow, _, hb2⟩
  have hn : n = 1 := by have := hrow.length; simp at this; omega
  subst hn
  obtain ⟨W2, hW2, hb3, hp2, szp⟩ := pd_new w2 2 (k : Int) (.slice ad 1 cap) (-1)
  obtain ⟨B2, hB2⟩ : ∃ B, B = w2.heap.size := ⟨_, rfl⟩
  obtain ⟨WR, hWR, hbr, hrr, szr⟩ := one_rec W2
  obtain ⟨G, hG⟩ : ∃ G, G = W2.heap.size := ⟨_, rfl⟩
  obtain ⟨B4, hB4⟩ : ∃ B, B = W2.heap.size + 1 := ⟨_, rfl⟩
  obtain ⟨WX, hWX, hbx, hx, _⟩ := box_new WR 2 2 y (1 + t) false 0 (.slice (some ⟨G, 0, none⟩) 1 1)
  rw [szr, ← hB4] at hx
  rw [← hB2] at hp2
  rw [← hG] at hrr
  have HX := Lib.hid hx
  have HP := Lib.hid (hp2.on hbr)
  have HR := Lib.hid ((hrow.keep hb3).keep hbr)
  have HC := Lib.hid hrr
  replace HB := Lib.hid (((HB.out.trans (hb2.mono HB.out.size)).trans (hb3.mono (HB.out.trans (hb2.mono HB.out.size)).size)).trans (hbr.mono ((HB.out.trans (hb2.mono HB.out.size)).trans (hb3.mono (HB.out.trans (hb2.mono HB.out.size)).size)).size))
  have HN := Lib.hid hbx
  have HBL : Hid (WR.heap.size ≤ B4) := by show _ ≤ _; omega
  have HW2 := Lib.hid hW2
  have HWR := Lib.hid hWR
  have HWX := Lib.hid hWX
  have HG : Hid (G = B2 + 1) := by show _ = _; omega
  have HB4 : Hid (B4 = B2 + 1 + 1) := by show _ = _; omega
  have HB2 := Lib.hid hB2
  clear HW1 E1 hrow hb2 hb3 hW2 hp2 hWR hbr hrr szr szp hG hB4 hWX hbx hx hB2
  go_upto_region 5 with fail
  rw [← HB2.out, ← HB4.out, ← HG.out, ← HW2.out, ← HWR.out, ← HWX.out]
  clear HB2 HW2 HWR HB4 HG HWX
  have hp := HP.out.on HN.out
  have q0 := hp.c0
  have q1 := hp.c1
  have q2 := hp.c2
  have q3 := hp.c3
  clear hp
  have p0 := HX.out.c0
  have p1 := HX.out.c1
  have p2 := HX.out.c2
  have p3 := HX.out.c3
  have p4 := HX.out.c4
  have p5 := HX.out.c5
  have p6 := HX.out.c6
  have e2 : checkD ⟨2, (k : Int), [⟨s, s, 1⟩], -1⟩ true ⟨2, 2, y, 1 + t, false, 0, [Rc.nil]⟩ = (-1, 15) := by
    have h1 : ¬ y < (k : Int) := by have := HY.out; omega
    have h2 : 1 + t ≠ 0 := by omega
    simp [checkD, h1, HY.out, h2]
  have E2 := Lib.hid e2
  clear e2
  go_wp2_with fail
  refine (prCheck_any WX 2 k (-1) [⟨s, s, 1⟩] ad 1 cap (HR.out.keep HN.out) (by omega) true 2 2 y (1 + t) false 0 [Rc.nil] (some ⟨G, 0, none⟩) 1 1 rfl (by omega) (-1, 15) E2.out).mono ?_
  rintro e w5 ⟨rfl, hb5⟩
  replace HN := Lib.hid (HN.out.trans (hb5.mono HN.out.size))
  replace HX := Lib.hid (HX.out.on hb5)
  clear hb5 E2 ht ht0
  clear q0 q1 q2 q3
  clear p0 p1 p2 p3 p4 p5 p6
  have p3 := HX.out.c3
  have f3 := HX.out.free 3
  go_upto_region 7 with fail
  obtain ⟨W6, hW6⟩ : ∃ W, W = w5.setCell ⟨B4, 3, none⟩ (.int .i64 0) := ⟨_, rfl⟩
  replace HN : Hid (Below WR.heap.size WR W6) := by show Below _ _ _; rw [hW6]; exact HN.out.setCell HBL.out _
  replace HX : Hid (BoxAt W6 B4 2 2 y 0 false 0 (.slice (some ⟨G, 0, none⟩) 1 1)) := by show BoxAt _ _ _ _ _ _ _ _ _; rw [hW6]; exact HX.out.s3 0
  rw [← hW6]
  clear hW6 p3 f3
  have hp := HP.out.on HN.out
  have q0 := hp.c0
  have q1 := hp.c1
  have q2 := hp.c2
  have q3 := hp.c3
  clear hp
  have p0 := HX.out.c0
  have p1 := HX.out.c1
  have p2 := HX.out.c2
  have p3 := HX.out.c3
  have p4 := HX.out.c4
  have p5 := HX.out.c5
  have p6 := HX.out.c6
  have e2 : checkD ⟨2, (k : Int), [⟨s, s, 1⟩], -1⟩ true ⟨2, 2, y, 0, false, 0, [Rc.nil]⟩ = (-1, 0) := by
    have h1 : ¬ y < (k : Int) := by have := HY.out; omega
    simp [checkD, h1, HY.out]
  have e3 : applyD ⟨2, (k : Int), [⟨s, s, 1⟩], -1⟩ true ⟨2, 2, y, 0, false, 0, [Rc.nil]⟩ = ⟨2, y, [⟨0, 0, 2⟩], -1⟩ := by
    have h1 : ¬ (k : Int) = y := by have := HY.out; omega
    have h2 := last_one (s := 0) (by decide) (by decide)
    simp [applyD, oldLast, oldOpen, newLast, h1, h2]
  have e4 : checkD ⟨2, y, [⟨0, 0, 2⟩], -1⟩ true ⟨3, 2, (k : Int), s, false, 0, [Rc.nil]⟩ = (-1, 14) := by
    simp [checkD, HY.out]
  have E2 := Lib.hid e2
  have E3 := Lib.hid e3
  have E4 := Lib.hid e4
  clear e2 e3 e4
  go_wp2_with fail
  refine (prCheck_any W6 2 k (-1) [⟨s, s, 1⟩] ad 1 cap (HR.out.keep HN.out) (by omega) true 2 2 y 0 false 0 [Rc.nil] (some ⟨G, 0, none⟩) 1 1 rfl (by omega) (-1, 0) E2.out).mono ?_
  rintro e w7 ⟨rfl, hb7⟩
  replace HN := Lib.hid (HN.out.trans (hb7.mono HN.out.size))
  replace HX := Lib.hid (HX.out.on hb7)
  clear hb7 E2
  clear q0 q1 q2 q3
  clear p0 p1 p2 p3 p4 p5 p6
  have hp := HP.out.on HN.out
  have q0 := hp.c0
  have q1 := hp.c1
  have q2 := hp.c2
  have q3 := hp.c3
  clear hp
  have p0 := HX.out.c0
  have p1 := HX.out.c1
  have p2 := HX.out.c2
  have p3 := HX.out.c3
  have p4 := HX.out.c4
  have p5 := HX.out.c5
  have p6 := HX.out.c6
  go_wp2_with fail
  refine (prApply_any w7 2 k (-1) [⟨s, s, 1⟩] ad 1 cap (HR.out.keep HN.out) (by omega) true 2 2 y 0 false 0 [Rc.nil] (some ⟨G, 0, none⟩) 1 1 rfl (by omega) _ E3.out).mono ?_
  rintro e w8 ⟨ad8, n8, cap8, rfl, hrow, _, hb8⟩
  have hn : n8 = 1 := by have := hrow.length; simp at this; omega
  subst hn
  obtain ⟨W8, hW8, hb9, hp8, szp⟩ := pd_new w8 2 y (.slice ad8 1 cap8) (-1)
  obtain ⟨B8, hB8⟩ : ∃ B, B = w8.heap.size := ⟨_, rfl⟩
  obtain ⟨WS, hWS, hbs, hrs, szs⟩ := one_rec W8
  obtain ⟨G9, hG9⟩ : ∃ G, G = W8.heap.size := ⟨_, rfl⟩
  obtain ⟨B9, hB9⟩ : ∃ B, B = W8.heap.size + 1 := ⟨_, rfl⟩
  obtain ⟨WY, hWY, hby, hy9, _⟩ := box_new WS 3 2 (k : Int) s false 0 (.slice (some ⟨G9, 0, none⟩) 1 1)
  rw [szs, ← hB9] at hy9
  rw [← hB8] at hp8
  replace HX := Lib.hid hy9
  replace HP := Lib.hid ((hp8.on hbs).on hby)
  replace HR := Lib.hid (((hrow.keep hb9).keep hbs).keep hby)
  have hbb := HB.out.trans (HN.out.mono HB.out.size)
  have hbb2 := hbb.trans (hb8.mono hbb.size)
  have hbb3 := hbb2.trans (hb9.mono hbb2.size)
  have hbb4 := hbb3.trans (hbs.mono hbb3.size)
  replace HB := Lib.hid (hbb4.trans (hby.mono hbb4.size))
  have HW8 := Lib.hid hW8
  have HWS := Lib.hid hWS
  have HWY := Lib.hid hWY
  have HG9 : Hid (G9 = B8 + 1) := by show _ = _; omega
  have HB9 : Hid (B9 = B8 + 1 + 1) := by show _ = _; omega
  have HB8 := Lib.hid hB8
  clear hrow hb8 hb9 hW8 hp8 hWS hbs hrs szs szp hG9 hB9 hWY hby hy9 hB8 hbb hbb2 hbb3 hbb4 HN HC HBL E3
  clear q0 q1 q2 q3
  clear p0 p1 p2 p3 p4 p5 p6
  go_upto_region 10 with fail
  rw [← HB8.out, ← HB9.out, ← HG9.out, ← HW8.out, ← HWS.out, ← HWY.out]
  clear HB8 HW8 HWS HB9 HG9 HWY
  have q0 := HP.out.c0
  have q1 := HP.out.c1
  have q2 := HP.out.c2
  have q3 := HP.out.c3
  have p0 := HX.out.c0
  have p1 := HX.out.c1
  have p2 := HX.out.c2
  have p3 := HX.out.c3
  have p4 := HX.out.c4
  have p5 := HX.out.c5
  have p6 := HX.out.c6
  clear hs
  go_wp2_with fail
  refine (prCheck_any WY 2 y (-1) [⟨0, 0, 2⟩] ad8 1 cap8 HR.out (by omega) true 3 2 k s false 0 [Rc.nil] (some ⟨G9, 0, none⟩) 1 1 rfl (by omega) (-1, 14) E4.out).mono ?_
  rintro e w9 ⟨rfl, hb9⟩
  replace HP := Lib.hid (HP.out.on hb9)
  replace HB := Lib.hid (HB.out.trans (hb9.mono HB.out.size))
  clear hb9 E4 HX HR
  clear q0 q1 q2 q3
  clear p0 p1 p2 p3 p4 p5 p6
  have q0 := HP.out.c0
  have q1 := HP.out.c1
  have q2 := HP.out.c2
  have q3 := HP.out.c3
  have hyy : (y == y) = true := by simp
  go_wp2_with fail
  refine (known10_any w9).mono ?_
  rintro e w10 ⟨rfl, hb10⟩
  replace HB := Lib.hid (HB.out.trans (hb10.mono HB.out.size))
  clear hb10
  go_wp2
  go_ret
  exact gives_bool rfl HB.out
end Go.Proofs.Ytinilkkpocnnpaa
