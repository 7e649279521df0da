/- The code's own first, end. The code's own Scan. The code's own Cut. The code's own segment. -/
import Derived.Test.YtlcnpeodhfdhlaaGPlain
import Derived.Test.YtlcnpeodhfdhlaaBatCodeB
import Derived.Test.YtlcnpeodhfdhlaaRegionZ
import Derived.Test.YtlcnpeodhfdhlaaGSegA
import Derived.Test.YtlcnpeodhfdhlaaGIxB
/-! The code's own first, end. -/
namespace Go.Proofs.Ytlcnpeodhfdhlaa
open Go.RowKit
open Go.ProdMath
open Go.SegMath
open Go.IxMath
open Go.BatMath hiding AllB getD_lt take_all
set_option linter.unusedVariables false

/-- What first gives. -/
def GivesFirst (w : World) (base : Int) (p : List Nat) (e : Ending) (w' : World) : Prop :=
  ∃ (b : Bat) (n : Nat) (ad : Option Addr) (cap : Nat), e = .returned (.tuple #[.agg #[.int .i64 b.base, .int .i64 b.prod, .int .i64 b.epoch, .int .i64 b.seq, .bool b.txn, .int .i64 b.marker, .slice ad b.recs.length cap], .int .i64 (n : Nat)]) ∧
    ((n = 0 ∧ ∀ x, BatMath.Good p x → x.base ≠ base) ∨ (BatMath.Good p b ∧ b.base = base ∧ n = (bytesB b).length)) ∧ RecsAt w' ad b.recs.length cap b.recs ∧ (∀ a, ad = some a → w.heap.size ≤ a.block) ∧ Below w.heap.size w w'
theorem gives_first0 {w w' : World} {base : Int} {p : List Nat} (h : ∀ x, BatMath.Good p x → x.base ≠ base) (hb : Below w.heap.size w w') : GivesFirst w base p (.returned (.tuple #[.agg #[.int .i64 0, .int .i64 0, .int .i64 0, .int .i64 0, .bool false, .int .i64 0, .slice none 0 0], .int .i64 0])) w' :=
  ⟨Bat.zero, 0, none, 0, rfl, .inl ⟨rfl, h⟩, recsAt_nil _, (fun a h => by cases h), hb⟩
theorem gives_first1 {w w' : World} {base : Int} {p : List Nat} {b : Bat} {n : Nat} {ad : Option Addr} {rn cap : Nat} (hg : BatMath.Good p b) (he : b.base = base) (hn : n = (bytesB b).length) (hrn : rn = b.recs.length) (hr : RecsAt w' ad rn cap b.recs) (hk : ∀ a, ad = some a → w.heap.size ≤ a.block) (hb : Below w.heap.size w w') :
    GivesFirst w base p (.returned (.tuple #[.agg #[.int .i64 b.base, .int .i64 b.prod, .int .i64 b.epoch, .int .i64 b.seq, .bool b.txn, .int .i64 b.marker, .slice ad rn cap], .int .i64 (n : Int)])) w' := by
  subst hrn
  exact ⟨b, n, ad, cap, rfl, .inr ⟨hg, he, hn⟩, hr, hk, hb⟩
theorem results_cell_and {fn : Func} {p u : Tmp} {ty : TypeId} (h : fn.results = #[.cell p ty, .tmp u]) (tmps : Array Value) (P : Program) (w : World) :
    (results fn tmps).run P w =
      ((asAddr (tmps.getD p undef)).run P w).andThen fun a w₁ => ((loadVar ty a).run P w₁).andThen fun x w₂ => .ok (.tuple #[x, tmps.getD u undef]) w₂ := by
  simp only [results, h]
  simp [Sem.run_bind, Result.andThen]
theorem resultsFirst {tmps : Array Value} {B : Nat} {W : World} {b0 b1 b2 b3 : Int} {b4 : Bool} {b5 : Int} {v : Value} (h : BoxAt W B b0 b1 b2 b3 b4 b5 v) (ht : tmps.getD 4 undef = .pointer (some ⟨B, 0, none⟩)) :
    (results Try.f29 tmps).run Try.prog W = .ok (.tuple #[.agg #[.int .i64 b0, .int .i64 b1, .int .i64 b2, .int .i64 b3, .bool b4, .int .i64 b5, v], tmps.getD 5 undef]) W := by
  rw [results_cell_and (p := 4) (u := 5) (ty := 51) Try.results29, ht]
  have hl := run_loadVar_row (P := Try.prog) W B 51 51 _ (0, 0) _ h Try.underlying51 rfl (by kernel_rfl)
  simp only [asAddr, Sem.run_pure, Result.andThen, hl]
set_option maxRecDepth 100000 in
set_option maxHeartbeats 8000000 in
theorem segFirst_any (w : World) (ad : Option Addr) (len cap : Nat) (r : List Nat) (h : Byt w ad len cap r) (hL : len ≤ 100000) (z : Int) :
    Calls Try.prog 29 #[.slice ad len cap, .int .i64 z] w (GivesFirst w z r) := by
  obtain ⟨o, ho⟩ : ∃ o, o = readD r := ⟨_, rfl⟩
  have HO : Hid (BatMath.Reads r o) := by show BatMath.Reads _ _; rw [ho]; exact reads_readD h.all
  have HOD := Lib.hid ho
  have HR := Lib.hid h
  obtain ⟨W0, hW0⟩ : ∃ W0, W0 = (w.alloc (.cells #[.int .i64 0, .int .i64 0, .int .i64 0, .int .i64 0, .bool false, .int .i64 0, .slice none 0 0] 51)) := ⟨_, rfl⟩
  have HX0 := Lib.hid (show BoxAt W0 w.heap.size 0 0 0 0 false 0 (.slice none 0 0) by rw [hW0]; exact boxAt_new w _ _ _ _ _ _ _)
  have HB0 := Lib.hid (show Below w.heap.size w W0 by rw [hW0]; exact (Below.refl _ _).alloc (Nat.le_refl _) _)
  have HW0 := Lib.hid hW0
  clear h ho hW0
  go_enter Try.func29, Try.ntmps29
  go_wp2_with fail
  rw [← HW0.out]
  refine (batRead_any W0 ad len cap r (HR.out.keep HB0.out (Nat.le_refl _)) (by omega)).mono ?_
  rw [← HOD.out]
  obtain ⟨⟨b0, b1, b2, b3, b4, b5, recs⟩, on, oe⟩ := o
  rintro e w1 ⟨rd, rc, rfl, hre, hrk, hb1⟩
  simp only at hre
  have HRE := Lib.hid hre
  have HB1 := Lib.hid hb1
  obtain ⟨rn, hrn⟩ : ∃ n, n = recs.length := ⟨_, rfl⟩
  have HRN := Lib.hid hrn
  simp only
  rw [← hrn] at HRE ⊢
  have HRK : Hid (∀ a, rd = some a → W0.heap.size ≤ a.block) := hrk
  clear hre hrk hb1 hrn HOD
  go_upto_region 2 with fail
  obtain ⟨W1, hW1⟩ : ∃ z, z = w1.alloc (.cells #[.int .i64 b0, .int .i64 b1, .int .i64 b2, .int .i64 b3, .bool b4, .int .i64 b5, .slice rd rn rc] 51) := ⟨_, rfl⟩
  obtain ⟨kb, hkb⟩ : ∃ z, z = w1.heap.size := ⟨_, rfl⟩
  have hbb : Below w1.heap.size w1 W1 := by rw [hW1]; exact (Below.refl _ _).alloc (Nat.le_refl _) _
  have HX1 : Hid (BoxAt W1 kb b0 b1 b2 b3 b4 b5 (.slice rd rn rc)) := by show BoxAt _ _ _ _ _ _ _ _ _; rw [hW1, hkb]; exact boxAt_new w1 _ _ _ _ _ _ _
  have HXZ := Lib.hid ((HX0.out.on HB1.out).on hbb)
  have HBW : Hid (Below w.heap.size w W1) := HB0.out.trans ((HB1.out.trans (hbb.mono HB1.out.size)).mono HB0.out.size)
  have HRE1 := Lib.hid (HRE.out.keep hbb)
  have HBLK : Hid (∀ a, rd = some a → w.heap.size < a.block) := fun a ha => by have := HRK.out a ha; have := HX0.out.lt; omega
  rw [← hW1, ← hkb]
  clear hW1 hkb hbb HRE HB1 HX0
  have q0 := HX1.out.c0
  have q1 := HX1.out.c1
  have q2 := HX1.out.c2
  have q3 := HX1.out.c3
  have q4 := HX1.out.c4
  have q5 := HX1.out.c5
  have q6 := HX1.out.c6
  have r0 := HXZ.out.c0
  have f0 := HXZ.out.free 0
  have r1 := HXZ.out.c1
  have f1 := HXZ.out.free 1
  have r2 := HXZ.out.c2
  have f2 := HXZ.out.free 2
  have r3 := HXZ.out.c3
  have f3 := HXZ.out.free 3
  have r4 := HXZ.out.c4
  have f4 := HXZ.out.free 4
  have r5 := HXZ.out.c5
  have f5 := HXZ.out.free 5
  have r6 := HXZ.out.c6
  have f6 := HXZ.out.free 6
  by_cases he : oe = 0
  · subst he
    by_cases hbz : b0 = z
    · subst hbz
      have HG : Hid (BatMath.Good r ⟨b0, b1, b2, b3, b4, b5, recs⟩) := (HO.out.fine rfl).1
      have HNN : Hid (on = (bytesB ⟨b0, b1, b2, b3, b4, b5, recs⟩).length) := (HO.out.fine rfl).2
      go_wp2_with fail
      exact bodyPost_ret (resultsFirst (((((((HXZ.out.s0 b0).s1 b1).s2 b2).s3 b3).s4 b4).s5 b5).s6 (.slice rd rn rc)) rfl) rfl (gives_first1 (b := ⟨b0, b1, b2, b3, b4, b5, recs⟩) HG.out rfl HNN.out HRN.out (((((((HRE1.out.put HBLK.out).put HBLK.out).put HBLK.out).put HBLK.out).put HBLK.out).put HBLK.out).put HBLK.out) (fun a ha => by have := HBLK.out a ha; omega) (((((((HBW.out.setCell (Nat.le_refl _) _).setCell (Nat.le_refl _) _).setCell (Nat.le_refl _) _).setCell (Nat.le_refl _) _).setCell (Nat.le_refl _) _).setCell (Nat.le_refl _) _).setCell (Nat.le_refl _) _))
    · have hne : (b0 != z) = true := by simpa using hbz
      have hfin : ∀ b, BatMath.Good r b → b.base ≠ z := fun b hb => by
        have := (HO.out.all b hb).2
        rw [← this]
        exact hbz
      have HF := Lib.hid hfin
      clear hfin
      go_wp2_with fail
      exact bodyPost_ret (resultsFirst (((((((HXZ.out.s0 0).s1 0).s2 0).s3 0).s4 false).s5 0).s6 (.slice none 0 0)) rfl) rfl (gives_first0 HF.out (((((((HBW.out.setCell (Nat.le_refl _) _).setCell (Nat.le_refl _) _).setCell (Nat.le_refl _) _).setCell (Nat.le_refl _) _).setCell (Nat.le_refl _) _).setCell (Nat.le_refl _) _).setCell (Nat.le_refl _) _))
  · have hne : (oe != 0) = true := by simpa using he
    have hfin : ∀ b, BatMath.Good r b → b.base ≠ z := fun b hb => absurd (HO.out.all b hb).1 he
    have HF := Lib.hid hfin
    clear hfin
    go_wp2_with fail
    exact bodyPost_ret (resultsFirst (((((((HXZ.out.s0 0).s1 0).s2 0).s3 0).s4 false).s5 0).s6 (.slice none 0 0)) rfl) rfl (gives_first0 HF.out (((((((HBW.out.setCell (Nat.le_refl _) _).setCell (Nat.le_refl _) _).setCell (Nat.le_refl _) _).setCell (Nat.le_refl _) _).setCell (Nat.le_refl _) _).setCell (Nat.le_refl _) _).setCell (Nat.le_refl _) _))
set_option maxRecDepth 100000 in
set_option maxHeartbeats 4000000 in
theorem segEnd_any (w : World) (b0 b1 b2 b3 : Int) (b4 : Bool) (b5 : Int) (rd : Option Addr) (rn rc : Nat) (cnt : Int) (hn : (if b5 ≠ 0 then 1 else (rn : Int)) = cnt) (hw1 : IntKind.i64.wrap (b0 + cnt) = b0 + cnt) :
    Calls Try.prog 30 #[.agg #[.int .i64 b0, .int .i64 b1, .int .i64 b2, .int .i64 b3, .bool b4, .int .i64 b5, .slice rd rn rc]] w (Says (b0 + cnt) w) := by
  have HCN := Lib.hid hn
  clear hn
  go_enter Try.func30, Try.ntmps30
  go_upto_region 1 with fail
  obtain ⟨W1, hW1⟩ : ∃ z, z = w.alloc (.cells #[.int .i64 b0, .int .i64 b1, .int .i64 b2, .int .i64 b3, .bool b4, .int .i64 b5, .slice rd rn rc] 51) := ⟨_, rfl⟩
  obtain ⟨kb, hkb⟩ : ∃ z, z = w.heap.size := ⟨_, rfl⟩
  have HBW : Hid (Below w.heap.size w W1) := by show Below _ _ _; rw [hW1]; exact (Below.refl _ _).alloc (Nat.le_refl _) _
  have HX1 : Hid (BoxAt W1 kb b0 b1 b2 b3 b4 b5 (.slice rd rn rc)) := by show BoxAt _ _ _ _ _ _ _ _ _; rw [hW1, hkb]; exact boxAt_new w _ _ _ _ _ _ _
  rw [← hW1, ← hkb]
  clear hW1 hkb
  have hdr : Below W1.heap.size W1 W1.drew := (Below.refl _ W1).drew
  have KS : Hid (∀ V, Below W1.heap.size W1 V → (fun (V : World) => V.cell? ⟨kb, 0, none⟩ = some (.int .i64 b0) ∧ V.cell? ⟨kb, 1, none⟩ = some (.int .i64 b1) ∧ V.cell? ⟨kb, 2, none⟩ = some (.int .i64 b2) ∧ V.cell? ⟨kb, 3, none⟩ = some (.int .i64 b3) ∧ V.cell? ⟨kb, 4, none⟩ = some (.bool b4) ∧ V.cell? ⟨kb, 5, none⟩ = some (.int .i64 b5) ∧ V.cell? ⟨kb, 6, none⟩ = some (.slice rd rn rc)) V) := fun V hV => ⟨(HX1.out.on hV).c0, (HX1.out.on hV).c1, (HX1.out.on hV).c2, (HX1.out.on hV).c3, (HX1.out.on hV).c4, (HX1.out.on hV).c5, (HX1.out.on hV).c6⟩
  refine wp_region_noPanic ?_
  refine wp_region_z [] (fun (V : World) => V.cell? ⟨kb, 0, none⟩ = some (.int .i64 b0) ∧ V.cell? ⟨kb, 1, none⟩ = some (.int .i64 b1) ∧ V.cell? ⟨kb, 2, none⟩ = some (.int .i64 b2) ∧ V.cell? ⟨kb, 3, none⟩ = some (.int .i64 b3) ∧ V.cell? ⟨kb, 4, none⟩ = some (.bool b4) ∧ V.cell? ⟨kb, 5, none⟩ = some (.int .i64 b5) ∧ V.cell? ⟨kb, 6, none⟩ = some (.slice rd rn rc)) (by kernel_rfl) ?_
  have hHeld : (fun (V : World) => V.cell? ⟨kb, 0, none⟩ = some (.int .i64 b0) ∧ V.cell? ⟨kb, 1, none⟩ = some (.int .i64 b1) ∧ V.cell? ⟨kb, 2, none⟩ = some (.int .i64 b2) ∧ V.cell? ⟨kb, 3, none⟩ = some (.int .i64 b3) ∧ V.cell? ⟨kb, 4, none⟩ = some (.bool b4) ∧ V.cell? ⟨kb, 5, none⟩ = some (.int .i64 b5) ∧ V.cell? ⟨kb, 6, none⟩ = some (.slice rd rn rc)) _ := KS.out _ hdr
  obtain ⟨u0, hu0⟩ : ∃ u, u = W1.drew := ⟨_, rfl⟩
  rw [← hu0] at hHeld hdr
  rw [← hu0]
  clear hu0
  have HQ0 := Lib.hid hdr
  clear hdr
  refine wpAnyZ_take (i := 0) (oi := ⟨_, _, _, _, _, _⟩) (v := ?_) rfl (by kernel_rfl) (by kernel_rfl) (by kernel_rfl) (by kernel_rfl) (by kernel_rfl) (fun _ _ _ h => h) (Or.inl ⟨by rfl, ?_⟩) (by assumption) ?_
  rotate_left
  · intro W hSw
    (try dsimp only at hSw)
    go_simp
    (try with_reducible rfl)
  (try simp only [Act.put, List.setIfInBounds_toArray, List.set_cons_zero, List.set_cons_succ])
  refine wpAnyZ_take (i := 1) (oi := ⟨_, _, _, _, _, _⟩) (v := ?_) rfl (by kernel_rfl) (by kernel_rfl) (by kernel_rfl) (by kernel_rfl) (by kernel_rfl) (fun _ _ _ h => h) (Or.inl ⟨by rfl, ?_⟩) (by assumption) ?_
  rotate_left
  · intro W hSw
    (try dsimp only at hSw)
    go_simp
    (try with_reducible rfl)
  (try simp only [Act.put, List.setIfInBounds_toArray, List.set_cons_zero, List.set_cons_succ])
  refine wpAnyZ_take (i := 2) (oi := ⟨_, _, _, _, _, _⟩) (v := ?_) rfl (by kernel_rfl) (by kernel_rfl) (by kernel_rfl) (by kernel_rfl) (by kernel_rfl) (fun _ _ _ h => h) (Or.inl ⟨by rfl, ?_⟩) (by assumption) ?_
  rotate_left
  · intro W hSw
    (try dsimp only at hSw)
    go_simp
    (try with_reducible rfl)
  (try simp only [Act.put, List.setIfInBounds_toArray, List.set_cons_zero, List.set_cons_succ])
  refine wpAnyZ_ready (rs := [3]) (by kernel_rfl) (by simp) ?_
  refine AllReadyZ.cons (o := ⟨_, _, _, _, _, _⟩) rfl (fun C hC => ?_) AllReadyZ.nil
  go_simp
  refine (batCount_any u0 b0 b1 b2 b3 b4 b5 rd rn rc cnt HCN.out).mono ?_
  rintro e u1 ⟨rfl, hb1⟩
  have HQ1 : Hid (Below W1.heap.size W1 u1) := HQ0.out.trans (hb1.mono HQ0.out.size)
  clear hb1
  have hHeld : (fun (V : World) => V.cell? ⟨kb, 0, none⟩ = some (.int .i64 b0) ∧ V.cell? ⟨kb, 1, none⟩ = some (.int .i64 b1) ∧ V.cell? ⟨kb, 2, none⟩ = some (.int .i64 b2) ∧ V.cell? ⟨kb, 3, none⟩ = some (.int .i64 b3) ∧ V.cell? ⟨kb, 4, none⟩ = some (.bool b4) ∧ V.cell? ⟨kb, 5, none⟩ = some (.int .i64 b5) ∧ V.cell? ⟨kb, 6, none⟩ = some (.slice rd rn rc)) u1 := KS.out _ HQ1.out
  refine hC.out _ _ (fun _ => hHeld) (fun _ => ?_)
  clear hC C
  (try simp only [Act.put, List.setIfInBounds_toArray, List.set_cons_zero, List.set_cons_succ])
  refine wpAnyZ_take (i := 4) (oi := ⟨_, _, _, _, _, _⟩) (v := ?_) rfl (by kernel_rfl) (by kernel_rfl) (by kernel_rfl) (by kernel_rfl) (by kernel_rfl) (fun _ _ _ h => h) (Or.inl ⟨by rfl, ?_⟩) (by assumption) ?_
  rotate_left
  · intro W hSw
    (try dsimp only at hSw)
    go_simp
    (try with_reducible rfl)
  (try simp only [Act.put, List.setIfInBounds_toArray, List.set_cons_zero, List.set_cons_succ])
  refine wpAnyZ_take (i := 5) (oi := ⟨_, _, _, _, _, _⟩) (v := ?_) rfl (by kernel_rfl) (by kernel_rfl) (by kernel_rfl) (by kernel_rfl) (by kernel_rfl) (fun _ _ _ h => h) (Or.inl ⟨by rfl, ?_⟩) (by assumption) ?_
  rotate_left
  · intro W hSw
    (try dsimp only at hSw)
    go_simp
    (try with_reducible rfl)
  (try simp only [Act.put, List.setIfInBounds_toArray, List.set_cons_zero, List.set_cons_succ])
  refine wpAnyZ_done (by kernel_rfl) ?_ _
  refine NoPanic.normal ?_
  clear hHeld KS
  go_wp2_with fail
  go_ret
  exact says_mk rfl (HBW.out.trans (HQ1.out.mono HBW.out.size))
end Go.Proofs.Ytlcnpeodhfdhlaa

/-! The code's own Scan. -/
namespace Go.Proofs.Ytlcnpeodhfdhlaa
open Go.RowKit
open Go.ProdMath
open Go.SegMath
open Go.IxMath
open Go.BatMath hiding AllB getD_lt take_all
set_option linter.unusedVariables false

set_option maxRecDepth 100000 in
set_option maxHeartbeats 8000000 in
theorem segScan_any (w : World) (ad : Option Addr) (len cap : Nat) (p : List Nat) (h : Row w ad len cap p) (hL : len ≤ 100000) (base : Int) (hb : -9223372036854775808 ≤ base ∧ base ≤ 9223372036854775807) :
    Calls Try.prog 14 #[.slice ad len cap, .int .i64 base] w (GivesScan w base p) := by
  have HP := Lib.hid h
  have HPL := Lib.hid h.len
  have HS0 := Lib.hid (scanning_nil (w := w) base p)
  have HBB := Lib.hid hb
  clear h hb
  go_enter Try.func14, Try.ntmps14
  go_wp2_with fail
  go_loopw [1, 6, 7] (fun v1 v6 v7 wr => ∃ (ad1 : Option Addr) (n1 cap1 k : Nat) (z : Int) (ms : List BM), v6 = .slice ad1 n1 cap1 ∧ v7 = .int .i64 (k : Int) ∧ v1 = .int .i64 z ∧ k ≤ len ∧ n1 ≤ 10000 ∧ Hid (ms.length = n1) ∧ Hid (z = endD base (bats ms)) ∧ Hid (k = (flat (bats ms)).length) ∧ Hid (Scanning w wr base p (.slice ad1 n1 cap1) ms)) (fun _ _ v7 _ => len - lenB v7)
  case atStart => exact ⟨none, 0, 0, 0, base, [], rfl, rfl, rfl, Nat.zero_le _, by omega, rfl, rfl, rfl, HS0.out⟩
  case round =>
    obtain ⟨ad1, n1, cap1, k, z, ms, rfl, rfl, rfl, hkl, hn1, HN, HZ, HK, HS⟩ := hrel
    obtain ⟨wo, hwo⟩ : ∃ wo : World, wo = wr := ⟨_, rfl⟩
    subst hwo
    clear HS0
    obtain ⟨ad2, cap2, hup, hr2, _⟩ := seg_from (row_bytes HP.out) k hkl
    have HR2 : Hid (Byt w ad2 (len - k) cap2 (p.drop k)) := byt_of hr2 fun x hx => HP.out.all x (List.mem_of_mem_drop hx)
    clear hr2
    obtain ⟨r, hr⟩ : ∃ r, r = p.drop k := ⟨_, rfl⟩
    rw [← hr] at HR2
    have HRR := Lib.hid hr
    clear hr
    go_wp2_with fail
    refine (segFirst_any wo ad2 (len - k) cap2 r (HR2.out.keep HS.out.below (Nat.le_refl _)) (by omega) z).mono ?_
    rintro e w1 ⟨⟨b0, b1, b2, b3, b4, b5, recs⟩, on, rd, rc, rfl, hcs, hre, hrk, hb1⟩
    simp only at hre hcs
    have HRE := Lib.hid hre
    have HB1 := Lib.hid hb1
    have HCS := Lib.hid hcs
    obtain ⟨rn, hrn⟩ : ∃ n, n = recs.length := ⟨_, rfl⟩
    have HRN := Lib.hid hrn
    simp only
    rw [← hrn] at HRE ⊢
    have HRK : Hid (∀ a, rd = some a → wo.heap.size ≤ a.block) := hrk
    clear hre hrk hb1 hrn hup hcs
    go_upto_region 4 with fail
    obtain ⟨W1, hW1⟩ : ∃ z, z = w1.alloc (.cells #[.int .i64 b0, .int .i64 b1, .int .i64 b2, .int .i64 b3, .bool b4, .int .i64 b5, .slice rd rn rc] 51) := ⟨_, rfl⟩
    obtain ⟨kb, hkb⟩ : ∃ z, z = w1.heap.size := ⟨_, rfl⟩
    have hbb : Below w1.heap.size w1 W1 := by rw [hW1]; exact (Below.refl _ _).alloc (Nat.le_refl _) _
    have HX1 : Hid (BoxAt W1 kb b0 b1 b2 b3 b4 b5 (.slice rd rn rc)) := by show BoxAt _ _ _ _ _ _ _ _ _; rw [hW1, hkb]; exact boxAt_new w1 _ _ _ _ _ _ _
    have HBW : Hid (Below wo.heap.size wo W1) := HB1.out.trans (hbb.mono HB1.out.size)
    have HKB0 : Hid (wo.heap.size ≤ kb) := by show _ ≤ _; rw [hkb]; exact HB1.out.size
    have HRE1 := Lib.hid (HRE.out.keep hbb)
    rw [← hW1, ← hkb]
    clear hW1 hkb hbb HRE HB1
    have q0 := HX1.out.c0
    have q1 := HX1.out.c1
    have q2 := HX1.out.c2
    have q3 := HX1.out.c3
    have q4 := HX1.out.c4
    have q5 := HX1.out.c5
    have q6 := HX1.out.c6
    rcases HCS.out with ⟨h0, hfin⟩ | ⟨hgd, hbz, hln⟩
    · subst h0
      have HF := Lib.hid hfin
      clear hfin
      go_wp2_with fail
      go_ret2
      exact HS.out.done HN.out HBW.out (by rw [← HK.out, ← HRR.out, ← HZ.out]; exact HF.out) k HK.out
    · subst hbz
      have HG : Hid (BatMath.Good r ⟨b0, b1, b2, b3, b4, b5, recs⟩) := hgd
      have HNN : Hid (on = (bytesB ⟨b0, b1, b2, b3, b4, b5, recs⟩).length) := hln
      clear hgd hln HCS
      obtain ⟨cnt, hcnt⟩ : ∃ c, c = countD ⟨b0, b1, b2, b3, b4, b5, recs⟩ := ⟨_, rfl⟩
      have HCN : Hid ((if b5 ≠ 0 then 1 else (rn : Int)) = cnt) := by show _ = _; rw [hcnt, HRN.out]; rfl
      have HCB : Hid (1 ≤ cnt ∧ cnt ≤ 16) := by show _ ∧ _; rw [hcnt]; exact count_pos HG.out.right
      have HB0 : Hid (0 ≤ b0 ∧ b0 ≤ 1099511627776) := ⟨(ok_of HG.out.right).base0, (ok_of HG.out.right).base1⟩
      have HLN : Hid (36 ≤ on ∧ on + k ≤ len) := by
        show _ ∧ _
        have h1 := (ok_len (ok_of HG.out.right)).2
        have h2 := HG.out.pre.length_le
        rw [HRR.out, List.length_drop, HPL.out] at h2
        rw [HNN.out]
        omega
      have HS2 : ∀ (w' : World) (v' : Value), Below w.heap.size w w' → OwnRow batK w' w.heap.size v' (ms ++ [⟨⟨b0, b1, b2, b3, b4, b5, recs⟩, rd, rc⟩]) → RecssAt w' (ms ++ [⟨⟨b0, b1, b2, b3, b4, b5, recs⟩, rd, rc⟩]) → (∀ m ∈ ms ++ [⟨⟨b0, b1, b2, b3, b4, b5, recs⟩, rd, rc⟩], m.b.recs.length = 0 ∨ ∀ a, m.ad = some a → v'.ownBlock ≠ some a.block ∧ a.block < w'.heap.size) → Scanning w w' base p v' (ms ++ [⟨⟨b0, b1, b2, b3, b4, b5, recs⟩, rd, rc⟩]) := fun w' v' h1 h2 h3 hsp =>
        ⟨h2, h3, by rw [bats_snoc]; exact (seqF_snoc _ _ _).2 ⟨HS.out.seq, HZ.out⟩, by rw [bats_snoc]; exact rowOk_snoc HS.out.ok ⟨HG.out.right, HG.out.wf⟩, by
          rw [bats_snoc, flat_snoc]
          have h4 := HS.out.rest
          rw [h4]
          refine (List.prefix_append_right_inj _).2 ?_
          have h5 := HG.out.pre
          rw [HRR.out, HK.out] at h5
          exact h5, h1, hsp, fun m hm => by
            rcases List.mem_append.1 hm with h6 | h6
            · exact HS.out.news m h6
            · rw [List.mem_singleton.1 h6]
              refine .inr fun a ha => ?_
              have h7 := HRK.out a ha
              have h8 := HS.out.below.size
              show w.heap.size ≤ a.block
              omega⟩
      have HSC := Lib.hid HS2
      have HMX : Hid (∀ w', RecsAt w' rd rn rc recs → RecssAt w' ms → RecssAt w' (ms ++ [⟨⟨b0, b1, b2, b3, b4, b5, recs⟩, rd, rc⟩])) := fun w' h1 h2 m hm => by
        rcases List.mem_append.1 hm with h3 | h3
        · exact h2 m h3
        · rw [List.mem_singleton.1 h3]
          show RecsAt w' rd recs.length rc recs
          rw [← HRN.out]
          exact h1
      have HEN : Hid (b0 + cnt = endD base (bats (ms ++ [⟨⟨b0, b1, b2, b3, b4, b5, recs⟩, rd, rc⟩]))) := by show _ = _; rw [bats_snoc, end_last (b := ⟨b0, b1, b2, b3, b4, b5, recs⟩) (by simp), hcnt]
      have HKN : Hid (k + on = (flat (bats (ms ++ [⟨⟨b0, b1, b2, b3, b4, b5, recs⟩, rd, rc⟩]))).length) := by show _ = _; rw [bats_snoc, flat_snoc, List.length_append, ← HK.out, HNN.out]
      have HLIT : Hid (∀ W : World, RowAt batK (W.alloc (.cells #[.int .i64 b0, .int .i64 b1, .int .i64 b2, .int .i64 b3, .bool b4, .int .i64 b5, .slice rd rn rc] 51)) (some ⟨W.heap.size, 0, none⟩) 1 1 [⟨⟨b0, b1, b2, b3, b4, b5, recs⟩, rd, rc⟩]) := fun W => by
        rw [HRN.out]
        exact rowAt_lit batK_ok W [⟨⟨b0, b1, b2, b3, b4, b5, recs⟩, rd, rc⟩] (by simp) _ rfl 1 rfl
      obtain ⟨mx, hmx⟩ : ∃ m, m = (⟨⟨b0, b1, b2, b3, b4, b5, recs⟩, rd, rc⟩ : BM) := ⟨_, rfl⟩
      rw [← hmx] at HSC HMX HEN HKN HLIT
      have HMA : Hid (mx.ad = rd) := by show _ = _; rw [hmx]
      have HMR : Hid (mx.b.recs = recs) := by show _ = _; rw [hmx]
      clear hcnt HS2 hmx HG HNN
      have hw1 : IntKind.i64.wrap (b0 + cnt) = b0 + cnt := by rw [IntKind.wrap_i64]; have := HCB.out; have := HB0.out; omega
      have hw2 : IntKind.i64.wrap ((k : Int) + (on : Int)) = (k : Int) + (on : Int) := by rw [IntKind.wrap_i64]; have := HLN.out; omega
      have HBT : Hid (Below w.heap.size w W1) := HS.out.below.trans (HBW.out.mono HS.out.below.size)
      have hn0 : ((on : Int) == 0) = false := by have := HLN.out.1; simp; omega
      go_upto_region 6 with fail
      have HB6 : Hid (Below W1.heap.size W1 (W1.alloc (.cells #[.int .i64 b0, .int .i64 b1, .int .i64 b2, .int .i64 b3, .bool b4, .int .i64 b5, .slice rd rn rc] 51))) := (Below.refl _ _).alloc (Nat.le_refl _) _
      have HBS : Hid (w.heap.size ≤ (W1.alloc (.cells #[.int .i64 b0, .int .i64 b1, .int .i64 b2, .int .i64 b3, .bool b4, .int .i64 b5, .slice rd rn rc] 51)).heap.size) := Nat.le_trans HBT.out.size HB6.out.size
      have HON := Lib.hid ((HS.out.own.on HBW.out).on HB6.out)
      go_wp2_with (at_builtin; refine list_row (by rfl) batK_ok (.tmp 22) (.tmp 24) rfl w.heap.size ms [mx] (.slice ad1 n1 cap1) rfl HON.out HBS.out (some ⟨W1.heap.size, 0, none⟩) 1 1 rfl (HLIT.out W1) (by rw [HN.out]; omega) ?_)
      intro v6 w6 hap
      obtain ⟨ad6, cap6, hv6, _, _⟩ := OwnRow.row batK_ok hap.1 (n := n1 + 1) (by rw [List.length_append, HN.out]; rfl)
      subst hv6
      have HO6 := Lib.hid (show OwnRow batK w6 w.heap.size (.slice ad6 (n1 + 1) cap6) (ms ++ [mx]) from hap.1)
      have HB7 : Hid (Below w.heap.size w w6) := (HBT.out.trans (HB6.out.mono HBT.out.size)).grown hap.2.1 HBS.out fun q hq => (HON.out.lt q hq).1
      have HOL : Hid (∀ q, (Value.slice ad1 n1 cap1).ownBlock = some q → q < wo.heap.size) := fun q hq => (HS.out.own.lt q hq).2
      have hg1 := hap.2.1
      have hre6 : RecsAt w6 rd rn rc recs := recs_grown (HRE1.out.keep HB6.out) hg1 (.inr fun a ha e => by
        have h1 := HRK.out a ha
        have h2 := HOL.out _ e
        omega)
      have hins6 : RecssAt w6 ms := fun m hm => recs_grown ((HS.out.ins m hm).keep (HBW.out.trans (HB6.out.mono HBW.out.size))) hg1 ((HS.out.sep m hm).imp id fun h a ha e => (h a ha).1 e)
      have HINS := Lib.hid (HMX.out w6 hre6 hins6)
      have hsep : ∀ m ∈ ms ++ [mx], m.b.recs.length = 0 ∨ ∀ a, m.ad = some a → (Value.slice ad6 (n1 + 1) cap6).ownBlock ≠ some a.block ∧ a.block < w6.heap.size := by
        intro m hm
        have hcase : m.b.recs.length = 0 ∨ ∀ a, m.ad = some a → a.block < W1.heap.size ∧ (Value.slice ad1 n1 cap1).ownBlock ≠ some a.block := by
          rcases List.mem_append.1 hm with h3 | h3
          · refine (HS.out.sep m h3).imp id fun h a ha => ?_
            have h4 := h a ha
            have h5 := HBW.out.size
            exact ⟨by omega, h4.1⟩
          · obtain rfl := List.mem_singleton.1 h3
            rcases HRE1.out.cells with h0 | ⟨bk, off, e, hlt, _⟩
            · exact .inl (by rw [HMR.out, ← HRN.out]; exact h0)
            · refine .inr fun a ha => ?_
              rw [HMA.out] at ha
              have h6 := HRK.out a ha
              rw [e] at ha
              cases ha
              exact ⟨hlt, fun e2 => by have := HOL.out _ e2; omega⟩
        refine hcase.imp id fun hc a ha => ?_
        have hcase := hc a ha
        refine ⟨fun e => ?_, ?_⟩
        · rcases hap.2.2.2 _ e with h6 | h6
          · exact hcase.2 h6
          · have := HB6.out.size
            omega
        · have h7 := hg1.size
          have h8 := HB6.out.size
          omega
      have HSEP := Lib.hid hsep
      have HX6 : Hid (BoxAt w6 kb b0 b1 b2 b3 b4 b5 (.slice rd rn rc)) := by
        show w6.heap[kb]? = _
        rw [hg1.block kb (by have := HX1.out.lt; have := HB6.out.size; omega) (fun e => by have := HOL.out kb e.symm; have := HKB0.out; omega)]
        exact HX1.out.on HB6.out
      clear hap hg1 hre6 hins6 hsep
      have HS6 := Lib.hid (HSC.out w6 _ HB7.out HO6.out HINS.out HSEP.out)
      have HSMALL : Hid (n1 + 1 ≤ 10000) := by show _ ≤ _; have := HS.out.at_most; rw [HN.out, HPL.out] at this; omega
      have HNL : Hid ((ms ++ [mx]).length = n1 + 1) := by show _ = _; rw [List.length_append, HN.out]; rfl
      clear HO6 HB7 HINS HSEP HON HBS HB6 q0 q1 q2 q3 q4 q5 q6
      have q0 := HX6.out.c0
      have q1 := HX6.out.c1
      have q2 := HX6.out.c2
      have q3 := HX6.out.c3
      have q4 := HX6.out.c4
      have q5 := HX6.out.c5
      have q6 := HX6.out.c6
      go_wp2_with fail
      refine (segEnd_any w6 b0 b1 b2 b3 b4 b5 rd rn rc cnt HCN.out hw1).mono ?_
      rintro e w7 ⟨rfl, hb7⟩
      have HS7 := Lib.hid (HS6.out.on hb7)
      clear hb7 q0 q1 q2 q3 q4 q5 q6
      go_wp2_with fail
      go_roundw
      case rel => exact ⟨ad6, n1 + 1, cap6, k + on, b0 + cnt, ms ++ [mx], rfl, by go_num, rfl, by have := HLN.out; omega, HSMALL.out, HNL.out, HEN.out, HKN.out, HS7.out⟩
      case measure =>
        have := HLN.out
        simp [lenB]
        omega
end Go.Proofs.Ytlcnpeodhfdhlaa

/-! The code's own Cut. -/
namespace Go.Proofs.Ytlcnpeodhfdhlaa
open Go.RowKit
open Go.ProdMath
open Go.SegMath
open Go.IxMath
open Go.BatMath hiding AllB getD_lt take_all
set_option linter.unusedVariables false

theorem cut_stop : ∀ (l : List Bat) (base o : Int) (i : Nat) (x : Bat), SeqF base l → RowOk l → l[i]? = some x → o < endB x → (l.take i).filter (fun b => decide (endB b ≤ o)) = l.take i → l.filter (fun b => decide (endB b ≤ o)) = l.take i
  | [], base, o, i, x, _, _, hx, _, _ => by cases hx
  | c :: l, base, o, 0, x, hs, ho, hx, hlt, _ => by
    have hxc : c = x := Option.some.inj hx
    have hcc := rowOk_cons ho
    rw [List.take_zero, List.filter_eq_nil_iff]
    intro b hb
    simp only [decide_eq_true_eq]
    rcases List.mem_cons.1 hb with h1 | h1
    · rw [h1, hxc]; omega
    · have h2 := ends_up l (base + countD c) hs.2 hcc.2 b h1
      have h3 : endB x = base + countD c := by rw [← hxc]; unfold endB; rw [hs.1]
      omega
  | c :: l, base, o, i + 1, x, hs, ho, hx, hlt, hf => by
    have hcc := rowOk_cons ho
    rw [List.take_succ_cons] at hf ⊢
    by_cases hc : endB c ≤ o
    · rw [List.filter_cons_of_pos (by simpa using hc)] at hf ⊢
      rw [cut_stop l (base + countD c) o i x hs.2 hcc.2 hx hlt (List.cons.inj hf).2]
    · rw [List.filter_cons_of_neg (by simpa using hc)] at hf
      have h1 : c ∈ (l.take i).filter (fun b => decide (endB b ≤ o)) := by rw [hf]; exact List.mem_cons_self
      have h2 := ends_up l (base + countD c) hs.2 hcc.2 c (List.mem_of_mem_take (List.mem_filter.1 h1).1)
      have h3 : endB c = base + countD c := by unfold endB; rw [hs.1]
      omega
/-- What stands behind the first i batches of a scan. -/
theorem cut_step {base : Int} {p : List Nat} {l : List Bat} (h : Scans base p l) (i : Nat) (hi : i ≤ l.length) :
    (∃ c, l[i]? = some c ∧ BatMath.Good (p.drop (flat (l.take i)).length) c ∧ c.base = endD base (l.take i) ∧ l.take (i + 1) = l.take i ++ [c] ∧ i < l.length ∧ (flat (l.take i)).length + (bytesB c).length = (flat (l.take (i + 1))).length) ∨
      (i = l.length ∧ ∀ b, BatMath.Good (p.drop (flat (l.take i)).length) b → b.base ≠ endD base (l.take i)) := by
  obtain ⟨r, e, hr⟩ := h.ex
  rcases Nat.lt_or_ge i l.length with hlt | hge
  · left
    have htk : l.take (i + 1) = l.take i ++ [l[i]] := by rw [List.take_append_getElem]
    refine ⟨l[i], List.getElem?_eq_getElem hlt, ?_, ?_, htk, hlt, by rw [htk, flat_snoc, List.length_append]⟩
    · have h1 : l = l.take i ++ l[i] :: l.drop (i + 1) := by
        rw [← List.drop_eq_getElem_cons hlt, List.take_append_drop]
      have h2 : p = flat (l.take i) ++ (bytesB l[i] ++ (flat (l.drop (i + 1)) ++ r)) := by
        rw [e, ← List.append_assoc (bytesB l[i]), ← flat_cons, ← List.append_assoc, ← flat_app, ← h1]
      have h3 : p.drop (flat (l.take i)).length = bytesB l[i] ++ (flat (l.drop (i + 1)) ++ r) := by
        conv => lhs; rw [h2]
        rw [List.drop_left]
      rw [h3]
      have h4 := h.ok l[i] (List.getElem_mem hlt)
      exact good_of h4.1 h4.2 _
    · have h5 := seqF_take l base (i + 1) h.seq
      rw [htk] at h5
      exact ((seqF_snoc _ _ _).1 h5).2
  · right
    have hie : i = l.length := by omega
    subst hie
    refine ⟨rfl, ?_⟩
    rw [List.take_length]
    have h3 : p.drop (flat l).length = r := by
      conv => lhs; rw [e]
      rw [List.drop_left]
    rw [h3]
    exact hr
set_option maxRecDepth 100000 in
set_option maxHeartbeats 8000000 in
theorem segCut_any (w : World) (ad : Option Addr) (len cap : Nat) (p : List Nat) (h : Row w ad len cap p) (hL : len ≤ 100000) (base off : Int) (hb : I64 base) (ho : I64 off) (l : List Bat) (hl : Scans base p l) :
    Calls Try.prog 16 #[.slice ad len cap, .int .i64 base, .int .i64 off] w fun e w' => e = .returned (.int .i64 ((flat (l.filter fun b => decide (endB b ≤ off))).length : Nat)) ∧ Hid (Below w.heap.size w w') := by
  have HP := Lib.hid h
  have HPL := Lib.hid h.len
  have HS := Lib.hid hl
  have HBB : Hid (Below w.heap.size w w) := Below.refl _ w
  clear h hl hb ho
  go_enter Try.func16, Try.ntmps16
  go_wp2_with fail
  go_loopw [1, 7] (fun v1 v7 wr => ∃ (i k : Nat) (z : Int), v7 = .int .i64 (k : Int) ∧ v1 = .int .i64 z ∧ i ≤ l.length ∧ k ≤ len ∧ Hid (z = endD base (l.take i)) ∧ Hid (k = (flat (l.take i)).length) ∧ Hid ((l.take i).filter (fun b => decide (endB b ≤ off)) = l.take i) ∧ Hid (Below w.heap.size w wr)) (fun _ v7 _ => len - lenB v7)
  case atStart => exact ⟨0, 0, base, rfl, rfl, Nat.zero_le _, Nat.zero_le _, rfl, rfl, rfl, HBB.out⟩
  case round =>
    obtain ⟨i, k, z, rfl, rfl, hil, hkl, HZ, HK, HF, HBI⟩ := hrel
    obtain ⟨wo, hwo⟩ : ∃ wo : World, wo = wr := ⟨_, rfl⟩
    subst hwo
    clear HBB
    obtain ⟨ad2, cap2, hup, hr2, _⟩ := seg_from (row_bytes HP.out) k hkl
    have HR2 : Hid (Byt w ad2 (len - k) cap2 (p.drop k)) := byt_of hr2 fun x hx => HP.out.all x (List.mem_of_mem_drop hx)
    clear hr2
    have HST := Lib.hid (cut_step HS.out i hil)
    rw [← HK.out, ← HZ.out] at HST
    obtain ⟨r, hr⟩ : ∃ r, r = p.drop k := ⟨_, rfl⟩
    rw [← hr] at HR2 HST
    have HRR := Lib.hid hr
    clear hr
    go_wp2_with fail
    refine (segFirst_any wo ad2 (len - k) cap2 r (HR2.out.keep HBI.out (Nat.le_refl _)) (by omega) z).mono ?_
    rintro e w1 ⟨⟨b0, b1, b2, b3, b4, b5, recs⟩, on, rd, rc, rfl, hcs, hre, hrk, hb1⟩
    have HB1 := Lib.hid hb1
    have HCS := Lib.hid hcs
    obtain ⟨rn, hrn⟩ : ∃ n, n = recs.length := ⟨_, rfl⟩
    have HRN := Lib.hid hrn
    simp only
    rw [← hrn]
    clear hre hrk hb1 hrn hup hcs
    go_upto_region 3 with fail
    obtain ⟨W1, hW1⟩ : ∃ z, z = w1.alloc (.cells #[.int .i64 b0, .int .i64 b1, .int .i64 b2, .int .i64 b3, .bool b4, .int .i64 b5, .slice rd rn rc] 51) := ⟨_, rfl⟩
    obtain ⟨kb, hkb⟩ : ∃ z, z = w1.heap.size := ⟨_, rfl⟩
    have hbb : Below w1.heap.size w1 W1 := by rw [hW1]; exact (Below.refl _ _).alloc (Nat.le_refl _) _
    have HX1 : Hid (BoxAt W1 kb b0 b1 b2 b3 b4 b5 (.slice rd rn rc)) := by show BoxAt _ _ _ _ _ _ _ _ _; rw [hW1, hkb]; exact boxAt_new w1 _ _ _ _ _ _ _
    have HBW : Hid (Below wo.heap.size wo W1) := HB1.out.trans (hbb.mono HB1.out.size)
    rw [← hW1, ← hkb]
    clear hW1 hkb hbb HB1
    rcases HCS.out with ⟨h0, hfin⟩ | ⟨hgd, hbz, hln⟩
    · subst h0
      have HFIN : Hid ((flat (l.filter fun b => decide (endB b ≤ off))).length = k) := by
        show _ = _
        rcases HST.out with ⟨c, _, hg, hc, _⟩ | ⟨hie, _⟩
        · exact absurd hc (hfin c hg)
        · have h3 := HF.out
          rw [hie, List.take_length] at h3
          have h4 := HK.out
          rw [hie, List.take_length] at h4
          rw [h3]
          exact h4.symm
      clear hfin
      have HBZ : Hid (Below w.heap.size w W1) := HBI.out.trans (HBW.out.mono HBI.out.size)
      go_wp2_with fail
      go_ret
      exact ⟨by rw [HFIN.out]; rfl, HBZ.out⟩
    · simp only at hbz
      subst hbz
      have HGO : Hid (l[i]? = some (⟨b0, b1, b2, b3, b4, b5, recs⟩ : Bat) ∧ l.take (i + 1) = l.take i ++ [⟨b0, b1, b2, b3, b4, b5, recs⟩] ∧ i < l.length ∧ k + on = (flat (l.take (i + 1))).length) := by
        show _ ∧ _
        rcases HST.out with ⟨c, h1, hg, hc, h2, h3, h4⟩ | ⟨_, hno⟩
        · have e := good_one hg hgd
          subst e
          exact ⟨h1, h2, h3, by rw [hln]; exact h4⟩
        · exact absurd rfl (hno _ hgd)
      have HG : Hid (BatMath.Good r ⟨b0, b1, b2, b3, b4, b5, recs⟩) := hgd
      have HNN : Hid (on = (bytesB ⟨b0, b1, b2, b3, b4, b5, recs⟩).length) := hln
      clear hgd hln HCS HST
      obtain ⟨cnt, hcnt⟩ : ∃ c, c = countD ⟨b0, b1, b2, b3, b4, b5, recs⟩ := ⟨_, rfl⟩
      have HCN : Hid ((if b5 ≠ 0 then 1 else (rn : Int)) = cnt) := by show _ = _; rw [hcnt, HRN.out]; rfl
      have HCB : Hid (1 ≤ cnt ∧ cnt ≤ 16) := by show _ ∧ _; rw [hcnt]; exact count_pos HG.out.right
      have HB0 : Hid (0 ≤ b0 ∧ b0 ≤ 1099511627776) := ⟨(ok_of HG.out.right).base0, (ok_of HG.out.right).base1⟩
      have HEB : Hid (endB ⟨b0, b1, b2, b3, b4, b5, recs⟩ = b0 + cnt) := by show _ = _; rw [hcnt]; rfl
      have HLN : Hid (36 ≤ on ∧ on + k ≤ len) := by
        show _ ∧ _
        have h1 := (ok_len (ok_of HG.out.right)).2
        have h2 := HG.out.pre.length_le
        rw [HRR.out, List.length_drop, HPL.out] at h2
        rw [HNN.out]
        omega
      clear hcnt HNN
      have hw1 : IntKind.i64.wrap (b0 + cnt) = b0 + cnt := by rw [IntKind.wrap_i64]; have := HCB.out; have := HB0.out; omega
      have hw2 : IntKind.i64.wrap ((k : Int) + (on : Int)) = (k : Int) + (on : Int) := by rw [IntKind.wrap_i64]; have := HLN.out; omega
      have hn0 : ((on : Int) == 0) = false := by have := HLN.out.1; simp; omega
      have q0 := HX1.out.c0
      have q1 := HX1.out.c1
      have q2 := HX1.out.c2
      have q3 := HX1.out.c3
      have q4 := HX1.out.c4
      have q5 := HX1.out.c5
      have q6 := HX1.out.c6
      go_wp2_with fail
      refine (segEnd_any W1 b0 b1 b2 b3 b4 b5 rd rn rc cnt HCN.out hw1).mono ?_
      rintro e u1 ⟨rfl, hb2⟩
      have HX2 := Lib.hid (HX1.out.on hb2)
      have HB2 : Hid (Below wo.heap.size wo u1) := HBW.out.trans (hb2.mono HBW.out.size)
      clear hb2 HX1 HBW
      clear q0 q1 q2 q3 q4 q5 q6
      have q0 := HX2.out.c0
      have q1 := HX2.out.c1
      have q2 := HX2.out.c2
      have q3 := HX2.out.c3
      have q4 := HX2.out.c4
      have q5 := HX2.out.c5
      have q6 := HX2.out.c6
      by_cases hof : off < b0 + cnt
      · have hdo : decide (off < b0 + cnt) = true := decide_eq_true hof
        have HFIN : Hid ((flat (l.filter fun b => decide (endB b ≤ off))).length = k) := by
          show _ = _
          rw [cut_stop l base off i _ HS.out.seq HS.out.ok HGO.out.1 (by rw [HEB.out]; exact hof) HF.out]
          exact HK.out.symm
        have HBZ : Hid (Below w.heap.size w u1) := HBI.out.trans (HB2.out.mono HBI.out.size)
        go_wp2_with fail
        go_ret
        exact ⟨by rw [HFIN.out]; rfl, HBZ.out⟩
      · have hdo : decide (off < b0 + cnt) = false := decide_eq_false hof
        have HFX : Hid ((l.take (i + 1)).filter (fun b => decide (endB b ≤ off)) = l.take (i + 1)) := by
          show _ = _
          rw [HGO.out.2.1, filter_snoc, if_pos (decide_eq_true (by rw [HEB.out]; omega)), HF.out]
        have HEN : Hid (b0 + cnt = endD base (l.take (i + 1))) := by
          show _ = _
          rw [HGO.out.2.1, end_last (b := ⟨b0, b1, b2, b3, b4, b5, recs⟩) (by simp)]
          exact HEB.out.symm
        go_wp2_with fail
        refine (segEnd_any u1 b0 b1 b2 b3 b4 b5 rd rn rc cnt HCN.out hw1).mono ?_
        rintro e u2 ⟨rfl, hb9⟩
        have HB9 : Hid (Below w.heap.size w u2) := HBI.out.trans ((HB2.out.trans (hb9.mono HB2.out.size)).mono HBI.out.size)
        clear hb9
        go_wp2_with fail
        go_roundw
        case rel => exact ⟨i + 1, k + on, b0 + cnt, by go_num, rfl, HGO.out.2.2.1, by have := HLN.out; omega, HEN.out, HGO.out.2.2.2, HFX.out, HB9.out⟩
        case measure =>
          have := HLN.out
          simp [lenB]
          omega
end Go.Proofs.Ytlcnpeodhfdhlaa

/-! The code's own segment. -/
namespace Go.Proofs.Ytlcnpeodhfdhlaa
open Go.RowKit
open Go.ProdMath
open Go.SegMath
open Go.IxMath
open Go.BatMath hiding AllB getD_lt take_all
set_option linter.unusedVariables false

/-- An index of these batches, or none. -/
def IxVal (w : World) (base : Int) (l : List Bat) (xv : Value) : Prop := xv = .pointer none ∨ ∃ (k : Nat) (F : Nat → Prop) (every : Int), xv = .pointer (some ⟨k, 0, none⟩) ∧ IxOk w k F base every (places 0 l)
/-- What From gives. -/
def GivesFrom (w : World) (off : Int) (l : List Bat) (e : Ending) (w' : World) : Prop :=
  ∃ ad n cap ms, e = .returned (.slice ad n cap) ∧ Hid (BatsAt w' ad n cap ms) ∧ Hid (bats ms = l.filter fun b => decide (off < endB b)) ∧ Hid (Below w.heap.size w w')
/-- What Build gives. -/
def GivesBuild (w : World) (base every : Int) (l : List Bat) (e : Ending) (w' : World) : Prop :=
  Hid (Below w.heap.size w w') ∧ ((badN base every = true ∧ e = .returned (.tuple #[.pointer none, .bool false])) ∨
    (badN base every = false ∧ ∃ k F, e = .returned (.tuple #[.pointer (some ⟨k, 0, none⟩), .bool true]) ∧ Hid (IxOk w' k F base every (places 0 l)) ∧ Hid (∀ j, F j → w.heap.size ≤ j)))
set_option maxRecDepth 100000 in
set_option maxHeartbeats 4000000 in
theorem segNext_any (w : World) (ad : Option Addr) (n cap : Nat) (ms : List BM) (h : BatsAt w ad n cap ms) (hn : n ≤ 100000) (hok : RowOk (bats ms)) (base : Int) (hb : I64 base) (v : Int) (hv : endD base (bats ms) = v) :
    Calls Try.prog 25 #[.slice ad n cap, .int .i64 base] w (Says v w) := by
  have HL : Hid (ms.length = n) := h.row.length
  have H := Lib.hid h
  have HOK := Lib.hid hok
  have HV := Lib.hid hv
  clear h hok hv
  rcases Nat.eq_zero_or_pos n with h0 | h0
  · subst h0
    have hms : ms = [] := List.eq_nil_of_length_eq_zero HL.out
    have hv : base = v := by rw [← HV.out, hms]; rfl
    subst hv
    go_enter Try.func25, Try.ntmps25
    go_wp2_with fail
    go_ret
    exact says_mk rfl (Below.refl _ w)
  · have hn0 : ((n : Int) == 0) = false := by simp; omega
    have hn2 : (1 : Int) ≤ (n : Int) := by omega
    have hn5 : (n : Int) - 1 < (n : Int) := by omega
    have hn3 : ((n : Int) - 1).toNat = n - 1 := by omega
    have hn4 : IntKind.i64.wrap ((n : Int) - 1) = (n : Int) - 1 := by rw [IntKind.wrap_i64]; omega
    obtain ⟨bx, ox, mx, ex, hbx, hmx, hrx, x0, x1, x2, x3, x4, x5, x6⟩ := H.out.get (show n - 1 < n by omega)
    subst ex
    have hin' : mx.b ∈ bats ms := List.mem_map.2 ⟨mx, List.mem_of_getElem? hmx, rfl⟩
    have HRT := Lib.hid (HOK.out mx.b hin')
    obtain ⟨cnt, hcnt⟩ : ∃ c, c = countD mx.b := ⟨_, rfl⟩
    have HCB : Hid (1 ≤ cnt ∧ cnt ≤ 16) := by show _ ∧ _; rw [hcnt]; exact count_pos HRT.out.1
    have HB0 : Hid (0 ≤ mx.b.base ∧ mx.b.base ≤ 1099511627776) := ⟨(ok_of HRT.out.1).base0, (ok_of HRT.out.1).base1⟩
    have HVE : Hid (mx.b.base + cnt = v) := by
      show _ = _
      have hla : (bats ms).getLast? = some mx.b := by
        unfold bats
        rw [List.getLast?_map, List.getLast?_eq_getElem?, HL.out, hmx]
        rfl
      rw [← HV.out, end_last hla, hcnt]
    have HCN : Hid ((if mx.b.marker ≠ 0 then 1 else (mx.b.recs.length : Int)) = cnt) := by show _ = _; rw [hcnt]; rfl
    clear hmx hin' hrx hcnt HRT HV
    obtain ⟨⟨b0, b1, b2, b3, b4, b5, recs⟩, rd, rc⟩ := mx
    simp only at x0 x1 x2 x3 x4 x5 x6 HB0 HCN HVE
    have hw1 : IntKind.i64.wrap (b0 + cnt) = b0 + cnt := by rw [IntKind.wrap_i64]; have := HCB.out; have := HB0.out; omega
    go_enter Try.func25, Try.ntmps25
    go_wp2_with fail
    refine (segEnd_any w b0 b1 b2 b3 b4 b5 rd recs.length rc cnt HCN.out hw1).mono ?_
    rintro e w1 ⟨rfl, hb1⟩
    rw [HVE.out]
    have HB1 := Lib.hid hb1
    clear hb1
    go_wp2_with fail
    go_ret
    exact says_mk rfl HB1.out
set_option maxRecDepth 100000 in
set_option maxHeartbeats 8000000 in
theorem segFrom_any (w : World) (ad : Option Addr) (len cap : Nat) (p : List Nat) (h : Row w ad len cap p) (hL : len ≤ 100000) (base off : Int) (hb : I64 base) (ho : I64 off) (l : List Bat) (hl : Scans base p l) (xv : Value) (hx : IxVal w base l xv) :
    Calls Try.prog 18 #[.slice ad len cap, xv, .int .i64 base, .int .i64 off] w (GivesFrom w off l) := by
  have HP := Lib.hid h
  have HS := Lib.hid hl
  have HNL : Hid (l.length ≤ 10000) := by
    show _ ≤ _
    have h1 := scans_len hl
    have h2 := (flat_big hl.ok).1
    have h3 : p.length = len := h.len
    omega
  clear h hl
  clear hx
  go_enter Try.func18, Try.ntmps18
  go_wp2_with fail
  refine (segScan_any w ad len cap p HP.out hL base hb).mono ?_
  rintro e w1 ⟨ad1, n1, cap1, ms, rfl, HM, HS1, _, HB1⟩
  have HE : Hid (bats ms = l) := scans_one _ _ _ _ HS1.out HS.out
  have HN : Hid (l.length = n1) := by show _ = _; rw [← HE.out, bats_len]; exact HM.out.row.length
  have HOK : Hid (RowOk (bats ms)) := by show RowOk _; rw [HE.out]; exact HS.out.ok
  have hn1 : n1 ≤ 10000 := by rw [← HN.out]; exact HNL.out
  clear HS1
  have HB0' : Hid (Below w1.heap.size w1 w1) := Below.refl _ w1
  have HON0 := Lib.hid (ownRow_nil batK w1 w1.heap.size)
  go_wp2_with fail
  go_loopw [11, 22] (fun v5 v10 wr => ∃ (i : Nat) (ad5 : Option Addr) (n5 cap5 : Nat) (fs : List BM), v10 = .int .i64 (i : Int) ∧ v5 = .slice ad5 n5 cap5 ∧ i ≤ n1 ∧ n5 ≤ i ∧ Hid (fs.length = n5) ∧ Hid (bats fs = ((bats ms).take i).filter fun b => decide (off < endB b)) ∧ Hid (OwnRow batK wr w1.heap.size (.slice ad5 n5 cap5) fs) ∧ Hid (RecssAt w1 fs) ∧ Hid (Below w1.heap.size w1 wr)) (fun _ v10 _ => n1 - (intOf v10).toNat)
  case atStart => exact ⟨0, none, 0, 0, [], rfl, rfl, Nat.zero_le _, Nat.zero_le _, rfl, rfl, HON0.out, (fun m hm => by cases hm), HB0'.out⟩
  case round =>
    obtain ⟨i, ad5, n5, cap5, fs, rfl, rfl, hin, hn5, HFL, HFE, HFO, HFR, HBI⟩ := hrel
    obtain ⟨wo, hwo⟩ : ∃ wo : World, wo = wr := ⟨_, rfl⟩
    subst hwo
    clear HB0' HON0
    by_cases hlt : i < n1
    · have hd : decide (i < n1) = true := decide_eq_true hlt
      have hij : (i : Int) < (n1 : Int) := by omega
      obtain ⟨bx, ox, mx, ex, hbx, hmx, hrx, x0, x1, x2, x3, x4, x5, x6⟩ := (HM.out.keep HBI.out).get hlt
      subst ex
      have HMX := Lib.hid hmx
      have hin' : mx.b ∈ bats ms := List.mem_map.2 ⟨mx, List.mem_of_getElem? hmx, rfl⟩
      have HRT := Lib.hid (HOK.out mx.b hin')
      have HRX := Lib.hid hrx
      have HTK : Hid ((bats ms).take (i + 1) = (bats ms).take i ++ [mx.b]) := by
        show _ = _
        have : (bats ms)[i]? = some mx.b := by unfold bats; rw [List.getElem?_map, hmx]; rfl
        obtain ⟨h3, e3⟩ := List.getElem?_eq_some_iff.1 this
        rw [List.take_succ_eq_append_getElem h3, e3]
      obtain ⟨cnt, hcnt⟩ : ∃ c, c = countD mx.b := ⟨_, rfl⟩
      have HCB : Hid (1 ≤ cnt ∧ cnt ≤ 16) := by show _ ∧ _; rw [hcnt]; exact count_pos HRT.out.1
      have HB0 : Hid (0 ≤ mx.b.base ∧ mx.b.base ≤ 1099511627776) := ⟨(ok_of HRT.out.1).base0, (ok_of HRT.out.1).base1⟩
      have HEB : Hid (endB mx.b = mx.b.base + cnt) := by show _ = _; rw [hcnt]; rfl
      have HCN : Hid ((if mx.b.marker ≠ 0 then 1 else (mx.b.recs.length : Int)) = cnt) := by show _ = _; rw [hcnt]; rfl
      have HRO : Hid (RecAt w1 mx) := by show RecAt _ _; exact HM.out.ins mx (List.mem_of_getElem? hmx)
      clear hmx hin' hrx hcnt
      obtain ⟨⟨b0, b1, b2, b3, b4, b5, recs⟩, rd, rc⟩ := mx
      simp only at x0 x1 x2 x3 x4 x5 x6 HB0 HCN HRX HEB
      obtain ⟨rn, hrn⟩ : ∃ n, n = recs.length := ⟨_, rfl⟩
      have HRN := Lib.hid hrn
      rw [← hrn] at x6
      have HCN2 : Hid ((if b5 ≠ 0 then 1 else (rn : Int)) = cnt) := by show _ = _; rw [hrn]; exact HCN.out
      clear hrn HCN
      have hw1 : IntKind.i64.wrap (b0 + cnt) = b0 + cnt := by rw [IntKind.wrap_i64]; have := HCB.out; have := HB0.out; omega
      go_upto_region 6 with fail
      obtain ⟨W1, hW1⟩ : ∃ z, z = wo.alloc (.cells #[.int .i64 b0, .int .i64 b1, .int .i64 b2, .int .i64 b3, .bool b4, .int .i64 b5, .slice rd rn rc] 51) := ⟨_, rfl⟩
      obtain ⟨kb, hkb⟩ : ∃ z, z = wo.heap.size := ⟨_, rfl⟩
      have HBW : Hid (Below wo.heap.size wo W1) := by show Below _ _ _; rw [hW1]; exact (Below.refl _ _).alloc (Nat.le_refl _) _
      have HX1 : Hid (BoxAt W1 kb b0 b1 b2 b3 b4 b5 (.slice rd rn rc)) := by show BoxAt _ _ _ _ _ _ _ _ _; rw [hW1, hkb]; exact boxAt_new wo _ _ _ _ _ _ _
      rw [← hW1, ← hkb]
      clear hW1 hkb x0 x1 x2 x3 x4 x5 x6
      have q0 := HX1.out.c0
      have q1 := HX1.out.c1
      have q2 := HX1.out.c2
      have q3 := HX1.out.c3
      have q4 := HX1.out.c4
      have q5 := HX1.out.c5
      have q6 := HX1.out.c6
      go_wp2_with fail
      refine (segEnd_any W1 b0 b1 b2 b3 b4 b5 rd rn rc cnt HCN2.out hw1).mono ?_
      rintro e u1 ⟨rfl, hb1⟩
      have HX2 := Lib.hid (HX1.out.on hb1)
      have HB2 : Hid (Below wo.heap.size wo u1) := HBW.out.trans (hb1.mono HBW.out.size)
      clear hb1 HX1 HBW
      clear q0 q1 q2 q3 q4 q5 q6
      have q0 := HX2.out.c0
      have q1 := HX2.out.c1
      have q2 := HX2.out.c2
      have q3 := HX2.out.c3
      have q4 := HX2.out.c4
      have q5 := HX2.out.c5
      have q6 := HX2.out.c6
      by_cases hof : off < b0 + cnt
      · have hdo : decide (off < b0 + cnt) = true := decide_eq_true hof
        have HFN : Hid (bats (fs ++ [⟨⟨b0, b1, b2, b3, b4, b5, recs⟩, rd, rc⟩]) = ((bats ms).take (i + 1)).filter fun b => decide (off < endB b)) := by
          show _ = _
          rw [bats_snoc, HTK.out, filter_snoc, if_pos (decide_eq_true (by rw [HEB.out]; exact hof)), HFE.out]
        have HLIT : Hid (∀ W : World, RowAt batK (W.alloc (.cells #[.int .i64 b0, .int .i64 b1, .int .i64 b2, .int .i64 b3, .bool b4, .int .i64 b5, .slice rd rn rc] 51)) (some ⟨W.heap.size, 0, none⟩) 1 1 [⟨⟨b0, b1, b2, b3, b4, b5, recs⟩, rd, rc⟩]) := fun W => by
          rw [HRN.out]
          exact rowAt_lit batK_ok W [⟨⟨b0, b1, b2, b3, b4, b5, recs⟩, rd, rc⟩] (by simp) _ rfl 1 rfl
        have HRW : Hid (RecssAt w1 (fs ++ [⟨⟨b0, b1, b2, b3, b4, b5, recs⟩, rd, rc⟩])) := fun m hm => by
          rcases List.mem_append.1 hm with h3 | h3
          · exact HFR.out m h3
          · rw [List.mem_singleton.1 h3]; exact HRO.out
        obtain ⟨my, hmy⟩ : ∃ m, m = (⟨⟨b0, b1, b2, b3, b4, b5, recs⟩, rd, rc⟩ : BM) := ⟨_, rfl⟩
        rw [← hmy] at HFN HLIT HRW
        clear hmy
        have HB6 : Hid (Below u1.heap.size u1 (u1.alloc (.cells #[.int .i64 b0, .int .i64 b1, .int .i64 b2, .int .i64 b3, .bool b4, .int .i64 b5, .slice rd rn rc] 51))) := (Below.refl _ _).alloc (Nat.le_refl _) _
        have HBT : Hid (Below w1.heap.size w1 u1) := HBI.out.trans (HB2.out.mono HBI.out.size)
        have HBS : Hid (w1.heap.size ≤ (u1.alloc (.cells #[.int .i64 b0, .int .i64 b1, .int .i64 b2, .int .i64 b3, .bool b4, .int .i64 b5, .slice rd rn rc] 51)).heap.size) := Nat.le_trans HBT.out.size HB6.out.size
        have HON := Lib.hid ((HFO.out.on HB2.out).on HB6.out)
        go_wp2_with (at_builtin; refine list_row (by rfl) batK_ok (.tmp 30) (.tmp 32) rfl w1.heap.size fs [my] (.slice ad5 n5 cap5) rfl HON.out HBS.out (some ⟨u1.heap.size, 0, none⟩) 1 1 rfl (HLIT.out u1) (by rw [HFL.out]; omega) ?_)
        intro v6 w6 hap
        obtain ⟨ad6, cap6, hv6, _, _⟩ := OwnRow.row batK_ok hap.1 (n := n5 + 1) (by rw [List.length_append, HFL.out]; rfl)
        subst hv6
        have HO6 := Lib.hid (show OwnRow batK w6 w1.heap.size (.slice ad6 (n5 + 1) cap6) (fs ++ [my]) from hap.1)
        have HB7 : Hid (Below w1.heap.size w1 w6) := (HBT.out.trans (HB6.out.mono HBT.out.size)).grown hap.2.1 HBS.out fun q hq => (HON.out.lt q hq).1
        have HNL : Hid ((fs ++ [my]).length = n5 + 1) := by show _ = _; rw [List.length_append, HFL.out]; rfl
        clear hap HON HBS HB6
        go_wp2_with fail
        go_roundw
        case rel => exact ⟨i + 1, ad6, n5 + 1, cap6, fs ++ [my], by go_num, rfl, by omega, by omega, HNL.out, HFN.out, HO6.out, HRW.out, HB7.out⟩
        case measure => simp [intOf]; omega
      · have hdo : decide (off < b0 + cnt) = false := decide_eq_false hof
        have HFN : Hid (bats fs = ((bats ms).take (i + 1)).filter fun b => decide (off < endB b)) := by
          show _ = _
          rw [HTK.out, filter_snoc, if_neg (by rw [HEB.out]; simpa using hof), HFE.out]
        have HFO2 := Lib.hid (HFO.out.on HB2.out)
        have HBT : Hid (Below w1.heap.size w1 u1) := HBI.out.trans (HB2.out.mono HBI.out.size)
        go_wp2_with fail
        go_roundw
        case rel => exact ⟨i + 1, ad5, n5, cap5, fs, by go_num, rfl, by omega, by omega, HFL.out, HFN.out, HFO2.out, HFR.out, HBT.out⟩
        case measure => simp [intOf]; omega
    · have hd : decide (i < n1) = false := decide_eq_false hlt
      have HFN : Hid (bats fs = (bats ms).filter fun b => decide (off < endB b)) := by
        have h3 := HFE.out
        rw [List.take_of_length_le (by rw [HE.out, HN.out]; omega)] at h3
        exact h3
      obtain ⟨ad6, cap6, e6, hr6, _⟩ := OwnRow.row batK_ok HFO.out (n := n5) HFL.out
      cases e6
      have HRR := Lib.hid hr6
      clear hr6
      go_wp2_with fail
      go_ret
      exact ⟨ad5, n5, cap5, fs, rfl, ⟨HRR.out, HFR.out.keep HBI.out⟩, by rw [← HE.out]; exact HFN.out, HB1.out.trans (HBI.out.mono HB1.out.size)⟩
theorem recs_kept {w w' : World} {ad : Option Addr} {len cap : Nat} {l : List Rc} {G : Nat → Prop} (h : RecsAt w ad len cap l) (hk : Kept w w' G) (hr : len = 0 ∨ ∀ a, ad = some a → ¬ G a.block) : RecsAt w' ad len cap l := by
  refine ⟨h.length, h.fits, h.room, ?_⟩
  rcases hr with h0 | hr
  · exact .inl h0
  rcases h.cells with h0 | ⟨b, off, e, hlt, hc⟩
  · exact .inl h0
  · refine .inr ⟨b, off, e, Nat.lt_of_lt_of_le hlt hk.size, fun i x hi => ?_⟩
    have h1 := hc i x hi
    have e1 := hk.block b hlt (hr _ e)
    unfold World.cell? at h1 ⊢
    simp only [e1]
    exact h1
theorem bats_kept {w w' : World} {ad : Option Addr} {n cap : Nat} {ms : List BM} {G : Nat → Prop} (h : BatsAt w ad n cap ms) (hk : Kept w w' G) (h0 : ∀ a, ad = some a → ¬ G a.block) (h1 : ∀ m ∈ ms, m.b.recs.length = 0 ∨ ∀ a, m.ad = some a → ¬ G a.block) : BatsAt w' ad n cap ms :=
  ⟨hk.row h.row h0, fun m hm => recs_kept (h.ins m hm) hk (h1 m hm)⟩
set_option maxRecDepth 100000 in
set_option maxHeartbeats 8000000 in
theorem segBuild_any (w : World) (ad : Option Addr) (len cap : Nat) (p : List Nat) (h : Row w ad len cap p) (hL : len ≤ 100000) (base every : Int) (hb : I64 base) (he : I64 every) (l : List Bat) (hl : Scans base p l) :
    Calls Try.prog 17 #[.slice ad len cap, .int .i64 base, .int .i64 every] w (GivesBuild w base every l) := by
  have HP := Lib.hid h
  have HS := Lib.hid hl
  have HNL : Hid (l.length ≤ 10000) := by
    show _ ≤ _
    have h1 := scans_len hl
    have h2 := (flat_big hl.ok).1
    have h3 : p.length = len := h.len
    omega
  clear h hl
  have HPL : Hid ((flat l).length ≤ 100000) := by show _ ≤ _; have h1 := scans_len HS.out; have h3 : p.length = len := HP.out.len; omega
  go_enter Try.func17, Try.ntmps17
  go_wp2_with fail
  refine (ixNew_any w base every hb he).mono ?_
  rintro e w0 ⟨HB0, hc⟩
  rcases hc with ⟨hbad, rfl⟩ | ⟨hgood, k, F, rfl, HI, HF⟩
  · have HBAD := Lib.hid hbad
    clear hbad
    go_wp2_with fail
    go_ret2
    exact ⟨HB0, .inl ⟨HBAD.out, rfl⟩⟩
  have HG := Lib.hid hgood
  clear hgood
  go_wp2_with fail
  refine (segScan_any w0 ad len cap p (HP.out.keep HB0.out (Nat.le_refl _)) hL base hb).mono ?_
  rintro e w1 ⟨ad1, n1, cap1, ms, rfl, HM, HS1, HNW, HB1⟩
  have HE : Hid (bats ms = l) := scans_one _ _ _ _ HS1.out HS.out
  have HN : Hid (l.length = n1) := by show _ = _; rw [← HE.out, bats_len]; exact HM.out.row.length
  have HOK : Hid (RowOk (bats ms)) := by show RowOk _; rw [HE.out]; exact HS.out.ok
  have hn1 : n1 ≤ 10000 := by rw [← HN.out]; exact HNL.out
  rw [HE.out]
  clear HS1
  have HBZ : Hid (Below w.heap.size w w1) := HB0.out.trans (HB1.out.mono HB0.out.size)
  clear HB0
  have HI1 := Lib.hid (HI.out.on HB1.out)
  have hb00 : 0 ≤ base := HI.out.base0.1
  have HFL : Hid (∀ j, F j → j < w0.heap.size) := HI.out.lt
  have HK0 : Hid (Kept w1 w1 (fun j => j < w0.heap.size)) := Kept.refl _ _
  have HZ0 : Hid (w0.heap.size ≤ w1.heap.size) := HB1.out.size
  have HSEQ : Hid (SeqF base l ∧ RowOk l) := ⟨HS.out.seq, HS.out.ok⟩
  clear HI
  go_wp2_with fail
  go_loopw [11, 28] (fun v11 v28 wr => ∃ (i c : Nat) (Fi : Nat → Prop), v28 = .int .i64 (i : Int) ∧ v11 = .int .i64 (c : Int) ∧ i ≤ n1 ∧ c ≤ 100000 ∧ Hid (c = (flat (l.take i)).length) ∧ Hid (IxOk wr k Fi base every (places 0 (l.take i))) ∧ Hid (∀ j, Fi j → w.heap.size ≤ j ∧ (j < w0.heap.size ∨ w1.heap.size ≤ j)) ∧ Hid (Kept w1 wr (fun j => w.heap.size ≤ j ∧ j < w0.heap.size))) (fun _ v28 _ => n1 - (intOf v28).toNat)
  case atStart => exact ⟨0, 0, F, rfl, rfl, Nat.zero_le _, Nat.zero_le _, rfl, HI1.out, (fun j hj => ⟨HF.out j hj, .inl (HFL.out j hj)⟩), Kept.refl _ _⟩
  case round =>
    obtain ⟨i, c, Fi, rfl, rfl, hin, hc5, HC, HIX, HFI, HKI⟩ := hrel
    obtain ⟨wo, hwo⟩ : ∃ wo : World, wo = wr := ⟨_, rfl⟩
    subst hwo
    clear HI1 HK0
    by_cases hlt : i < n1
    · have hd : decide (i < n1) = true := decide_eq_true hlt
      have HMO : Hid (BatsAt wo ad1 n1 cap1 ms) := bats_kept HM.out HKI.out (fun a ha hg => by have := HNW.out.1 a ha; omega) (fun m hm => (HNW.out.2 m hm).imp id fun h a ha hg => by have := h a ha; omega)
      have HBR : Hid (Below wo.heap.size wo wo) := Below.refl _ wo
      have hij : (i : Int) < (n1 : Int) := by omega
      obtain ⟨bx, ox, mx, ex, hbx, hmx, hrx, x0, x1, x2, x3, x4, x5, x6⟩ := (HMO.out.keep HBR.out).get hlt
      subst ex
      have HMX := Lib.hid hmx
      have hin' : mx.b ∈ bats ms := List.mem_map.2 ⟨mx, List.mem_of_getElem? hmx, rfl⟩
      have HRT := Lib.hid (HOK.out mx.b hin')
      have HRX := Lib.hid hrx
      have HTK : Hid ((bats ms).take (i + 1) = (bats ms).take i ++ [mx.b]) := by
        show _ = _
        have : (bats ms)[i]? = some mx.b := by unfold bats; rw [List.getElem?_map, hmx]; rfl
        obtain ⟨h3, e3⟩ := List.getElem?_eq_some_iff.1 this
        rw [List.take_succ_eq_append_getElem h3, e3]
      obtain ⟨cnt, hcnt⟩ : ∃ c, c = countD mx.b := ⟨_, rfl⟩
      have HCB : Hid (1 ≤ cnt ∧ cnt ≤ 16) := by show _ ∧ _; rw [hcnt]; exact count_pos HRT.out.1
      have HB0 : Hid (0 ≤ mx.b.base ∧ mx.b.base ≤ 1099511627776) := ⟨(ok_of HRT.out.1).base0, (ok_of HRT.out.1).base1⟩
      have HEB : Hid (endB mx.b = mx.b.base + cnt) := by show _ = _; rw [hcnt]; rfl
      have HCN : Hid ((if mx.b.marker ≠ 0 then 1 else (mx.b.recs.length : Int)) = cnt) := by show _ = _; rw [hcnt]; rfl
      obtain ⟨Qb, hQb⟩ : ∃ Q, Q = (bytesB mx.b).length := ⟨_, rfl⟩
      have HQB := Lib.hid hQb
      have HQL : Hid (36 ≤ Qb ∧ Qb ≤ 2404) := by show _ ∧ _; rw [hQb]; have := ok_len (ok_of HRT.out.1); omega
      have HSZ : Hid (sizeB mx.b = (Qb : Int)) := by show _ = _; rw [hQb]; unfold sizeB; rw [if_pos HRT.out.1]
      clear hQb
      clear hmx hin' hrx hcnt
      obtain ⟨⟨b0, b1, b2, b3, b4, b5, recs⟩, rd, rc⟩ := mx
      simp only at x0 x1 x2 x3 x4 x5 x6 HB0 HCN HRX HEB HQB HSZ HRT
      obtain ⟨rn, hrn⟩ : ∃ n, n = recs.length := ⟨_, rfl⟩
      have HRN := Lib.hid hrn
      rw [← hrn] at x6
      have HCN2 : Hid ((if b5 ≠ 0 then 1 else (rn : Int)) = cnt) := by show _ = _; rw [hrn]; exact HCN.out
      clear hrn HCN
      have hw1 : IntKind.i64.wrap (b0 + cnt) = b0 + cnt := by rw [IntKind.wrap_i64]; have := HCB.out; have := HB0.out; omega
      have HXI : Hid (l[i]? = some (⟨b0, b1, b2, b3, b4, b5, recs⟩ : Bat)) := by show _ = _; rw [← HE.out]; unfold bats; rw [List.getElem?_map, HMX.out]; rfl
      have HTL : Hid (l.take (i + 1) = l.take i ++ [⟨b0, b1, b2, b3, b4, b5, recs⟩]) := by show _ = _; rw [← HE.out]; exact HTK.out
      have HCX : Hid (c + Qb = (flat (l.take (i + 1))).length) := by show _ = _; rw [HTL.out, flat_snoc, List.length_append, ← HC.out, HQB.out]
      have HC1 : Hid (c + Qb ≤ 100000) := by
        show _ ≤ _
        rw [HCX.out]
        have h2 : flat l = flat (l.take (i + 1)) ++ flat (l.drop (i + 1)) := by rw [← flat_app, List.take_append_drop]
        have h3 := HPL.out
        rw [h2, List.length_append] at h3
        omega
      have HSB : Hid (b0 = endD base (l.take i)) := by
        have h1 := seqF_take l base (i + 1) HSEQ.out.1
        rw [HTL.out] at h1
        exact ((seqF_snoc _ _ _).1 h1).2
      have HOKA : Hid (badA base (places 0 (l.take i)) b0 (c : Int) (Qb : Int) = false) := by
        have h1 := places_ok (b := ⟨b0, b1, b2, b3, b4, b5, recs⟩) (seqF_take l base i HSEQ.out.1) (rowOk_take HSEQ.out.2 i) hb00 HRT.out.1 HSB.out
        rw [← HC.out, ← HQB.out] at h1
        exact h1
      have HPLN : Hid (addA base (places 0 (l.take i)) b0 (c : Int) (Qb : Int) = places 0 (l.take (i + 1))) := by
        show _ = _
        unfold addA
        rw [HOKA.out, HTL.out, places_snoc, ← HC.out, ← HQB.out, Nat.zero_add]
        rfl
      have HSMI : Hid (Small (places 0 (l.take i))) := by
        refine ⟨by rw [places_len, List.length_take, HN.out]; omega, fun b hb => ?_⟩
        have h1 := places_in (l.take i) 0 (rowOk_take HSEQ.out.2 i) b hb
        rw [← HC.out] at h1
        exact ⟨by omega, by omega⟩
      have hw2 : IntKind.i64.wrap ((c : Int) + (Qb : Int)) = (c : Int) + (Qb : Int) := by rw [IntKind.wrap_i64]; have := HQL.out; omega
      go_upto_region 9 with fail
      obtain ⟨W1, hW1⟩ : ∃ z, z = wo.alloc (.cells #[.int .i64 b0, .int .i64 b1, .int .i64 b2, .int .i64 b3, .bool b4, .int .i64 b5, .slice rd rn rc] 51) := ⟨_, rfl⟩
      obtain ⟨kb, hkb⟩ : ∃ z, z = wo.heap.size := ⟨_, rfl⟩
      have HBW : Hid (Below wo.heap.size wo W1) := by show Below _ _ _; rw [hW1]; exact (Below.refl _ _).alloc (Nat.le_refl _) _
      have HX1 : Hid (BoxAt W1 kb b0 b1 b2 b3 b4 b5 (.slice rd rn rc)) := by show BoxAt _ _ _ _ _ _ _ _ _; rw [hW1, hkb]; exact boxAt_new wo _ _ _ _ _ _ _
      rw [← hW1, ← hkb]
      clear hW1 hkb x0 x1 x2 x3 x4 x5 x6
      have q0 := HX1.out.c0
      have q1 := HX1.out.c1
      have q2 := HX1.out.c2
      have q3 := HX1.out.c3
      have q4 := HX1.out.c4
      have q5 := HX1.out.c5
      have q6 := HX1.out.c6
      go_wp2_with fail
      refine (batSize_any W1 ⟨b0, b1, b2, b3, b4, b5, recs⟩ rd rn rc (by rw [HRN.out]; exact HRX.out.keep HBW.out) (texts_of (ok_of HRT.out.1).texts) (by rw [HRN.out]; have h16 : recs.length ≤ 16 := (ok_of HRT.out.1).recs; omega)).mono ?_
      rintro e u1 ⟨rfl, hb9⟩
      have HB2 : Hid (Below wo.heap.size wo u1) := HBW.out.trans (hb9.mono HBW.out.size)
      have HX2 := Lib.hid (HX1.out.on hb9)
      rw [HSZ.out]
      clear hb9 HBW HX1
      clear q0 q1 q2 q3 q4 q5 q6
      have q0 := HX2.out.c0
      go_wp2_with fail
      refine (ixAdd_any (HIX.out.on HB2.out) HSMI.out b0 (c : Int) (Qb : Int) ⟨by have := HB0.out; omega, by have := HB0.out; omega⟩ ⟨by omega, by omega⟩ ⟨by omega, by have := HQL.out; omega⟩).mono ?_
      rintro e u2 ⟨rfl, F2, HI2, HK2, HF2⟩
      rw [HPLN.out] at HI2
      have HFN : Hid (∀ j, F2 j → w.heap.size ≤ j ∧ (j < w0.heap.size ∨ w1.heap.size ≤ j)) := fun j hj => by
        rcases HF2.out j hj with h1 | h1
        · exact HFI.out j h1
        · have h2 := HB2.out.size
          have h3 := HKI.out.size
          have h4 := HZ0.out
          have h5 := HBZ.out.size
          exact ⟨by omega, .inr (by omega)⟩
      have HKN : Hid (Kept w1 u2 (fun j => w.heap.size ≤ j ∧ j < w0.heap.size)) := (HKI.out.trans (Kept.of_below (F := fun _ => False) HB2.out) (fun _ hf => hf.elim)).trans HK2.out fun j hj => by
        have h1 := HFI.out j hj
        rcases h1.2 with h2 | h2
        · exact .inl ⟨h1.1, h2⟩
        · exact .inr h2
      clear HK2 HF2 q0
      go_wp2_with fail
      go_roundw
      case rel => exact ⟨i + 1, c + Qb, F2, by go_num, by go_num, by omega, HC1.out, HCX.out, HI2.out, HFN.out, HKN.out⟩
      case measure => simp [intOf]; omega
    · have hd : decide (i < n1) = false := decide_eq_false hlt
      have HFULL : Hid (l.take i = l) := List.take_of_length_le (by rw [HN.out]; omega)
      rw [HFULL.out] at HIX
      have HBW : Hid (Below w.heap.size w wo) := HBZ.out.trans (HKI.out.below (fun j hj => hj.1) HBZ.out.size)
      go_wp2_with fail
      go_ret2
      exact ⟨HBW.out, .inr ⟨HG.out, k, Fi, rfl, HIX.out, fun j hj => (HFI.out j hj).1⟩⟩
end Go.Proofs.Ytlcnpeodhfdhlaa
