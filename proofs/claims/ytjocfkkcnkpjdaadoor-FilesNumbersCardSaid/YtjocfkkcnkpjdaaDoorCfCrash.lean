/- Chapter 7's files as the code has them: what a crash does to one. -/
import Derived.Test.YtjocfkkcnkpjdaaDoorCfRename
import Derived.Test.YtjocfkkcnkpjdaaDoorFsXor
import Derived.Laws.BitsAllLaws
namespace Go.Proofs.YtjocfkkcnkpjdaaDoor
open Go.RowKit
open Go.RuneMath
open Go.FsMath
set_option linter.unusedVariables false

/-- The blocks of one file. -/
def OneFoot (m : CM) (j : Nat) : Prop := j = m.k ∨ m.v.ownBlock = some j
theorem keep_eq (k : Int) (l d : Nat) (hd : d ≤ l) : (max (min k ((l - d : Nat) : Int)) 0).toNat ≤ l - d ∧ (((max (min k ((l - d : Nat) : Int)) 0).toNat : Nat) : Int) = max (min k ((l : Int) - (d : Int))) 0 := by
  constructor <;> omega
set_option maxRecDepth 100000 in
set_option maxHeartbeats 8000000 in
theorem ccrash_any (w : World) (kf km : Nat) (left done : Int) (ms : List CM) (h : CfOk w kf km left done ms) (i : Nat) (m : CM) (hm : ms[i]? = some m) (keep : Int) (hk0 : -9223372036854775808 ≤ keep) (hk1 : keep ≤ 9223372036854775807) (g : Nat) (hg : g < 256) (hbl : m.f.b.length ≤ 140737488355328) :
    Calls Tryd.prog 41 #[.pointer (some ⟨m.k, 0, none⟩), .int .i64 keep, .int .u8 (g : Int)] w fun e w' => e = .returned (.tuple #[]) ∧ CfOk w' kf km left done (ms.set i ⟨crashOne m.f keep (some g), m.k, m.ad, m.cap⟩) ∧ Kept w w' (OneFoot m) := by
  have hmm := List.mem_of_getElem? hm
  have hct := h.ct m hmm
  have hrow := h.row m hmm
  obtain ⟨L, hL⟩ : ∃ L, m.f.b.length = L := ⟨_, rfl⟩
  obtain ⟨D, hD⟩ : ∃ D, m.f.lasts = D := ⟨_, rfl⟩
  have hDL : D ≤ L := by rw [← hL, ← hD]; exact hrow.2.2
  rw [hL] at hbl
  obtain ⟨ad, cap, hcv, hcr, _⟩ := OwnRow.row byteK_ok hrow.1 hL
  have hcv2 := hcv
  unfold CM.v at hcv2
  simp only [Value.slice.injEq] at hcv2
  obtain ⟨ha, _, hc⟩ := hcv2
  rw [hcv, hD] at hct
  have hfits := hcr.fits
  obtain ⟨kk, hkk⟩ : ∃ kk, keepN m.f keep = kk := ⟨_, rfl⟩
  obtain ⟨hkl, hke⟩ := keep_eq keep L D hDL
  have hkk2 : (max (min keep ((L - D : Nat) : Int)) 0).toNat = kk := by rw [← hkk, ← hL, ← hD]; rfl
  rw [hkk2] at hkl hke
  have H := Lib.hid h
  have HM := Lib.hid hm
  have HMM := Lib.hid hmm
  have HCT := Lib.hid hct
  have HROW := Lib.hid hrow
  have HL := Lib.hid hL
  have HD := Lib.hid hD
  have HKK := Lib.hid hkk
  have HCV := Lib.hid hcv
  have HA := Lib.hid ha
  have HC := Lib.hid hc
  have KS0 : Hid (∀ W, Below w.heap.size w W → (fun (W : World) => W.cell? ⟨m.k, 0, none⟩ = some (.slice ad L cap) ∧ W.cell? ⟨m.k, 1, none⟩ = some (.int .i64 (D : Int))) W) := fun W hW => by
    have h1 := hct.same (hW.block m.k hct.lt)
    exact ⟨h1.c0, h1.c1⟩
  have KF0 : Hid (∀ W, Below w.heap.size w W → W.frozen? ⟨m.k, 0, none⟩ = false) := fun W hW => (hct.same (hW.block m.k hct.lt)).free 0
  have hdrw : Below w.heap.size w w.drew := (Below.refl _ w).drew
  have hw1 : IntKind.i64.wrap ((L : Int) - (D : Int)) = (L : Int) - (D : Int) := IntWalk.i64_in _ (by omega)
  clear h hm hmm hct hrow hL hD hkk hcv hcr ha hc hkk2
  go_enter Tryd.func41, Tryd.ntmps41
  go_upto_region 0 with fail
  refine wp_region_noPanic ?_
  refine wp_region_z [] (fun (W : World) => W.cell? ⟨m.k, 0, none⟩ = some (.slice ad L cap) ∧ W.cell? ⟨m.k, 1, none⟩ = some (.int .i64 (D : Int))) (by kernel_rfl) ?_
  have hHeld : (fun (W : World) => W.cell? ⟨m.k, 0, none⟩ = some (.slice ad L cap) ∧ W.cell? ⟨m.k, 1, none⟩ = some (.int .i64 (D : Int))) _ := KS0.out _ hdrw
  obtain ⟨u0, hu0⟩ : ∃ u, u = w.drew := ⟨_, rfl⟩
  rw [← hu0] at hHeld hdrw
  rw [← hu0]
  clear hu0
  have HB0 := Lib.hid hdrw
  clear hdrw
  refine wpAnyZ_take (i := 0) (oi := ⟨_, _, _, _, _, _⟩) (v := ?_) rfl (by kernel_rfl) (by kernel_rfl) (by kernel_rfl) (by kernel_rfl) (by kernel_rfl) (fun _ _ _ h => h) (Or.inl ⟨by rfl, ?_⟩) (by assumption) ?_
  rotate_left
  · intro W hSw
    (try dsimp only at hSw)
    go_simp
    (try with_reducible rfl)
  (try simp only [Act.put, List.setIfInBounds_toArray, List.set_cons_zero, List.set_cons_succ])
  refine wpAnyZ_take (i := 1) (oi := ⟨_, _, _, _, _, _⟩) (v := ?_) rfl (by kernel_rfl) (by kernel_rfl) (by kernel_rfl) (by kernel_rfl) (by kernel_rfl) (fun _ _ _ h => h) (Or.inl ⟨by rfl, ?_⟩) (by assumption) ?_
  rotate_left
  · intro W hSw
    (try dsimp only at hSw)
    go_simp
    (try with_reducible rfl)
  (try simp only [Act.put, List.setIfInBounds_toArray, List.set_cons_zero, List.set_cons_succ])
  refine wpAnyZ_take (i := 2) (oi := ⟨_, _, _, _, _, _⟩) (v := ?_) rfl (by kernel_rfl) (by kernel_rfl) (by kernel_rfl) (by kernel_rfl) (by kernel_rfl) (fun _ _ _ h => h) (Or.inl ⟨by rfl, ?_⟩) (by assumption) ?_
  rotate_left
  · intro W hSw
    (try dsimp only at hSw)
    go_simp
    (try with_reducible rfl)
  (try simp only [Act.put, List.setIfInBounds_toArray, List.set_cons_zero, List.set_cons_succ])
  refine wpAnyZ_take (i := 3) (oi := ⟨_, _, _, _, _, _⟩) (v := ?_) rfl (by kernel_rfl) (by kernel_rfl) (by kernel_rfl) (by kernel_rfl) (by kernel_rfl) (fun _ _ _ h => h) (Or.inl ⟨by rfl, ?_⟩) (by assumption) ?_
  rotate_left
  · intro W hSw
    (try dsimp only at hSw)
    go_simp
    (try with_reducible rfl)
  (try simp only [Act.put, List.setIfInBounds_toArray, List.set_cons_zero, List.set_cons_succ])
  refine wpAnyZ_take (i := 4) (oi := ⟨_, _, _, _, _, _⟩) (v := ?_) rfl (by kernel_rfl) (by kernel_rfl) (by kernel_rfl) (by kernel_rfl) (by kernel_rfl) (fun _ _ _ h => h) (Or.inl ⟨by rfl, ?_⟩) (by assumption) ?_
  rotate_left
  · intro W hSw
    (try dsimp only at hSw)
    go_simp
    (try with_reducible rfl)
  (try simp only [Act.put, List.setIfInBounds_toArray, List.set_cons_zero, List.set_cons_succ])
  refine wpAnyZ_take (i := 5) (oi := ⟨_, _, _, _, _, _⟩) (v := ?_) rfl (by kernel_rfl) (by kernel_rfl) (by kernel_rfl) (by kernel_rfl) (by kernel_rfl) (fun _ _ _ h => h) (Or.inl ⟨by rfl, ?_⟩) (by assumption) ?_
  rotate_left
  · intro W hSw
    (try dsimp only at hSw)
    go_simp
    (try with_reducible rfl)
  (try simp only [Act.put, List.setIfInBounds_toArray, List.set_cons_zero, List.set_cons_succ])
  refine wpAnyZ_take (i := 6) (oi := ⟨_, _, _, _, _, _⟩) (v := ?_) rfl (by kernel_rfl) (by kernel_rfl) (by kernel_rfl) (by kernel_rfl) (by kernel_rfl) (fun _ _ _ h => h) (Or.inl ⟨by rfl, ?_⟩) (by assumption) ?_
  rotate_left
  · intro W hSw
    (try dsimp only at hSw)
    go_simp
    (try with_reducible rfl)
  (try simp only [Act.put, List.setIfInBounds_toArray, List.set_cons_zero, List.set_cons_succ])
  refine wpAnyZ_take (i := 7) (oi := ⟨_, _, _, _, _, _⟩) (v := ?_) rfl (by kernel_rfl) (by kernel_rfl) (by kernel_rfl) (by kernel_rfl) (by kernel_rfl) (fun _ _ _ h => h) (Or.inl ⟨by rfl, ?_⟩) (by assumption) ?_
  rotate_left
  · intro W hSw
    (try dsimp only at hSw)
    go_simp
    (try with_reducible rfl)
  (try simp only [Act.put, List.setIfInBounds_toArray, List.set_cons_zero, List.set_cons_succ])
  refine wpAnyZ_take (i := 8) (oi := ⟨_, _, _, _, _, _⟩) (v := ?_) rfl (by kernel_rfl) (by kernel_rfl) (by kernel_rfl) (by kernel_rfl) (by kernel_rfl) (fun _ _ _ h => h) (Or.inl ⟨by rfl, ?_⟩) (by assumption) ?_
  rotate_left
  · intro W hSw
    (try dsimp only at hSw)
    go_simp
    (try with_reducible rfl)
  (try simp only [Act.put, List.setIfInBounds_toArray, List.set_cons_zero, List.set_cons_succ])
  refine wpAnyZ_take (i := 9) (oi := ⟨_, _, _, _, _, _⟩) (v := ?_) rfl (by kernel_rfl) (by kernel_rfl) (by kernel_rfl) (by kernel_rfl) (by kernel_rfl) (fun _ _ _ h => h) (Or.inl ⟨by rfl, ?_⟩) (by assumption) ?_
  rotate_left
  · intro W hSw
    (try dsimp only at hSw)
    go_simp
    (try with_reducible rfl)
  (try simp only [Act.put, List.setIfInBounds_toArray, List.set_cons_zero, List.set_cons_succ])
  refine wpAnyZ_take (i := 10) (oi := ⟨_, _, _, _, _, _⟩) (v := ?_) rfl (by kernel_rfl) (by kernel_rfl) (by kernel_rfl) (by kernel_rfl) (by kernel_rfl) (fun _ _ _ h => h) (Or.inl ⟨by rfl, ?_⟩) (by assumption) ?_
  rotate_left
  · intro W hSw
    (try dsimp only at hSw)
    go_simp
    (try with_reducible rfl)
  (try simp only [Act.put, List.setIfInBounds_toArray, List.set_cons_zero, List.set_cons_succ])
  refine wpAnyZ_take (i := 11) (oi := ⟨_, _, _, _, _, _⟩) (v := ?_) rfl (by kernel_rfl) (by kernel_rfl) (by kernel_rfl) (by kernel_rfl) (by kernel_rfl) (fun _ _ _ h => h) (Or.inl ⟨by rfl, ?_⟩) (by assumption) ?_
  rotate_left
  · intro W hSw
    (try dsimp only at hSw)
    go_simp
    (try with_reducible rfl)
  (try simp only [Act.put, List.setIfInBounds_toArray, List.set_cons_zero, List.set_cons_succ])
  refine wpAnyZ_take (i := 12) (oi := ⟨_, _, _, _, _, _⟩) (v := ?_) rfl (by kernel_rfl) (by kernel_rfl) (by kernel_rfl) (by kernel_rfl) (by kernel_rfl) (fun _ _ _ h => h) (Or.inl ⟨by rfl, ?_⟩) (by assumption) ?_
  rotate_left
  · intro W hSw
    (try dsimp only at hSw)
    go_simp
    (try with_reducible rfl)
  (try simp only [Act.put, List.setIfInBounds_toArray, List.set_cons_zero, List.set_cons_succ])
  refine wpAnyZ_take (i := 13) (oi := ⟨_, _, _, _, _, _⟩) (v := ?_) rfl (by kernel_rfl) (by kernel_rfl) (by kernel_rfl) (by kernel_rfl) (by kernel_rfl) (fun _ _ _ h => h) (Or.inl ⟨by rfl, ?_⟩) (by assumption) ?_
  rotate_left
  · intro W hSw
    (try dsimp only at hSw)
    go_simp
    (try with_reducible rfl)
  (try simp only [Act.put, List.setIfInBounds_toArray, List.set_cons_zero, List.set_cons_succ])
  refine wpAnyZ_done (by kernel_rfl) ?_ _
  refine NoPanic.normal ?_
  clear hHeld
  have hke2 : min (max keep 0) ((L : Int) - (D : Int)) = (kk : Int) := by omega
  rw [hke2]
  generalize max keep 0 = mk0
  obtain ⟨NN, hNN⟩ : ∃ n, n = D + kk := ⟨_, rfl⟩
  have hNI : (D : Int) + (kk : Int) = (NN : Int) := by omega
  have hwN : IntKind.i64.wrap (NN : Int) = (NN : Int) := IntWalk.i64_in _ (by omega)
  have hNL : NN ≤ L := by omega
  have hup : ∀ W, (Instr.slice 23 (.slice ad L cap) none (some (.int .i64 (NN : Int))) none).run Tryd.prog W = .ok (.slice ad NN cap) W := row_upto byteK_ok ad L cap NN (by omega)
  have HNN := Lib.hid hNN
  have hDN : D ≤ NN := by omega
  clear hNN hke hke2 hkl hw1
  go_upto_region 0 with fail
  have hdrw : Below u0.heap.size u0 u0.drew := (Below.refl _ u0).drew
  refine wp_region_noPanic ?_
  refine wp_region_z [14] (fun (W : World) => W.cell? ⟨m.k, 0, none⟩ = some (.slice ad L cap) ∧ W.cell? ⟨m.k, 1, none⟩ = some (.int .i64 (D : Int))) (by kernel_rfl) ?_
  have hHeld : (fun (W : World) => W.cell? ⟨m.k, 0, none⟩ = some (.slice ad L cap) ∧ W.cell? ⟨m.k, 1, none⟩ = some (.int .i64 (D : Int))) _ := KS0.out _ (HB0.out.trans (hdrw.mono HB0.out.size))
  obtain ⟨u1, hu1⟩ : ∃ u, u = u0.drew := ⟨_, rfl⟩
  rw [← hu1] at hHeld hdrw
  rw [← hu1]
  clear hu1
  have HB1 := Lib.hid (HB0.out.trans (hdrw.mono HB0.out.size))
  clear hdrw
  refine wpAnyZ_take (i := 0) (oi := ⟨_, _, _, _, _, _⟩) (v := ?_) rfl (by kernel_rfl) (by kernel_rfl) (by kernel_rfl) (by kernel_rfl) (by kernel_rfl) (fun _ _ _ h => h) (Or.inl ⟨by rfl, ?_⟩) (by assumption) ?_
  rotate_left
  · intro W hSw
    (try dsimp only at hSw)
    go_simp
    (try with_reducible rfl)
  (try simp only [Act.put, List.setIfInBounds_toArray, List.set_cons_zero, List.set_cons_succ])
  refine wpAnyZ_take (i := 1) (oi := ⟨_, _, _, _, _, _⟩) (v := ?_) rfl (by kernel_rfl) (by kernel_rfl) (by kernel_rfl) (by kernel_rfl) (by kernel_rfl) (fun _ _ _ h => h) (Or.inl ⟨by rfl, ?_⟩) (by assumption) ?_
  rotate_left
  · intro W hSw
    (try dsimp only at hSw)
    go_simp
    (try with_reducible rfl)
  (try simp only [Act.put, List.setIfInBounds_toArray, List.set_cons_zero, List.set_cons_succ])
  refine wpAnyZ_take (i := 2) (oi := ⟨_, _, _, _, _, _⟩) (v := ?_) rfl (by kernel_rfl) (by kernel_rfl) (by kernel_rfl) (by kernel_rfl) (by kernel_rfl) (fun _ _ _ h => h) (Or.inl ⟨by rfl, ?_⟩) (by assumption) ?_
  rotate_left
  · intro W hSw
    (try dsimp only at hSw)
    go_simp
    (try with_reducible rfl)
  (try simp only [Act.put, List.setIfInBounds_toArray, List.set_cons_zero, List.set_cons_succ])
  refine wpAnyZ_take (i := 3) (oi := ⟨_, _, _, _, _, _⟩) (v := ?_) rfl (by kernel_rfl) (by kernel_rfl) (by kernel_rfl) (by kernel_rfl) (by kernel_rfl) (fun _ _ _ h => h) (Or.inl ⟨by rfl, ?_⟩) (by assumption) ?_
  rotate_left
  · intro W hSw
    (try dsimp only at hSw)
    go_simp
    (try with_reducible rfl)
  (try simp only [Act.put, List.setIfInBounds_toArray, List.set_cons_zero, List.set_cons_succ])
  refine wpAnyZ_take (i := 4) (oi := ⟨_, _, _, _, _, _⟩) (v := ?_) rfl (by kernel_rfl) (by kernel_rfl) (by kernel_rfl) (by kernel_rfl) (by kernel_rfl) (fun _ _ _ h => h) (Or.inl ⟨by rfl, ?_⟩) (by assumption) ?_
  rotate_left
  · intro W hSw
    (try dsimp only at hSw)
    go_simp
    (try with_reducible rfl)
  (try simp only [Act.put, List.setIfInBounds_toArray, List.set_cons_zero, List.set_cons_succ])
  refine wpAnyZ_take (i := 5) (oi := ⟨_, _, _, _, _, _⟩) (v := ?_) rfl (by kernel_rfl) (by kernel_rfl) (by kernel_rfl) (by kernel_rfl) (by kernel_rfl) (fun _ _ _ h => h) (Or.inl ⟨by rfl, ?_⟩) (by assumption) ?_
  rotate_left
  · intro W hSw
    (try dsimp only at hSw)
    go_simp
    (try with_reducible rfl)
  (try simp only [Act.put, List.setIfInBounds_toArray, List.set_cons_zero, List.set_cons_succ])
  refine wpAnyZ_take (i := 6) (oi := ⟨_, _, _, _, _, _⟩) (v := ?_) rfl (by kernel_rfl) (by kernel_rfl) (by kernel_rfl) (by kernel_rfl) (by kernel_rfl) (fun _ _ _ h => h) (Or.inl ⟨by rfl, ?_⟩) (by assumption) ?_
  rotate_left
  · intro W hSw
    (try dsimp only at hSw)
    go_simp
    (try with_reducible rfl)
  (try simp only [Act.put, List.setIfInBounds_toArray, List.set_cons_zero, List.set_cons_succ])
  refine wpAnyZ_take (i := 7) (oi := ⟨_, _, _, _, _, _⟩) (v := ?_) rfl (by kernel_rfl) (by kernel_rfl) (by kernel_rfl) (by kernel_rfl) (by kernel_rfl) (fun _ _ _ h => h) (Or.inl ⟨by rfl, ?_⟩) (by assumption) ?_
  rotate_left
  · intro W hSw
    (try dsimp only at hSw)
    go_simp
    (try with_reducible rfl)
  (try simp only [Act.put, List.setIfInBounds_toArray, List.set_cons_zero, List.set_cons_succ])
  refine wpAnyZ_take (i := 8) (oi := ⟨_, _, _, _, _, _⟩) (v := ?_) rfl (by kernel_rfl) (by kernel_rfl) (by kernel_rfl) (by kernel_rfl) (by kernel_rfl) (fun _ _ _ h => h) (Or.inl ⟨by rfl, ?_⟩) (by assumption) ?_
  rotate_left
  · intro W hSw
    (try dsimp only at hSw)
    go_simp
    (try with_reducible rfl)
  (try simp only [Act.put, List.setIfInBounds_toArray, List.set_cons_zero, List.set_cons_succ])
  refine wpAnyZ_take (i := 9) (oi := ⟨_, _, _, _, _, _⟩) (v := ?_) rfl (by kernel_rfl) (by kernel_rfl) (by kernel_rfl) (by kernel_rfl) (by kernel_rfl) (fun _ _ _ h => h) (Or.inl ⟨by rfl, ?_⟩) (by assumption) ?_
  rotate_left
  · intro W hSw
    (try dsimp only at hSw)
    go_simp
    (try with_reducible rfl)
  (try simp only [Act.put, List.setIfInBounds_toArray, List.set_cons_zero, List.set_cons_succ])
  refine wpAnyZ_take (i := 10) (oi := ⟨_, _, _, _, _, _⟩) (v := ?_) rfl (by kernel_rfl) (by kernel_rfl) (by kernel_rfl) (by kernel_rfl) (by kernel_rfl) (fun _ _ _ h => h) (Or.inl ⟨by rfl, ?_⟩) (by assumption) ?_
  rotate_left
  · intro W hSw
    (try dsimp only at hSw)
    go_simp
    (try with_reducible rfl)
  (try simp only [Act.put, List.setIfInBounds_toArray, List.set_cons_zero, List.set_cons_succ])
  refine wpAnyZ_take (i := 11) (oi := ⟨_, _, _, _, _, _⟩) (v := ?_) rfl (by kernel_rfl) (by kernel_rfl) (by kernel_rfl) (by kernel_rfl) (by kernel_rfl) (fun _ _ _ h => h) (Or.inl ⟨by rfl, ?_⟩) (by assumption) ?_
  rotate_left
  · intro W hSw
    (try dsimp only at hSw)
    go_simp
    (try with_reducible rfl)
  (try simp only [Act.put, List.setIfInBounds_toArray, List.set_cons_zero, List.set_cons_succ])
  refine wpAnyZ_take (i := 12) (oi := ⟨_, _, _, _, _, _⟩) (v := ?_) rfl (by kernel_rfl) (by kernel_rfl) (by kernel_rfl) (by kernel_rfl) (by kernel_rfl) (fun _ _ _ h => h) (Or.inl ⟨by rfl, ?_⟩) (by assumption) ?_
  rotate_left
  · intro W hSw
    (try dsimp only at hSw)
    go_simp
    (try with_reducible rfl)
  (try simp only [Act.put, List.setIfInBounds_toArray, List.set_cons_zero, List.set_cons_succ])
  refine wpAnyZ_take (i := 13) (oi := ⟨_, _, _, _, _, _⟩) (v := ?_) rfl (by kernel_rfl) (by kernel_rfl) (by kernel_rfl) (by kernel_rfl) (by kernel_rfl) (fun _ _ _ h => h) (Or.inl ⟨by rfl, ?_⟩) (by assumption) ?_
  rotate_left
  · intro W hSw
    (try dsimp only at hSw)
    go_simp
    (try with_reducible rfl)
  (try simp only [Act.put, List.setIfInBounds_toArray, List.set_cons_zero, List.set_cons_succ])
  have t0 := (KS0.out _ HB1.out).1
  have t1 := KF0.out _ HB1.out
  refine wpAnyZ_ready (rs := [14]) (by kernel_rfl) (by simp) ?_
  refine AllReadyZ.cons (o := ⟨_, _, _, _, _, _⟩) rfl (fun C hC => ?_) AllReadyZ.nil
  go_simp
  refine hC.out _ _ (zfree_no (by kernel_rfl)) (fun _ => ?_)
  clear hC C
  (try simp only [Act.put, List.setIfInBounds_toArray, List.set_cons_zero, List.set_cons_succ])
  refine wpAnyZ_done (by kernel_rfl) ?_ _
  refine NoPanic.normal ?_
  obtain ⟨w1, hw1⟩ : ∃ wz, wz = u1.setCell ⟨m.k, 0, none⟩ (.slice ad NN cap) := ⟨_, rfl⟩
  obtain ⟨b0, hb0⟩ : ∃ b, b = m.f.b.take NN := ⟨_, rfl⟩
  have hb0l : b0.length = NN := by rw [hb0, List.length_take, HL.out]; omega
  have hb0a : AllB b0 := by rw [hb0]; exact take_all HROW.out.2.1 NN
  have HG1 : Hid (w.grownBy w1 (some m.k)) := by show World.grownBy _ _ _; rw [hw1]; exact grow_set (grow_below (grow_refl w _) HB1.out) 0 _
  have HC1 : Hid (CtBox w1 m.k (.slice ad NN cap) (D : Int)) := by show CtBox _ _ _ _; rw [hw1]; exact (HCT.out.same (HB1.out.block m.k HCT.out.lt)).s0 _
  have HY1 : Hid (OwnRow byteK w1 0 (.slice ad NN cap) b0) := by
    show OwnRow _ _ _ _ _
    have h1 := HROW.out.1
    rw [HCV.out] at h1
    have h2 := own_cut h1 HL.out NN hNL
    rw [hb0]
    refine h2.same fun q hq => HG1.out.block q (h2.lt q hq).2 fun e => ?_
    have h3 := H.out.row_ct HMM.out HMM.out
    rw [HCV.out] at h3
    apply h3
    rw [← Option.some.inj e, ← hq]
    cases ad <;> rfl
  have HB0V := Lib.hid hb0
  try rw [← hw1]
  clear hw1 hb0 hHeld t0 t1
  have KS1 : Hid (∀ W, Below w1.heap.size w1 W → (fun (W : World) => W.cell? ⟨m.k, 0, none⟩ = some (.slice ad NN cap) ∧ W.cell? ⟨m.k, 1, none⟩ = some (.int .i64 (D : Int))) W) := fun W hW => by
    have h1 := HC1.out.same (hW.block m.k HC1.out.lt)
    exact ⟨h1.c0, h1.c1⟩
  have hw3 : IntKind.i64.wrap ((NN : Int) - 64) = (NN : Int) - 64 := IntWalk.i64_in _ (by omega)
  go_upto_region 0 with fail
  have hdrw : Below w1.heap.size w1 w1.drew := (Below.refl _ w1).drew
  refine wp_region_noPanic ?_
  refine wp_region_z [] (fun (W : World) => W.cell? ⟨m.k, 0, none⟩ = some (.slice ad NN cap) ∧ W.cell? ⟨m.k, 1, none⟩ = some (.int .i64 (D : Int))) (by kernel_rfl) ?_
  have hHeld : (fun (W : World) => W.cell? ⟨m.k, 0, none⟩ = some (.slice ad NN cap) ∧ W.cell? ⟨m.k, 1, none⟩ = some (.int .i64 (D : Int))) _ := KS1.out _ hdrw
  obtain ⟨u2, hu2⟩ : ∃ u, u = w1.drew := ⟨_, rfl⟩
  rw [← hu2] at hHeld hdrw
  rw [← hu2]
  clear hu2
  have HB2 := Lib.hid hdrw
  clear hdrw
  refine wpAnyZ_take (i := 0) (oi := ⟨_, _, _, _, _, _⟩) (v := ?_) rfl (by kernel_rfl) (by kernel_rfl) (by kernel_rfl) (by kernel_rfl) (by kernel_rfl) (fun _ _ _ h => h) (Or.inl ⟨by rfl, ?_⟩) (by assumption) ?_
  rotate_left
  · intro W hSw
    (try dsimp only at hSw)
    go_simp
    (try with_reducible rfl)
  (try simp only [Act.put, List.setIfInBounds_toArray, List.set_cons_zero, List.set_cons_succ])
  refine wpAnyZ_take (i := 1) (oi := ⟨_, _, _, _, _, _⟩) (v := ?_) rfl (by kernel_rfl) (by kernel_rfl) (by kernel_rfl) (by kernel_rfl) (by kernel_rfl) (fun _ _ _ h => h) (Or.inl ⟨by rfl, ?_⟩) (by assumption) ?_
  rotate_left
  · intro W hSw
    (try dsimp only at hSw)
    go_simp
    (try with_reducible rfl)
  (try simp only [Act.put, List.setIfInBounds_toArray, List.set_cons_zero, List.set_cons_succ])
  refine wpAnyZ_take (i := 2) (oi := ⟨_, _, _, _, _, _⟩) (v := ?_) rfl (by kernel_rfl) (by kernel_rfl) (by kernel_rfl) (by kernel_rfl) (by kernel_rfl) (fun _ _ _ h => h) (Or.inl ⟨by rfl, ?_⟩) (by assumption) ?_
  rotate_left
  · intro W hSw
    (try dsimp only at hSw)
    go_simp
    (try with_reducible rfl)
  (try simp only [Act.put, List.setIfInBounds_toArray, List.set_cons_zero, List.set_cons_succ])
  refine wpAnyZ_take (i := 3) (oi := ⟨_, _, _, _, _, _⟩) (v := ?_) rfl (by kernel_rfl) (by kernel_rfl) (by kernel_rfl) (by kernel_rfl) (by kernel_rfl) (fun _ _ _ h => h) (Or.inl ⟨by rfl, ?_⟩) (by assumption) ?_
  rotate_left
  · intro W hSw
    (try dsimp only at hSw)
    go_simp
    (try with_reducible rfl)
  (try simp only [Act.put, List.setIfInBounds_toArray, List.set_cons_zero, List.set_cons_succ])
  refine wpAnyZ_take (i := 4) (oi := ⟨_, _, _, _, _, _⟩) (v := ?_) rfl (by kernel_rfl) (by kernel_rfl) (by kernel_rfl) (by kernel_rfl) (by kernel_rfl) (fun _ _ _ h => h) (Or.inl ⟨by rfl, ?_⟩) (by assumption) ?_
  rotate_left
  · intro W hSw
    (try dsimp only at hSw)
    go_simp
    (try with_reducible rfl)
  (try simp only [Act.put, List.setIfInBounds_toArray, List.set_cons_zero, List.set_cons_succ])
  refine wpAnyZ_take (i := 5) (oi := ⟨_, _, _, _, _, _⟩) (v := ?_) rfl (by kernel_rfl) (by kernel_rfl) (by kernel_rfl) (by kernel_rfl) (by kernel_rfl) (fun _ _ _ h => h) (Or.inl ⟨by rfl, ?_⟩) (by assumption) ?_
  rotate_left
  · intro W hSw
    (try dsimp only at hSw)
    go_simp
    (try with_reducible rfl)
  (try simp only [Act.put, List.setIfInBounds_toArray, List.set_cons_zero, List.set_cons_succ])
  refine wpAnyZ_take (i := 6) (oi := ⟨_, _, _, _, _, _⟩) (v := ?_) rfl (by kernel_rfl) (by kernel_rfl) (by kernel_rfl) (by kernel_rfl) (by kernel_rfl) (fun _ _ _ h => h) (Or.inl ⟨by rfl, ?_⟩) (by assumption) ?_
  rotate_left
  · intro W hSw
    (try dsimp only at hSw)
    go_simp
    (try with_reducible rfl)
  (try simp only [Act.put, List.setIfInBounds_toArray, List.set_cons_zero, List.set_cons_succ])
  refine wpAnyZ_take (i := 7) (oi := ⟨_, _, _, _, _, _⟩) (v := ?_) rfl (by kernel_rfl) (by kernel_rfl) (by kernel_rfl) (by kernel_rfl) (by kernel_rfl) (fun _ _ _ h => h) (Or.inl ⟨by rfl, ?_⟩) (by assumption) ?_
  rotate_left
  · intro W hSw
    (try dsimp only at hSw)
    go_simp
    (try with_reducible rfl)
  (try simp only [Act.put, List.setIfInBounds_toArray, List.set_cons_zero, List.set_cons_succ])
  refine wpAnyZ_take (i := 8) (oi := ⟨_, _, _, _, _, _⟩) (v := ?_) rfl (by kernel_rfl) (by kernel_rfl) (by kernel_rfl) (by kernel_rfl) (by kernel_rfl) (fun _ _ _ h => h) (Or.inl ⟨by rfl, ?_⟩) (by assumption) ?_
  rotate_left
  · intro W hSw
    (try dsimp only at hSw)
    go_simp
    (try with_reducible rfl)
  (try simp only [Act.put, List.setIfInBounds_toArray, List.set_cons_zero, List.set_cons_succ])
  refine wpAnyZ_take (i := 9) (oi := ⟨_, _, _, _, _, _⟩) (v := ?_) rfl (by kernel_rfl) (by kernel_rfl) (by kernel_rfl) (by kernel_rfl) (by kernel_rfl) (fun _ _ _ h => h) (Or.inl ⟨by rfl, ?_⟩) (by assumption) ?_
  rotate_left
  · intro W hSw
    (try dsimp only at hSw)
    go_simp
    (try with_reducible rfl)
  (try simp only [Act.put, List.setIfInBounds_toArray, List.set_cons_zero, List.set_cons_succ])
  refine wpAnyZ_take (i := 10) (oi := ⟨_, _, _, _, _, _⟩) (v := ?_) rfl (by kernel_rfl) (by kernel_rfl) (by kernel_rfl) (by kernel_rfl) (by kernel_rfl) (fun _ _ _ h => h) (Or.inl ⟨by rfl, ?_⟩) (by assumption) ?_
  rotate_left
  · intro W hSw
    (try dsimp only at hSw)
    go_simp
    (try with_reducible rfl)
  (try simp only [Act.put, List.setIfInBounds_toArray, List.set_cons_zero, List.set_cons_succ])
  refine wpAnyZ_take (i := 11) (oi := ⟨_, _, _, _, _, _⟩) (v := ?_) rfl (by kernel_rfl) (by kernel_rfl) (by kernel_rfl) (by kernel_rfl) (by kernel_rfl) (fun _ _ _ h => h) (Or.inl ⟨by rfl, ?_⟩) (by assumption) ?_
  rotate_left
  · intro W hSw
    (try dsimp only at hSw)
    go_simp
    (try with_reducible rfl)
  (try simp only [Act.put, List.setIfInBounds_toArray, List.set_cons_zero, List.set_cons_succ])
  refine wpAnyZ_done (by kernel_rfl) ?_ _
  refine NoPanic.normal ?_
  clear hHeld
  obtain ⟨s0, hs0⟩ : ∃ x, x = max D (NN - 64) := ⟨_, rfl⟩
  have hse : max (D : Int) ((NN : Int) - 64) = (s0 : Int) := by omega
  rw [hse]
  have hs0n : s0 ≤ NN := by omega
  have HS0 := Lib.hid hs0
  clear hse hs0 hw3 hup hwN hNI
  go_wp2
  go_loopw [7] (fun v7 wr => ∃ j : Nat, v7 = .int .i64 (j : Int) ∧ s0 ≤ j ∧ j ≤ NN ∧ Hid (OwnRow byteK wr 0 (.slice ad NN cap) (xorTo b0 s0 j g)) ∧ Hid (CtBox wr m.k (.slice ad NN cap) (D : Int)) ∧ Hid (Kept w wr (OneFoot m))) (fun v7 _ => NN - (intOf v7).toNat)
  case atStart => exact ⟨s0, rfl, Nat.le_refl _, hs0n, by show OwnRow _ _ _ _ _; rw [xorTo_start]; exact HY1.out.on HB2.out, HC1.out.same (HB2.out.block m.k HC1.out.lt), (Kept.of_grown HG1.out (.inl (.inl rfl))).trans (Kept.of_below (F := OneFoot m) HB2.out) fun i hi => .inl hi⟩
  case round =>
    obtain ⟨j, rfl, hj0, hj1, HYJ, HCJ, HKJ⟩ := hrel
    obtain ⟨wi, hwi2⟩ : ∃ wi : World, wi = wr := ⟨_, rfl⟩
    subst hwi2
    have d0 := HCJ.out.c0
    have hxl : (xorTo b0 s0 j g).length = NN := by rw [xorTo_len]; exact hb0l
    by_cases hjlt : j < NN
    · have hdj : decide ((j : Int) < (NN : Int)) = true := decide_eq_true (by omega)
      have hjl2 : (j : Int) < (NN : Int) := by omega
      obtain ⟨a1, c1, e1, hrx, _⟩ := OwnRow.row byteK_ok HYJ.out hxl
      cases e1
      obtain ⟨bk, ok, x, ex2, hbk, hxj, cx⟩ := hrx.get hjlt
      have cx := cx 0 _ rfl
      rcases HYJ.out.2 with ⟨h0, _⟩ | ⟨gb, c2, cur, e3, _, hh, _⟩
      · rw [ex2] at h0; cases h0
      rw [hxl] at e3
      cases e3
      cases ex2
      rw [show 0 + (j * byteK.size + 0) = j by show 0 + (j * 1 + 0) = j; omega] at cx
      have fx : wi.frozen? ⟨bk, j, none⟩ = false := frozen_of_row wi bk j _ _ hh
      have hxo : x < 256 := xorTo_all hb0a hg x (List.mem_of_getElem? hxj)
      have hb0x : b0[j]? = some x := by
        have h1 := hxj
        rw [xorTo_get] at h1
        cases hy : b0[j]? with
        | none => rw [hy] at h1; cases h1
        | some y =>
          rw [hy] at h1
          simp only [Option.map_some] at h1
          rw [if_neg (by omega)] at h1
          exact h1
      have hxo2 : bits BinOp.xor IntKind.u8 (x : Int) (g : Int) = ((x ^^^ g : Nat) : Int) := u8_xor_nat x g hxo hg
      have HX2 := Lib.hid hxo2
      have HBX := Lib.hid hb0x
      have HOB : Hid (m.v.ownBlock = some bk) := by show _ = _; rw [HCV.out]; rfl
      have HNE : Hid (bk ≠ m.k) := fun e => H.out.row_ct HMM.out HMM.out (by rw [← e]; exact HOB.out)
      clear hrx hh hxj hb0x hxo2
      go_wp2
      obtain ⟨wy, hwy⟩ : ∃ wy, wy = wi.setCell ⟨bk, j, none⟩ (.int .u8 (bits BinOp.xor IntKind.u8 (x : Int) (g : Int))) := ⟨_, rfl⟩
      have hgy : wi.grownBy wy (some bk) := by rw [hwy]; exact grow_one wi bk j _
      have HYN : Hid (OwnRow byteK wy 0 (.slice (some ⟨bk, 0, none⟩) NN cap) (xorTo b0 s0 (j + 1) g)) := by
        show OwnRow _ _ _ _ _
        have h1 := own_bytes.1 HYJ.out
        rw [hxl] at h1
        have h2 := own_turned (k := j) (y := x ^^^ g) h1 HX2.out
        rw [hwy]
        have e : (xorTo b0 s0 j g).set j (x ^^^ g) = xorTo b0 s0 (j + 1) g := xorTo_step HBX.out hj0
        rw [e] at h2
        refine own_bytes.2 ?_
        rw [xorTo_len, hb0l]
        exact h2
      have HCN : Hid (CtBox wy m.k (.slice (some ⟨bk, 0, none⟩) NN cap) (D : Int)) := HCJ.out.same (hgy.block m.k HCJ.out.lt fun e => HNE.out (Option.some.inj e).symm)
      have HKN : Hid (Kept w wy (OneFoot m)) := HKJ.out.trans (Kept.of_grown (F := OneFoot m) hgy (.inl (.inr HOB.out))) fun i hi => .inl hi
      try rw [← hwy]
      clear hwy hgy d0 cx fx
      go_roundw
      case rel => exact ⟨j + 1, by go_num, by omega, by omega, HYN.out, HCN.out, HKN.out⟩
      case measure => simp [intOf]; omega
    · have hdj : decide ((j : Int) < (NN : Int)) = false := decide_eq_false (by omega)
      have f1 := HCJ.out.free 1
      have d1 := HCJ.out.c1
      go_wp2
      go_end0
      have hCO : crashOne m.f keep (some g) = ⟨m.f.name, xorTo b0 s0 j g, NN⟩ := by
        unfold crashOne
        simp only
        have e1 : m.f.lasts + keepN m.f keep = NN := by rw [HD.out, HKK.out, HNN.out]
        rw [e1, ← HB0V.out, hb0l, HD.out, ← HS0.out, ← xorTo_end b0 s0 j g (by omega), hxl]
      have hgz : wi.grownBy (wi.setCell ⟨m.k, 1, none⟩ (.int .i64 (NN : Int))) (some m.k) := grow_one wi m.k 1 _
      have hkz : Kept w (wi.setCell ⟨m.k, 1, none⟩ (.int .i64 (NN : Int))) (OneFoot m) := HKJ.out.trans (Kept.of_grown (F := OneFoot m) hgz (.inl (.inl rfl))) fun i hi => .inl hi
      refine ⟨rfl, ?_, hkz⟩
      rw [hCO]
      have hmv : (CM.mk ⟨m.f.name, xorTo b0 s0 j g, NN⟩ m.k m.ad m.cap).v = .slice ad NN cap := by unfold CM.v; simp only; rw [hxl, HA.out, HC.out]
      refine H.out.filed HM.out (m' := ⟨⟨m.f.name, xorTo b0 s0 j g, NN⟩, m.k, m.ad, m.cap⟩) rfl rfl (by rw [hmv]; exact HCJ.out.s1 _) ⟨?_, xorTo_all hb0a hg, by simp only; omega⟩ (fun q hq h1 h2 => hkz.block q hq fun h3 => ?_) fun q hq => .inl ?_
      · rw [hmv]
        refine HYJ.out.same fun q hq => hgz.block q (HYJ.out.lt q hq).2 fun e => H.out.row_ct HMM.out HMM.out ?_
        rw [HCV.out, ← Option.some.inj e, ← hq]
        cases ad <;> rfl
      · rcases h3 with h3 | h3
        · exact h1 h3
        · exact h2 h3
      · rw [hmv] at hq
        rw [HCV.out, ← hq]
        cases ad <;> rfl
end Go.Proofs.YtjocfkkcnkpjdaaDoor
