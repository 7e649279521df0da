/- The law's same: the code's file system, and the document's own. Chapter 7's files as the code has them: Copy. The code's file system beside the document's own; each call on one side. -/
import Derived.Test.YtjocfkkcnkpjdaaDoorFlApart
import Derived.Test.YtjocfkkcnkpjdaaDoorFlAsk
import Derived.Test.YtjocfkkcnkpjdaaDoorCfList
import Derived.Test.YtjocfkkcnkpjdaaDoorFsAppend
import Derived.Test.YtjocfkkcnkpjdaaDoorFsRename
import Derived.Test.YtjocfkkcnkpjdaaDoorFsCrash
import Derived.Test.YtjocfkkcnkpjdaaDoorFsNew
/-! The law's same: the code's file system, and the document's own. -/
namespace Go.Proofs.YtjocfkkcnkpjdaaDoor
open Go.RowKit
open Go.RuneMath
open Go.FsMath
set_option linter.unusedVariables false

set_option maxRecDepth 100000 in
set_option maxHeartbeats 16000000 in
theorem same_any (W w w1 : World) (X : Nat → Prop) (kf : Nat) (s : Fs) (h : One W X w1 w kf s) (kw : Nat) (v : Value) (left : Int) (ms : List FM) (hr : FsOk w kw v left s.done ms) (hfl : fls ms = s.l) (hL : s.l.length ≤ 10000) (hB : ∀ f ∈ s.l, f.b.length ≤ 140737488355328) (hT : Tabs W) (h2 : 2 ≤ W.heap.size) :
    Calls Tryd.prog 32 #[.pointer (some ⟨kf, 0, none⟩), .pointer (some ⟨kw, 0, none⟩)] w fun e w' => e = .returned (.bool true) ∧ Below w.heap.size w w' := by
  obtain ⟨N, hN⟩ : ∃ n, ms.length = n := ⟨_, rfl⟩
  have hsl : s.l.length = N := by rw [← hfl]; unfold fls; rw [List.length_map]; exact hN
  obtain ⟨fad, fcap, hv, _, _⟩ := OwnRow.row2 flK_ok hr.row hN
  subst hv
  have hN10 : N ≤ 10000 := by omega
  have H := Lib.hid h
  have HR := Lib.hid hr
  have HFL := Lib.hid hfl
  have HSL := Lib.hid hsl
  have HNV := Lib.hid hN
  have HB := Lib.hid hB
  have HT := Lib.hid hT
  have HL := Lib.hid hL
  clear h hr hfl hsl hN hB hT hL
  go_enter Tryd.func32, Tryd.ntmps32
  go_wp2_with fail
  refine (oneList H.out HL.out HT.out h2).mono ?_
  rintro e w5 ⟨hb5, ad5, cap5, rfl, hr5⟩
  obtain ⟨nms, hnms⟩ : ∃ x, x = s.l.map (·.name) := ⟨_, rfl⟩
  have hM : nms.length = N := by rw [hnms, List.length_map]; exact HSL.out
  rw [← hnms, hM] at hr5
  rw [← hnms, hM]
  have HR5 := Lib.hid hr5.out.1
  have HNMS := Lib.hid hnms
  have H5 := Lib.hid (H.out.on hb5.out)
  have HF5 := Lib.hid (HR.out.keep hb5.out)
  have HB5 := Lib.hid hb5.out
  have KS : Hid (∀ V, Below w5.heap.size w5 V → (fun (V : World) => V.cell? ⟨kw, 0, none⟩ = some (.slice fad N fcap) ∧ V.cell? ⟨kw, 2, none⟩ = some (.int .i64 s.done)) V) := fun V hV => ⟨(HF5.out.box.on hV).c0, (HF5.out.box.on hV).c2⟩
  have hdrw : Below w5.heap.size w5 w5.drew := (Below.refl _ w5).drew
  clear hr5 hnms hM H HR hb5
  go_upto_region 2 with fail
  refine wp_region_noPanic ?_
  refine wp_region_z [] (fun (V : World) => V.cell? ⟨kw, 0, none⟩ = some (.slice fad N fcap) ∧ V.cell? ⟨kw, 2, none⟩ = some (.int .i64 s.done)) (by kernel_rfl) ?_
  have hHeld : (fun (V : World) => V.cell? ⟨kw, 0, none⟩ = some (.slice fad N fcap) ∧ V.cell? ⟨kw, 2, none⟩ = some (.int .i64 s.done)) _ := KS.out _ hdrw
  obtain ⟨u0, hu0⟩ : ∃ u, u = w5.drew := ⟨_, rfl⟩
  rw [← hu0] at hHeld hdrw
  rw [← hu0]
  clear hu0
  have HBU := Lib.hid hdrw
  have HO := Lib.hid (H5.out.on hdrw)
  clear hdrw
  refine wpAnyZ_take (i := 0) (oi := ⟨_, _, _, _, _, _⟩) (v := ?_) rfl (by kernel_rfl) (by kernel_rfl) (by kernel_rfl) (by kernel_rfl) (by kernel_rfl) (fun _ _ _ h => h) (Or.inl ⟨by rfl, ?_⟩) (by assumption) ?_
  rotate_left
  · intro W hSw
    (try dsimp only at hSw)
    go_simp
    (try with_reducible rfl)
  (try simp only [Act.put, List.setIfInBounds_toArray, List.set_cons_zero, List.set_cons_succ])
  refine wpAnyZ_take (i := 1) (oi := ⟨_, _, _, _, _, _⟩) (v := ?_) rfl (by kernel_rfl) (by kernel_rfl) (by kernel_rfl) (by kernel_rfl) (by kernel_rfl) (fun _ _ _ h => h) (Or.inl ⟨by rfl, ?_⟩) (by assumption) ?_
  rotate_left
  · intro W hSw
    (try dsimp only at hSw)
    go_simp
    (try with_reducible rfl)
  (try simp only [Act.put, List.setIfInBounds_toArray, List.set_cons_zero, List.set_cons_succ])
  refine wpAnyZ_take (i := 2) (oi := ⟨_, _, _, _, _, _⟩) (v := ?_) rfl (by kernel_rfl) (by kernel_rfl) (by kernel_rfl) (by kernel_rfl) (by kernel_rfl) (fun _ _ _ h => h) (Or.inl ⟨by rfl, ?_⟩) (by assumption) ?_
  rotate_left
  · intro W hSw
    (try dsimp only at hSw)
    go_simp
    (try with_reducible rfl)
  (try simp only [Act.put, List.setIfInBounds_toArray, List.set_cons_zero, List.set_cons_succ])
  refine wpAnyZ_take (i := 3) (oi := ⟨_, _, _, _, _, _⟩) (v := ?_) rfl (by kernel_rfl) (by kernel_rfl) (by kernel_rfl) (by kernel_rfl) (by kernel_rfl) (fun _ _ _ h => h) (Or.inl ⟨by rfl, ?_⟩) (by assumption) ?_
  rotate_left
  · intro W hSw
    (try dsimp only at hSw)
    go_simp
    (try with_reducible rfl)
  (try simp only [Act.put, List.setIfInBounds_toArray, List.set_cons_zero, List.set_cons_succ])
  refine wpAnyZ_take (i := 4) (oi := ⟨_, _, _, _, _, _⟩) (v := ?_) rfl (by kernel_rfl) (by kernel_rfl) (by kernel_rfl) (by kernel_rfl) (by kernel_rfl) (fun _ _ _ h => h) (Or.inl ⟨by rfl, ?_⟩) (by assumption) ?_
  rotate_left
  · intro W hSw
    (try dsimp only at hSw)
    go_simp
    (try with_reducible rfl)
  (try simp only [Act.put, List.setIfInBounds_toArray, List.set_cons_zero, List.set_cons_succ])
  refine wpAnyZ_take (i := 5) (oi := ⟨_, _, _, _, _, _⟩) (v := ?_) rfl (by kernel_rfl) (by kernel_rfl) (by kernel_rfl) (by kernel_rfl) (by kernel_rfl) (fun _ _ _ h => h) (Or.inl ⟨by rfl, ?_⟩) (by assumption) ?_
  rotate_left
  · intro W hSw
    (try dsimp only at hSw)
    go_simp
    (try with_reducible rfl)
  (try simp only [Act.put, List.setIfInBounds_toArray, List.set_cons_zero, List.set_cons_succ])
  refine wpAnyZ_take (i := 6) (oi := ⟨_, _, _, _, _, _⟩) (v := ?_) rfl (by kernel_rfl) (by kernel_rfl) (by kernel_rfl) (by kernel_rfl) (by kernel_rfl) (fun _ _ _ h => h) (Or.inl ⟨by rfl, ?_⟩) (by assumption) ?_
  rotate_left
  · intro W hSw
    (try dsimp only at hSw)
    go_simp
    (try with_reducible rfl)
  (try simp only [Act.put, List.setIfInBounds_toArray, List.set_cons_zero, List.set_cons_succ])
  refine wpAnyZ_take (i := 7) (oi := ⟨_, _, _, _, _, _⟩) (v := ?_) rfl (by kernel_rfl) (by kernel_rfl) (by kernel_rfl) (by kernel_rfl) (by kernel_rfl) (fun _ _ _ h => h) (Or.inl ⟨by rfl, ?_⟩) (by assumption) ?_
  rotate_left
  · intro W hSw
    (try dsimp only at hSw)
    go_simp
    (try with_reducible rfl)
  (try simp only [Act.put, List.setIfInBounds_toArray, List.set_cons_zero, List.set_cons_succ])
  refine wpAnyZ_take (i := 8) (oi := ⟨_, _, _, _, _, _⟩) (v := ?_) rfl (by kernel_rfl) (by kernel_rfl) (by kernel_rfl) (by kernel_rfl) (by kernel_rfl) (fun _ _ _ h => h) (Or.inl ⟨by rfl, ?_⟩) (by assumption) ?_
  rotate_left
  · intro W hSw
    (try dsimp only at hSw)
    go_simp
    (try with_reducible rfl)
  (try simp only [Act.put, List.setIfInBounds_toArray, List.set_cons_zero, List.set_cons_succ])
  refine wpAnyZ_take (i := 9) (oi := ⟨_, _, _, _, _, _⟩) (v := ?_) rfl (by kernel_rfl) (by kernel_rfl) (by kernel_rfl) (by kernel_rfl) (by kernel_rfl) (fun _ _ _ h => h) (Or.inl ⟨by rfl, ?_⟩) (by assumption) ?_
  rotate_left
  · intro W hSw
    (try dsimp only at hSw)
    go_simp
    (try with_reducible rfl)
  (try simp only [Act.put, List.setIfInBounds_toArray, List.set_cons_zero, List.set_cons_succ])
  refine wpAnyZ_take (i := 11) (oi := ⟨_, _, _, _, _, _⟩) (v := ?_) rfl (by kernel_rfl) (by kernel_rfl) (by kernel_rfl) (by kernel_rfl) (by kernel_rfl) (fun _ _ _ h => h) (Or.inl ⟨by rfl, ?_⟩) (by assumption) ?_
  rotate_left
  · intro W hSw
    (try dsimp only at hSw)
    go_simp
    (try with_reducible rfl)
  (try simp only [Act.put, List.setIfInBounds_toArray, List.set_cons_zero, List.set_cons_succ])
  refine wpAnyZ_take (i := 12) (oi := ⟨_, _, _, _, _, _⟩) (v := ?_) rfl (by kernel_rfl) (by kernel_rfl) (by kernel_rfl) (by kernel_rfl) (by kernel_rfl) (fun _ _ _ h => h) (Or.inl ⟨by rfl, ?_⟩) (by assumption) ?_
  rotate_left
  · intro W hSw
    (try dsimp only at hSw)
    go_simp
    (try with_reducible rfl)
  (try simp only [Act.put, List.setIfInBounds_toArray, List.set_cons_zero, List.set_cons_succ])
  refine wpAnyZ_take (i := 13) (oi := ⟨_, _, _, _, _, _⟩) (v := ?_) rfl (by kernel_rfl) (by kernel_rfl) (by kernel_rfl) (by kernel_rfl) (by kernel_rfl) (fun _ _ _ h => h) (Or.inl ⟨by rfl, ?_⟩) (by assumption) ?_
  rotate_left
  · intro W hSw
    (try dsimp only at hSw)
    go_simp
    (try with_reducible rfl)
  (try simp only [Act.put, List.setIfInBounds_toArray, List.set_cons_zero, List.set_cons_succ])
  refine wpAnyZ_take (i := 14) (oi := ⟨_, _, _, _, _, _⟩) (v := ?_) rfl (by kernel_rfl) (by kernel_rfl) (by kernel_rfl) (by kernel_rfl) (by kernel_rfl) (fun _ _ _ h => h) (Or.inl ⟨by rfl, ?_⟩) (by assumption) ?_
  rotate_left
  · intro W hSw
    (try dsimp only at hSw)
    go_simp
    (try with_reducible rfl)
  (try simp only [Act.put, List.setIfInBounds_toArray, List.set_cons_zero, List.set_cons_succ])
  refine wpAnyZ_ready (rs := [10]) (by kernel_rfl) (by simp) ?_
  refine AllReadyZ.cons (o := ⟨_, _, _, _, _, _⟩) rfl (fun C hC => ?_) AllReadyZ.nil
  go_simp
  refine (oneDeeds HO.out).mono ?_
  rintro e u1 ⟨rfl, rfl⟩
  have hHeld : (fun (V : World) => V.cell? ⟨kw, 0, none⟩ = some (.slice fad N fcap) ∧ V.cell? ⟨kw, 2, none⟩ = some (.int .i64 s.done)) u0 := hHeld
  refine hC.out _ _ (fun _ => hHeld) (fun _ => ?_)
  clear hC C
  refine wpAnyZ_take (i := 15) (oi := ⟨_, _, _, _, _, _⟩) (v := ?_) rfl (by kernel_rfl) (by kernel_rfl) (by kernel_rfl) (by kernel_rfl) (by kernel_rfl) (fun _ _ _ h => h) (Or.inl ⟨by rfl, ?_⟩) (by assumption) ?_
  rotate_left
  · intro W hSw
    (try dsimp only at hSw)
    go_simp
    (try with_reducible rfl)
  (try simp only [Act.put, List.setIfInBounds_toArray, List.set_cons_zero, List.set_cons_succ])
  refine wpAnyZ_take (i := 16) (oi := ⟨_, _, _, _, _, _⟩) (v := ?_) rfl (by kernel_rfl) (by kernel_rfl) (by kernel_rfl) (by kernel_rfl) (by kernel_rfl) (fun _ _ _ h => h) (Or.inl ⟨by rfl, ?_⟩) (by assumption) ?_
  rotate_left
  · intro W hSw
    (try dsimp only at hSw)
    go_simp
    (try with_reducible rfl)
  (try simp only [Act.put, List.setIfInBounds_toArray, List.set_cons_zero, List.set_cons_succ])
  refine wpAnyZ_done (by kernel_rfl) ?_ _
  refine NoPanic.normal ?_
  clear hHeld HO
  go_wp2_with fail
  go_loopw [30] (fun v30 wr => ∃ j : Nat, v30 = .int .i64 (j : Int) ∧ j ≤ N ∧ Hid (Below w5.heap.size w5 wr)) (fun v30 _ => N - (intOf v30).toNat)
  case atStart => exact ⟨0, by rfl, by omega, HBU.out⟩
  case round =>
    obtain ⟨j, rfl, hj, HBJ⟩ := hrel
    obtain ⟨wi, hwi⟩ : ∃ wi : World, wi = wr := ⟨_, rfl⟩
    subst hwi
    clear HBU KS
    by_cases hjM : j < N
    · have hdj : decide (j < N) = true := decide_eq_true hjM
      have hjM2 : (j : Int) < (N : Int) := by omega
      obtain ⟨g, len, cap2, m, hvv, hlen, hm, _, hgw, _, c0, c1, _, _⟩ := fs_open (i := j) HF5.out (by rw [HNV.out]; exact hjM)
      obtain ⟨rfl, rfl, rfl⟩ : fad = some ⟨g, 0, none⟩ ∧ N = len ∧ fcap = cap2 := by
        simp only [Value.slice.injEq] at hvv
        exact hvv
      have hmf : s.l[j]? = some m.f := by rw [← HFL.out]; unfold fls; rw [List.getElem?_map, hm]; rfl
      have hfm := List.mem_of_getElem? hmf
      obtain ⟨nm, hnm⟩ : ∃ nm, nm = m.f.name := ⟨_, rfl⟩
      have hnj : nms[j]? = some nm := by rw [HNMS.out, List.getElem?_map, hmf, hnm]; rfl
      have HTJ := Lib.hid (H5.out.on HBJ.out)
      obtain ⟨hba, hnz⟩ := HTJ.out.all m.f hfm
      have HRD : Hid (readF s.l nm = some m.f.b) := by show _ = _; rw [hnm]; exact read_of HTJ.out.sorted hfm
      have HLN : Hid (lenF s.l nm = m.f.b.length) := by show _ = _; rw [hnm]; exact len_of HTJ.out.sorted hfm
      have hnz2 : nm.size ≤ 1073741824 := by rw [hnm]; exact hnz
      have HBA := Lib.hid hba
      have HMR := Lib.hid (HF5.out.ins m (List.mem_of_getElem? hm)).1
      rw [← hnm] at c0
      obtain ⟨q5, o5, n5, e5, hq5, hn5, c5⟩ := str_get HR5.out hjM
      rw [hnj] at hn5
      have e5n : nm = n5 := Option.some.inj hn5
      rw [← e5n] at c5
      subst e5
      have KC : Hid (∀ V, Below w5.heap.size w5 V → V.cell? ⟨q5, o5 + j, none⟩ = some (.string nm) ∧ V.cell? ⟨kw, 0, none⟩ = some (.slice (some ⟨g, 0, none⟩) N fcap) ∧ V.cell? ⟨g, j * 3, none⟩ = some (.string nm) ∧ V.cell? ⟨g, j * 3 + 1, none⟩ = some (.slice m.ad m.f.b.length m.cap)) := fun V hV =>
        ⟨(hV.cell (p := ⟨q5, o5 + j, none⟩) hq5).trans c5, (HF5.out.box.on hV).c0, (hV.cell (p := ⟨g, j * 3, none⟩) hgw).trans c0, (hV.cell (p := ⟨g, j * 3 + 1, none⟩) hgw).trans c1⟩
      have t5 := (KC.out wi HBJ.out).1
      clear hvv hlen hm hmf hfm hnm hnj hba hnz hn5 e5n c0 c1 c5
      go_wp2_with fail
      refine (oneRead HTJ.out nm hnz2 HB.out).mono ?_
      rintro e w7 hrd
      rw [HRD.out] at hrd
      obtain ⟨hb7, ad7, cap7, rfl, hr7⟩ := hrd
      obtain ⟨FL, hFL⟩ : ∃ n, n = m.f.b.length := ⟨_, rfl⟩
      rw [← hFL] at hr7 HLN KC HMR
      rw [← hFL]
      have H7 := Lib.hid (HTJ.out.on hb7.out)
      have HB7 := Lib.hid (HBJ.out.trans (hb7.out.mono HBJ.out.size))
      have HX7 := Lib.hid hr7.out.1
      obtain ⟨sB, hsB⟩ : ∃ z, z = str m.f.b := ⟨_, rfl⟩
      have KV : Hid (∀ V, Below w7.heap.size w7 V → (fun (V : World) => V.cell? ⟨q5, o5 + j, none⟩ = some (.string nm) ∧ V.cell? ⟨kw, 0, none⟩ = some (.slice (some ⟨g, 0, none⟩) N fcap) ∧ V.cell? ⟨g, j * 3, none⟩ = some (.string nm) ∧ V.cell? ⟨g, j * 3 + 1, none⟩ = some (.slice m.ad FL m.cap) ∧ (convert 23 9 (.slice ad7 FL cap7)).run Tryd.prog V = .ok (.string sB) V ∧ (convert 23 9 (.slice m.ad FL m.cap)).run Tryd.prog V = .ok (.string sB) V) V) := fun V hV => by
        have hV5 : Below w5.heap.size w5 V := HB7.out.trans (hV.mono HB7.out.size)
        obtain ⟨k1, k2, k3, k4⟩ := KC.out V hV5
        exact ⟨k1, k2, k3, k4, str_row (HX7.out.keep hV) HBA.out hsB, str_row (HMR.out.keep hV5) HBA.out hsB⟩
      have hdrw : Below w7.heap.size w7 w7.drew := (Below.refl _ w7).drew
      have hj3 : j * 3 + 1 ≤ 40000 := by omega
      clear hb7 hr7 hFL hsB t5 HTJ
      go_upto_region 8 with fail
      refine wp_region_noPanic ?_
      refine wp_region_z [] (fun (V : World) => V.cell? ⟨q5, o5 + j, none⟩ = some (.string nm) ∧ V.cell? ⟨kw, 0, none⟩ = some (.slice (some ⟨g, 0, none⟩) N fcap) ∧ V.cell? ⟨g, j * 3, none⟩ = some (.string nm) ∧ V.cell? ⟨g, j * 3 + 1, none⟩ = some (.slice m.ad FL m.cap) ∧ (convert 23 9 (.slice ad7 FL cap7)).run Tryd.prog V = .ok (.string sB) V ∧ (convert 23 9 (.slice m.ad FL m.cap)).run Tryd.prog V = .ok (.string sB) V) (by kernel_rfl) ?_
      have hHeld : (fun (V : World) => V.cell? ⟨q5, o5 + j, none⟩ = some (.string nm) ∧ V.cell? ⟨kw, 0, none⟩ = some (.slice (some ⟨g, 0, none⟩) N fcap) ∧ V.cell? ⟨g, j * 3, none⟩ = some (.string nm) ∧ V.cell? ⟨g, j * 3 + 1, none⟩ = some (.slice m.ad FL m.cap) ∧ (convert 23 9 (.slice ad7 FL cap7)).run Tryd.prog V = .ok (.string sB) V ∧ (convert 23 9 (.slice m.ad FL m.cap)).run Tryd.prog V = .ok (.string sB) V) _ := KV.out _ hdrw
      obtain ⟨u0, hu0⟩ : ∃ u, u = w7.drew := ⟨_, rfl⟩
      rw [← hu0] at hHeld hdrw
      rw [← hu0]
      clear hu0
      have HB9 := Lib.hid (HB7.out.trans (hdrw.mono HB7.out.size))
      have HO := Lib.hid (H7.out.on hdrw)
      clear hdrw
      refine wpAnyZ_take (i := 0) (oi := ⟨_, _, _, _, _, _⟩) (v := ?_) rfl (by kernel_rfl) (by kernel_rfl) (by kernel_rfl) (by kernel_rfl) (by kernel_rfl) (fun _ _ _ h => h) (Or.inl ⟨by rfl, ?_⟩) (by assumption) ?_
      rotate_left
      · intro W hSw
        (try dsimp only at hSw)
        go_simp
        (try with_reducible rfl)
      (try simp only [Act.put, List.setIfInBounds_toArray, List.set_cons_zero, List.set_cons_succ])
      refine wpAnyZ_take (i := 1) (oi := ⟨_, _, _, _, _, _⟩) (v := ?_) rfl (by kernel_rfl) (by kernel_rfl) (by kernel_rfl) (by kernel_rfl) (by kernel_rfl) (fun _ _ _ h => h) (Or.inl ⟨by rfl, ?_⟩) (by assumption) ?_
      rotate_left
      · intro W hSw
        (try dsimp only at hSw)
        go_simp
        (try with_reducible rfl)
      (try simp only [Act.put, List.setIfInBounds_toArray, List.set_cons_zero, List.set_cons_succ])
      refine wpAnyZ_take (i := 2) (oi := ⟨_, _, _, _, _, _⟩) (v := ?_) rfl (by kernel_rfl) (by kernel_rfl) (by kernel_rfl) (by kernel_rfl) (by kernel_rfl) (fun _ _ _ h => h) (Or.inl ⟨by rfl, ?_⟩) (by assumption) ?_
      rotate_left
      · intro W hSw
        (try dsimp only at hSw)
        go_simp
        (try with_reducible rfl)
      (try simp only [Act.put, List.setIfInBounds_toArray, List.set_cons_zero, List.set_cons_succ])
      refine wpAnyZ_take (i := 3) (oi := ⟨_, _, _, _, _, _⟩) (v := ?_) rfl (by kernel_rfl) (by kernel_rfl) (by kernel_rfl) (by kernel_rfl) (by kernel_rfl) (fun _ _ _ h => h) (Or.inl ⟨by rfl, ?_⟩) (by assumption) ?_
      rotate_left
      · intro W hSw
        (try dsimp only at hSw)
        go_simp
        (try with_reducible rfl)
      (try simp only [Act.put, List.setIfInBounds_toArray, List.set_cons_zero, List.set_cons_succ])
      refine wpAnyZ_take (i := 4) (oi := ⟨_, _, _, _, _, _⟩) (v := ?_) rfl (by kernel_rfl) (by kernel_rfl) (by kernel_rfl) (by kernel_rfl) (by kernel_rfl) (fun _ _ _ h => h) (Or.inl ⟨by rfl, ?_⟩) (by assumption) ?_
      rotate_left
      · intro W hSw
        (try dsimp only at hSw)
        go_simp
        (try with_reducible rfl)
      (try simp only [Act.put, List.setIfInBounds_toArray, List.set_cons_zero, List.set_cons_succ])
      refine wpAnyZ_take (i := 5) (oi := ⟨_, _, _, _, _, _⟩) (v := ?_) rfl (by kernel_rfl) (by kernel_rfl) (by kernel_rfl) (by kernel_rfl) (by kernel_rfl) (fun _ _ _ h => h) (Or.inl ⟨by rfl, ?_⟩) (by assumption) ?_
      rotate_left
      · intro W hSw
        (try dsimp only at hSw)
        go_simp
        (try with_reducible rfl)
      (try simp only [Act.put, List.setIfInBounds_toArray, List.set_cons_zero, List.set_cons_succ])
      refine wpAnyZ_take (i := 6) (oi := ⟨_, _, _, _, _, _⟩) (v := ?_) rfl (by kernel_rfl) (by kernel_rfl) (by kernel_rfl) (by kernel_rfl) (by kernel_rfl) (fun _ _ _ h => h) (Or.inl ⟨by rfl, ?_⟩) (by assumption) ?_
      rotate_left
      · intro W hSw
        (try dsimp only at hSw)
        go_simp
        (try with_reducible rfl)
      (try simp only [Act.put, List.setIfInBounds_toArray, List.set_cons_zero, List.set_cons_succ])
      refine wpAnyZ_take (i := 7) (oi := ⟨_, _, _, _, _, _⟩) (v := ?_) rfl (by kernel_rfl) (by kernel_rfl) (by kernel_rfl) (by kernel_rfl) (by kernel_rfl) (fun _ _ _ h => h) (Or.inl ⟨by rfl, ?_⟩) (by assumption) ?_
      rotate_left
      · intro W hSw
        (try dsimp only at hSw)
        go_simp
        (try with_reducible rfl)
      (try simp only [Act.put, List.setIfInBounds_toArray, List.set_cons_zero, List.set_cons_succ])
      refine wpAnyZ_take (i := 8) (oi := ⟨_, _, _, _, _, _⟩) (v := ?_) rfl (by kernel_rfl) (by kernel_rfl) (by kernel_rfl) (by kernel_rfl) (by kernel_rfl) (fun _ _ _ h => h) (Or.inl ⟨by rfl, ?_⟩) (by assumption) ?_
      rotate_left
      · intro W hSw
        (try dsimp only at hSw)
        go_simp
        (try with_reducible rfl)
      (try simp only [Act.put, List.setIfInBounds_toArray, List.set_cons_zero, List.set_cons_succ])
      refine wpAnyZ_take (i := 9) (oi := ⟨_, _, _, _, _, _⟩) (v := ?_) rfl (by kernel_rfl) (by kernel_rfl) (by kernel_rfl) (by kernel_rfl) (by kernel_rfl) (fun _ _ _ h => h) (Or.inl ⟨by rfl, ?_⟩) (by assumption) ?_
      rotate_left
      · intro W hSw
        (try dsimp only at hSw)
        go_simp
        (try with_reducible rfl)
      (try simp only [Act.put, List.setIfInBounds_toArray, List.set_cons_zero, List.set_cons_succ])
      refine wpAnyZ_take (i := 10) (oi := ⟨_, _, _, _, _, _⟩) (v := ?_) rfl (by kernel_rfl) (by kernel_rfl) (by kernel_rfl) (by kernel_rfl) (by kernel_rfl) (fun _ _ _ h => h) (Or.inl ⟨by rfl, ?_⟩) (by assumption) ?_
      rotate_left
      · intro W hSw
        (try dsimp only at hSw)
        go_simp
        (try with_reducible rfl)
      (try simp only [Act.put, List.setIfInBounds_toArray, List.set_cons_zero, List.set_cons_succ])
      refine wpAnyZ_take (i := 11) (oi := ⟨_, _, _, _, _, _⟩) (v := ?_) rfl (by kernel_rfl) (by kernel_rfl) (by kernel_rfl) (by kernel_rfl) (by kernel_rfl) (fun _ _ _ h => h) (Or.inl ⟨by rfl, ?_⟩) (by assumption) ?_
      rotate_left
      · intro W hSw
        (try dsimp only at hSw)
        go_simp
        (try with_reducible rfl)
      (try simp only [Act.put, List.setIfInBounds_toArray, List.set_cons_zero, List.set_cons_succ])
      refine wpAnyZ_take (i := 12) (oi := ⟨_, _, _, _, _, _⟩) (v := ?_) rfl (by kernel_rfl) (by kernel_rfl) (by kernel_rfl) (by kernel_rfl) (by kernel_rfl) (fun _ _ _ h => h) (Or.inl ⟨by rfl, ?_⟩) (by assumption) ?_
      rotate_left
      · intro W hSw
        (try dsimp only at hSw)
        go_simp
        (try with_reducible rfl)
      (try simp only [Act.put, List.setIfInBounds_toArray, List.set_cons_zero, List.set_cons_succ])
      refine wpAnyZ_take (i := 13) (oi := ⟨_, _, _, _, _, _⟩) (v := ?_) rfl (by kernel_rfl) (by kernel_rfl) (by kernel_rfl) (by kernel_rfl) (by kernel_rfl) (fun _ _ _ h => h) (Or.inl ⟨by rfl, ?_⟩) (by assumption) ?_
      rotate_left
      · intro W hSw
        (try dsimp only at hSw)
        go_simp
        (try with_reducible rfl)
      (try simp only [Act.put, List.setIfInBounds_toArray, List.set_cons_zero, List.set_cons_succ])
      refine wpAnyZ_take (i := 14) (oi := ⟨_, _, _, _, _, _⟩) (v := ?_) rfl (by kernel_rfl) (by kernel_rfl) (by kernel_rfl) (by kernel_rfl) (by kernel_rfl) (fun _ _ _ h => h) (Or.inl ⟨by rfl, ?_⟩) (by assumption) ?_
      rotate_left
      · intro W hSw
        (try dsimp only at hSw)
        go_simp
        (try with_reducible rfl)
      (try simp only [Act.put, List.setIfInBounds_toArray, List.set_cons_zero, List.set_cons_succ])
      refine wpAnyZ_take (i := 15) (oi := ⟨_, _, _, _, _, _⟩) (v := ?_) rfl (by kernel_rfl) (by kernel_rfl) (by kernel_rfl) (by kernel_rfl) (by kernel_rfl) (fun _ _ _ h => h) (Or.inl ⟨by rfl, ?_⟩) (by assumption) ?_
      rotate_left
      · intro W hSw
        (try dsimp only at hSw)
        go_simp
        (try with_reducible rfl)
      (try simp only [Act.put, List.setIfInBounds_toArray, List.set_cons_zero, List.set_cons_succ])
      refine wpAnyZ_take (i := 16) (oi := ⟨_, _, _, _, _, _⟩) (v := ?_) rfl (by kernel_rfl) (by kernel_rfl) (by kernel_rfl) (by kernel_rfl) (by kernel_rfl) (fun _ _ _ h => h) (Or.inl ⟨by rfl, ?_⟩) (by assumption) ?_
      rotate_left
      · intro W hSw
        (try dsimp only at hSw)
        go_simp
        (try with_reducible rfl)
      (try simp only [Act.put, List.setIfInBounds_toArray, List.set_cons_zero, List.set_cons_succ])
      refine wpAnyZ_take (i := 17) (oi := ⟨_, _, _, _, _, _⟩) (v := ?_) rfl (by kernel_rfl) (by kernel_rfl) (by kernel_rfl) (by kernel_rfl) (by kernel_rfl) (fun _ _ _ h => h) (Or.inl ⟨by rfl, ?_⟩) (by assumption) ?_
      rotate_left
      · intro W hSw
        (try dsimp only at hSw)
        go_simp
        (try with_reducible rfl)
      (try simp only [Act.put, List.setIfInBounds_toArray, List.set_cons_zero, List.set_cons_succ])
      refine wpAnyZ_take (i := 18) (oi := ⟨_, _, _, _, _, _⟩) (v := ?_) rfl (by kernel_rfl) (by kernel_rfl) (by kernel_rfl) (by kernel_rfl) (by kernel_rfl) (fun _ _ _ h => h) (Or.inl ⟨by rfl, ?_⟩) (by assumption) ?_
      rotate_left
      · intro W hSw
        (try dsimp only at hSw)
        go_simp
        (try with_reducible rfl)
      (try simp only [Act.put, List.setIfInBounds_toArray, List.set_cons_zero, List.set_cons_succ])
      refine wpAnyZ_take (i := 19) (oi := ⟨_, _, _, _, _, _⟩) (v := ?_) rfl (by kernel_rfl) (by kernel_rfl) (by kernel_rfl) (by kernel_rfl) (by kernel_rfl) (fun _ _ _ h => h) (Or.inl ⟨by rfl, ?_⟩) (by assumption) ?_
      rotate_left
      · intro W hSw
        (try dsimp only at hSw)
        go_simp
        (try with_reducible rfl)
      (try simp only [Act.put, List.setIfInBounds_toArray, List.set_cons_zero, List.set_cons_succ])
      refine wpAnyZ_take (i := 20) (oi := ⟨_, _, _, _, _, _⟩) (v := ?_) rfl (by kernel_rfl) (by kernel_rfl) (by kernel_rfl) (by kernel_rfl) (by kernel_rfl) (fun _ _ _ h => h) (Or.inl ⟨by rfl, ?_⟩) (by assumption) ?_
      rotate_left
      · intro W hSw
        (try dsimp only at hSw)
        go_simp
        (try with_reducible rfl)
      (try simp only [Act.put, List.setIfInBounds_toArray, List.set_cons_zero, List.set_cons_succ])
      refine wpAnyZ_take (i := 21) (oi := ⟨_, _, _, _, _, _⟩) (v := ?_) rfl (by kernel_rfl) (by kernel_rfl) (by kernel_rfl) (by kernel_rfl) (by kernel_rfl) (fun _ _ _ h => h) (Or.inl ⟨by rfl, ?_⟩) (by assumption) ?_
      rotate_left
      · intro W hSw
        (try dsimp only at hSw)
        go_simp
        (try with_reducible rfl)
      (try simp only [Act.put, List.setIfInBounds_toArray, List.set_cons_zero, List.set_cons_succ])
      refine wpAnyZ_take (i := 22) (oi := ⟨_, _, _, _, _, _⟩) (v := ?_) rfl (by kernel_rfl) (by kernel_rfl) (by kernel_rfl) (by kernel_rfl) (by kernel_rfl) (fun _ _ _ h => h) (Or.inl ⟨by rfl, ?_⟩) (by assumption) ?_
      rotate_left
      · intro W hSw
        (try dsimp only at hSw)
        go_simp
        (try with_reducible rfl)
      (try simp only [Act.put, List.setIfInBounds_toArray, List.set_cons_zero, List.set_cons_succ])
      refine wpAnyZ_take (i := 23) (oi := ⟨_, _, _, _, _, _⟩) (v := ?_) rfl (by kernel_rfl) (by kernel_rfl) (by kernel_rfl) (by kernel_rfl) (by kernel_rfl) (fun _ _ _ h => h) (Or.inl ⟨by rfl, ?_⟩) (by assumption) ?_
      rotate_left
      · intro W hSw
        (try dsimp only at hSw)
        go_simp
        (try with_reducible rfl)
      (try simp only [Act.put, List.setIfInBounds_toArray, List.set_cons_zero, List.set_cons_succ])
      refine wpAnyZ_take (i := 24) (oi := ⟨_, _, _, _, _, _⟩) (v := ?_) rfl (by kernel_rfl) (by kernel_rfl) (by kernel_rfl) (by kernel_rfl) (by kernel_rfl) (fun _ _ _ h => h) (Or.inl ⟨by rfl, ?_⟩) (by assumption) ?_
      rotate_left
      · intro W hSw
        (try dsimp only at hSw)
        go_simp
        (try with_reducible rfl)
      (try simp only [Act.put, List.setIfInBounds_toArray, List.set_cons_zero, List.set_cons_succ])
      refine wpAnyZ_take (i := 25) (oi := ⟨_, _, _, _, _, _⟩) (v := ?_) rfl (by kernel_rfl) (by kernel_rfl) (by kernel_rfl) (by kernel_rfl) (by kernel_rfl) (fun _ _ _ h => h) (Or.inl ⟨by rfl, ?_⟩) (by assumption) ?_
      rotate_left
      · intro W hSw
        (try dsimp only at hSw)
        go_simp
        (try with_reducible rfl)
      (try simp only [Act.put, List.setIfInBounds_toArray, List.set_cons_zero, List.set_cons_succ])
      refine wpAnyZ_take (i := 26) (oi := ⟨_, _, _, _, _, _⟩) (v := ?_) rfl (by kernel_rfl) (by kernel_rfl) (by kernel_rfl) (by kernel_rfl) (by kernel_rfl) (fun _ _ _ h => h) (Or.inl ⟨by rfl, ?_⟩) (by assumption) ?_
      rotate_left
      · intro W hSw
        (try dsimp only at hSw)
        go_simp
        (try with_reducible rfl)
      (try simp only [Act.put, List.setIfInBounds_toArray, List.set_cons_zero, List.set_cons_succ])
      refine wpAnyZ_take (i := 27) (oi := ⟨_, _, _, _, _, _⟩) (v := ?_) rfl (by kernel_rfl) (by kernel_rfl) (by kernel_rfl) (by kernel_rfl) (by kernel_rfl) (fun _ _ _ h => h) (Or.inl ⟨by rfl, ?_⟩) (by assumption) ?_
      rotate_left
      · intro W hSw
        (try dsimp only at hSw)
        go_simp
        (try with_reducible rfl)
      (try simp only [Act.put, List.setIfInBounds_toArray, List.set_cons_zero, List.set_cons_succ])
      refine wpAnyZ_take (i := 28) (oi := ⟨_, _, _, _, _, _⟩) (v := ?_) rfl (by kernel_rfl) (by kernel_rfl) (by kernel_rfl) (by kernel_rfl) (by kernel_rfl) (fun _ _ _ h => h) (Or.inl ⟨by rfl, ?_⟩) (by assumption) ?_
      rotate_left
      · intro W hSw
        (try dsimp only at hSw)
        go_simp
        (try with_reducible rfl)
      (try simp only [Act.put, List.setIfInBounds_toArray, List.set_cons_zero, List.set_cons_succ])
      refine wpAnyZ_take (i := 29) (oi := ⟨_, _, _, _, _, _⟩) (v := ?_) rfl (by kernel_rfl) (by kernel_rfl) (by kernel_rfl) (by kernel_rfl) (by kernel_rfl) (fun _ _ _ h => h) (Or.inl ⟨by rfl, ?_⟩) (by assumption) ?_
      rotate_left
      · intro W hSw
        (try dsimp only at hSw)
        go_simp
        (try with_reducible rfl)
      (try simp only [Act.put, List.setIfInBounds_toArray, List.set_cons_zero, List.set_cons_succ])
      refine wpAnyZ_take (i := 30) (oi := ⟨_, _, _, _, _, _⟩) (v := ?_) rfl (by kernel_rfl) (by kernel_rfl) (by kernel_rfl) (by kernel_rfl) (by kernel_rfl) (fun _ _ _ h => h) (Or.inl ⟨by rfl, ?_⟩) (by assumption) ?_
      rotate_left
      · intro W hSw
        (try dsimp only at hSw)
        go_simp
        (try with_reducible rfl)
      (try simp only [Act.put, List.setIfInBounds_toArray, List.set_cons_zero, List.set_cons_succ])
      refine wpAnyZ_take (i := 31) (oi := ⟨_, _, _, _, _, _⟩) (v := ?_) rfl (by kernel_rfl) (by kernel_rfl) (by kernel_rfl) (by kernel_rfl) (by kernel_rfl) (fun _ _ _ h => h) (Or.inl ⟨by rfl, ?_⟩) (by assumption) ?_
      rotate_left
      · intro W hSw
        (try dsimp only at hSw)
        go_simp
        (try with_reducible rfl)
      (try simp only [Act.put, List.setIfInBounds_toArray, List.set_cons_zero, List.set_cons_succ])
      refine wpAnyZ_take (i := 32) (oi := ⟨_, _, _, _, _, _⟩) (v := ?_) rfl (by kernel_rfl) (by kernel_rfl) (by kernel_rfl) (by kernel_rfl) (by kernel_rfl) (fun _ _ _ h => h) (Or.inl ⟨by rfl, ?_⟩) (by assumption) ?_
      rotate_left
      · intro W hSw
        (try dsimp only at hSw)
        go_simp
        (try with_reducible rfl)
      (try simp only [Act.put, List.setIfInBounds_toArray, List.set_cons_zero, List.set_cons_succ])
      refine wpAnyZ_take (i := 33) (oi := ⟨_, _, _, _, _, _⟩) (v := ?_) rfl (by kernel_rfl) (by kernel_rfl) (by kernel_rfl) (by kernel_rfl) (by kernel_rfl) (fun _ _ _ h => h) (Or.inl ⟨by rfl, ?_⟩) (by assumption) ?_
      rotate_left
      · intro W hSw
        (try dsimp only at hSw)
        go_simp
        (try with_reducible rfl)
      (try simp only [Act.put, List.setIfInBounds_toArray, List.set_cons_zero, List.set_cons_succ])
      refine wpAnyZ_take (i := 34) (oi := ⟨_, _, _, _, _, _⟩) (v := ?_) rfl (by kernel_rfl) (by kernel_rfl) (by kernel_rfl) (by kernel_rfl) (by kernel_rfl) (fun _ _ _ h => h) (Or.inl ⟨by rfl, ?_⟩) (by assumption) ?_
      rotate_left
      · intro W hSw
        (try dsimp only at hSw)
        go_simp
        (try with_reducible rfl)
      (try simp only [Act.put, List.setIfInBounds_toArray, List.set_cons_zero, List.set_cons_succ])
      refine wpAnyZ_take (i := 35) (oi := ⟨_, _, _, _, _, _⟩) (v := ?_) rfl (by kernel_rfl) (by kernel_rfl) (by kernel_rfl) (by kernel_rfl) (by kernel_rfl) (fun _ _ _ h => h) (Or.inl ⟨by rfl, ?_⟩) (by assumption) ?_
      rotate_left
      · intro W hSw
        (try dsimp only at hSw)
        go_simp
        (try with_reducible rfl)
      (try simp only [Act.put, List.setIfInBounds_toArray, List.set_cons_zero, List.set_cons_succ])
      refine wpAnyZ_take (i := 36) (oi := ⟨_, _, _, _, _, _⟩) (v := ?_) rfl (by kernel_rfl) (by kernel_rfl) (by kernel_rfl) (by kernel_rfl) (by kernel_rfl) (fun _ _ _ h => h) (Or.inl ⟨by rfl, ?_⟩) (by assumption) ?_
      rotate_left
      · intro W hSw
        (try dsimp only at hSw)
        go_simp
        (try with_reducible rfl)
      (try simp only [Act.put, List.setIfInBounds_toArray, List.set_cons_zero, List.set_cons_succ])
      refine wpAnyZ_take (i := 38) (oi := ⟨_, _, _, _, _, _⟩) (v := ?_) rfl (by kernel_rfl) (by kernel_rfl) (by kernel_rfl) (by kernel_rfl) (by kernel_rfl) (fun _ _ _ h => h) (Or.inl ⟨by rfl, ?_⟩) (by assumption) ?_
      rotate_left
      · intro W hSw
        (try dsimp only at hSw)
        go_simp
        (try with_reducible rfl)
      (try simp only [Act.put, List.setIfInBounds_toArray, List.set_cons_zero, List.set_cons_succ])
      refine wpAnyZ_take (i := 39) (oi := ⟨_, _, _, _, _, _⟩) (v := ?_) rfl (by kernel_rfl) (by kernel_rfl) (by kernel_rfl) (by kernel_rfl) (by kernel_rfl) (fun _ _ _ h => h) (Or.inl ⟨by rfl, ?_⟩) (by assumption) ?_
      rotate_left
      · intro W hSw
        (try dsimp only at hSw)
        go_simp
        (try with_reducible rfl)
      (try simp only [Act.put, List.setIfInBounds_toArray, List.set_cons_zero, List.set_cons_succ])
      refine wpAnyZ_ready (rs := [37]) (by kernel_rfl) (by simp) ?_
      refine AllReadyZ.cons (o := ⟨_, _, _, _, _, _⟩) rfl (fun C hC => ?_) AllReadyZ.nil
      go_simp
      refine (oneLen HO.out nm hnz2).mono ?_
      rintro e u1 ⟨rfl, rfl⟩
      rw [HLN.out]
      have hHeld : (fun (V : World) => V.cell? ⟨q5, o5 + j, none⟩ = some (.string nm) ∧ V.cell? ⟨kw, 0, none⟩ = some (.slice (some ⟨g, 0, none⟩) N fcap) ∧ V.cell? ⟨g, j * 3, none⟩ = some (.string nm) ∧ V.cell? ⟨g, j * 3 + 1, none⟩ = some (.slice m.ad FL m.cap) ∧ (convert 23 9 (.slice ad7 FL cap7)).run Tryd.prog V = .ok (.string sB) V ∧ (convert 23 9 (.slice m.ad FL m.cap)).run Tryd.prog V = .ok (.string sB) V) u0 := hHeld
      refine hC.out _ _ (fun _ => hHeld) (fun _ => ?_)
      clear hC C
      refine wpAnyZ_take (i := 40) (oi := ⟨_, _, _, _, _, _⟩) (v := ?_) rfl (by kernel_rfl) (by kernel_rfl) (by kernel_rfl) (by kernel_rfl) (by kernel_rfl) (fun _ _ _ h => h) (Or.inl ⟨by rfl, ?_⟩) (by assumption) ?_
      rotate_left
      · intro W hSw
        (try dsimp only at hSw)
        go_simp
        (try with_reducible rfl)
      (try simp only [Act.put, List.setIfInBounds_toArray, List.set_cons_zero, List.set_cons_succ])
      refine wpAnyZ_take (i := 41) (oi := ⟨_, _, _, _, _, _⟩) (v := ?_) rfl (by kernel_rfl) (by kernel_rfl) (by kernel_rfl) (by kernel_rfl) (by kernel_rfl) (fun _ _ _ h => h) (Or.inl ⟨by rfl, ?_⟩) (by assumption) ?_
      rotate_left
      · intro W hSw
        (try dsimp only at hSw)
        go_simp
        (try with_reducible rfl)
      (try simp only [Act.put, List.setIfInBounds_toArray, List.set_cons_zero, List.set_cons_succ])
      refine wpAnyZ_done (by kernel_rfl) ?_ _
      refine NoPanic.normal ?_
      clear hHeld
      go_wp2
      go_roundw
      case rel => exact ⟨j + 1, by go_num, by omega, HB9.out⟩
      case measure => simp [intOf]; omega
    · have hdj : decide (j < N) = false := decide_eq_false hjM
      go_wp2
      go_ret
      exact ⟨rfl, HB5.out.trans (HBJ.out.mono HB5.out.size)⟩
end Go.Proofs.YtjocfkkcnkpjdaaDoor

/-! Chapter 7's files as the code has them: Copy. -/
namespace Go.Proofs.YtjocfkkcnkpjdaaDoor
open Go.RowKit
open Go.RuneMath
open Go.FsMath
set_option linter.unusedVariables false

theorem perm_lift {α β : Type} (g : α → β) : ∀ (l : List β) (cs : List α), (cs.map g).Perm l → ∃ ms : List α, ms.Perm cs ∧ ms.map g = l
  | [], cs, h => by
    have h1 := h.length_eq
    rw [List.length_map] at h1
    obtain rfl : cs = [] := List.eq_nil_of_length_eq_zero h1
    exact ⟨[], List.Perm.refl _, rfl⟩
  | a :: r, cs, h => by
    obtain ⟨c, hc, e⟩ := List.mem_map.1 (h.mem_iff.2 (List.mem_cons_self (a := a) (l := r)))
    obtain ⟨s, t, rfl⟩ := List.append_of_mem hc
    have h1 : ((s ++ c :: t).map g).Perm (a :: (s ++ t).map g) := by
      rw [List.map_append, List.map_cons, List.map_append, e]
      exact List.perm_middle
    obtain ⟨ms, h2, h3⟩ := perm_lift g r (s ++ t) (List.Perm.cons_inv (h1.symm.trans h))
    exact ⟨c :: ms, (h2.cons c).trans List.perm_middle.symm, by rw [List.map_cons, e, h3]⟩
/-- A file system that is being copied into. -/
structure CpAt (w : World) (kb kn B : Nat) (left done : Int) (ms cs : List CM) : Prop where
  box : CBox w kb kn left done
  map : MapOf w kn (cs.map pk)
  of : ∀ c ∈ cs, ∃ m ∈ ms, c.f = m.f
  ct : ∀ c ∈ cs, CtBox w c.k c.v (c.f.lasts : Int)
  row : ∀ c ∈ cs, OwnRow byteK w 0 c.v c.f.b
  old : ∀ c ∈ cs, B ≤ c.k ∧ ∀ q, c.v.ownBlock = some q → B ≤ q
  apart : ∀ c ∈ cs, ∀ c' ∈ cs, c.f.name ≠ c'.f.name → c.k ≠ c'.k ∧ ∀ q, c.v.ownBlock = some q → c'.v.ownBlock ≠ some q
section
variable {w w' : World} {kb kn B : Nat} {left done : Int} {ms cs : List CM}
theorem CpAt.on (h : CpAt w kb kn B left done ms cs) (hb : Below w.heap.size w w') : CpAt w' kb kn B left done ms cs :=
  ⟨h.box.same (hb.block kb h.box.lt), h.map.on hb, h.of, fun c hc => (h.ct c hc).same (hb.block c.k (h.ct c hc).lt), fun c hc => (h.row c hc).same fun q hq => hb.block q ((h.row c hc).lt q hq).2, h.old, h.apart⟩
theorem cells_map {k : Nat} {ps : List (ByteArray × Nat)} {cs : Array Value} {t : TypeId} {fr : Nat × Nat} (hm : MapOf w kn ps) (hk : w.heap[k]? = some (.cells cs t fr)) : k ≠ kn := fun e => by
  obtain ⟨es, clock, h1, _⟩ := hm
  rw [e, h1] at hk
  cases hk
theorem CpAt.add (h : CpAt w kb kn B left done ms cs) {c m : CM} (hm : m ∈ ms) (hf : c.f = m.f) (hno : ∀ x ∈ cs, x.f.name ≠ c.f.name) (hct : CtBox w c.k c.v (c.f.lasts : Int)) (hrow : OwnRow byteK w 0 c.v c.f.b) (hB : B ≤ c.k ∧ ∀ q, c.v.ownBlock = some q → B ≤ q)
    (hk : ∀ x ∈ cs, x.k ≠ c.k ∧ ∀ q, c.v.ownBlock = some q → x.v.ownBlock ≠ some q) (hg : w.grownBy w' (some kn)) (hmap : MapOf w' kn ((c.f.name, c.k) :: (cs.map pk).filter (fun p => decide (p.1 ≠ c.f.name)))) : CpAt w' kb kn B left done ms (c :: cs) := by
  have hall : ∀ x ∈ c :: cs, CtBox w x.k x.v (x.f.lasts : Int) ∧ OwnRow byteK w 0 x.v x.f.b := fun x hx => by
    rcases List.mem_cons.1 hx with rfl | hx
    · exact ⟨hct, hrow⟩
    · exact ⟨h.ct x hx, h.row x hx⟩
  refine ⟨h.box.same (hg.block kb h.box.lt fun e => cells_map h.map h.box (Option.some.inj e)), ?_, fun x hx => ?_, fun x hx => ?_, fun x hx => ?_, fun x hx => ?_, fun x hx y hy hne => ?_⟩
  · have e : (cs.map pk).filter (fun p => decide (p.1 ≠ c.f.name)) = cs.map pk := filter_names fun p hp => by
      obtain ⟨x, hx, rfl⟩ := List.mem_map.1 hp
      exact hno x hx
    rw [e] at hmap
    exact hmap
  · rcases List.mem_cons.1 hx with rfl | hx
    · exact ⟨m, hm, hf⟩
    · exact h.of x hx
  · have h1 := (hall x hx).1
    exact h1.same (hg.block x.k h1.lt fun e => cells_map h.map h1 (Option.some.inj e))
  · have h1 := (hall x hx).2
    exact h1.same fun q hq => hg.block q (h1.lt q hq).2 fun e => by
      obtain ⟨cur, hc⟩ := own_cells h1 hq
      exact cells_map h.map hc (Option.some.inj e)
  · rcases List.mem_cons.1 hx with rfl | hx
    · exact hB
    · exact h.old x hx
  · rcases List.mem_cons.1 hx with hx1 | hx1
    · subst hx1
      rcases List.mem_cons.1 hy with hy1 | hy1
      · subst hy1
        exact absurd rfl hne
      · exact ⟨fun e => (hk y hy1).1 e.symm, fun q hq => (hk y hy1).2 q hq⟩
    · rcases List.mem_cons.1 hy with hy1 | hy1
      · subst hy1
        exact ⟨(hk x hx1).1, fun q hq hq2 => (hk x hx1).2 q hq2 hq⟩
      · exact h.apart x hx1 y hy1 hne
theorem CpAt.whole {w0 : World} {kf km : Nat} (h : CpAt w kb kn B left done ms cs) (ho : CfOk w0 kf km left done ms) (hp : (cs.map (·.f)).Perm (cls ms)) (hkb : B ≤ kb) (hkn : B ≤ kn) : ∃ ms2, CfOk w kb kn left done ms2 ∧ cls ms2 = cls ms ∧ ∀ j, Foot kb kn ms2 j → B ≤ j := by
  obtain ⟨ms2, h1, h2⟩ := perm_lift (fun c : CM => c.f) (cls ms) cs hp
  have hm : ∀ c, c ∈ ms2 → c ∈ cs := fun c hc => h1.mem_iff.1 hc
  have hof : ∀ c ∈ ms2, ∃ m ∈ ms, c.f = m.f := fun c hc => h.of c (hm c hc)
  refine ⟨ms2, ⟨h.box, h.map.perm (h1.map pk).symm, ?_, fun c hc => ?_, fun c hc => h.ct c (hm c hc), fun c hc => ?_, fun c hc c' hc' hne => h.apart c (hm c hc) c' (hm c' hc') hne⟩, h2, fun j hj => ?_⟩
  · show SortedF (ms2.map (·.f))
    rw [h2]
    exact ho.sorted
  · obtain ⟨m, hm1, e⟩ := hof c hc
    rw [e]
    exact ho.right m hm1
  · obtain ⟨m, hm1, e⟩ := hof c hc
    refine ⟨h.row c (hm c hc), ?_⟩
    rw [e]
    exact (ho.row m hm1).2
  · rcases hj with rfl | rfl | ⟨c, hc, rfl | hq⟩
    · exact hkb
    · exact hkn
    · exact (h.old c (hm c hc)).1
    · exact (h.old c (hm c hc)).2 j hq
end
theorem own_low {α : Type} {K : Kind α} {w : World} {b b' : Nat} {v : Value} {l : List α} (h : OwnRow K w b v l) (hb : b' ≤ b) : OwnRow K w b' v l :=
  ⟨h.1, h.2.elim Or.inl fun ⟨g, cap, cur, hv, hg, r⟩ => Or.inr ⟨g, cap, cur, hv, Nat.le_trans hb hg, r⟩⟩
theorem cells_iter {w : World} {km r k : Nat} {ps lf : List (ByteArray × Nat)} {cs : Array Value} {t : TypeId} {fr : Nat × Nat} (hr : Ranging w km r ps lf) (hk : w.heap[k]? = some (.cells cs t fr)) : k ≠ r := fun e => by
  obtain ⟨es, clock, since, seen, c0, _, _, _, _, h1, _⟩ := hr
  rw [e, h1] at hk
  cases hk
theorem CpAt.iter {w w' : World} {kb kn B km r : Nat} {left done : Int} {ms cs : List CM} {ps lf : List (ByteArray × Nat)} (h : CpAt w kb kn B left done ms cs) (hr : Ranging w km r ps lf) (hg : w.grownBy w' (some r)) (hn : kn ≠ r) : CpAt w' kb kn B left done ms cs :=
  ⟨h.box.same (hg.block kb h.box.lt fun e => cells_iter hr h.box (Option.some.inj e)), h.map.same (hg.block kn h.map.lt fun e => hn (Option.some.inj e)), h.of, fun c hc => (h.ct c hc).same (hg.block c.k (h.ct c hc).lt fun e => cells_iter hr (h.ct c hc) (Option.some.inj e)), fun c hc => (h.row c hc).same fun q hq => hg.block q ((h.row c hc).lt q hq).2 fun e => by
    obtain ⟨cur, hcur⟩ := own_cells (h.row c hc) hq
    exact cells_iter hr hcur (Option.some.inj e), h.old, h.apart⟩
theorem copy_perm {w0 : World} {kf km : Nat} {left done : Int} {ms cs : List CM} (ho : CfOk w0 kf km left done ms) (hof : ∀ c ∈ cs, ∃ m ∈ ms, c.f = m.f) (hp : (cs.map (·.f.name)).Perm (ms.map (fun m => (pk m).1))) : (cs.map (·.f)).Perm (cls ms) := by
  have hnd : (ms.map (·.f.name)).Nodup := by
    have h1 := ho.sorted.nodup
    unfold cls at h1
    rw [List.map_map] at h1
    exact h1
  have hp2 : (cs.map (·.f.name)).Perm (ms.map (·.f.name)) := hp
  have hnc : (cs.map (·.f.name)).Nodup := hp2.nodup_iff.2 hnd
  have n1 : (cs.map (·.f)).Nodup := by
    have : ((cs.map (·.f)).map (·.name)).Nodup := by rw [List.map_map]; exact hnc
    exact List.Pairwise.of_map _ (fun a b hne e => hne (by rw [e])) this
  have n2 : (cls ms).Nodup := by
    have := ho.sorted.nodup
    exact List.Pairwise.of_map _ (fun a b hne e => hne (by rw [e])) this
  refine (List.perm_ext_iff_of_nodup n1 n2).2 fun f => ⟨fun hf => ?_, fun hf => ?_⟩
  · obtain ⟨c, hc, rfl⟩ := List.mem_map.1 hf
    obtain ⟨m, hm, e⟩ := hof c hc
    rw [e]
    exact List.mem_map.2 ⟨m, hm, rfl⟩
  · obtain ⟨m, hm, rfl⟩ := List.mem_map.1 hf
    obtain ⟨c, hc, e⟩ := List.mem_map.1 (hp2.mem_iff.2 (List.mem_map.2 ⟨m, hm, rfl⟩))
    obtain ⟨m2, hm2, e2⟩ := hof c hc
    have e3 : m2 = m := ho.one hm2 hm (by rw [← e2]; exact e)
    refine List.mem_map.2 ⟨c, hc, ?_⟩
    rw [e2, e3]
/-- What Copy gives. -/
def GivesCopy (w : World) (left done : Int) (l : List Fl) (e : Ending) (w' : World) : Prop := Below w.heap.size w w' ∧ ∃ kb kn ms2, e = .returned (.pointer (some ⟨kb, 0, none⟩)) ∧ CfOk w' kb kn left done ms2 ∧ cls ms2 = l ∧ ∀ j, Foot kb kn ms2 j → w.heap.size ≤ j
set_option maxRecDepth 100000 in
set_option maxHeartbeats 8000000 in
theorem cCopy_any (w : World) (kf km : Nat) (left done : Int) (ms : List CM) (h : CfOk w kf km left done ms) (hL : ms.length ≤ 10000) (hB : ∀ m ∈ ms, m.f.b.length ≤ 140737488355328) :
    Calls Tryd.prog 33 #[.pointer (some ⟨kf, 0, none⟩)] w (GivesCopy w left done (cls ms)) := by
  have hmm := @run_makeMap Tryd.prog
  have KS : Hid (∀ V, Below w.heap.size w V → (fun (V : World) => V.cell? ⟨kf, 1, none⟩ = some (.int .i64 done) ∧ V.cell? ⟨kf, 2, none⟩ = some (.int .i64 left)) V) := fun V hV => ⟨(h.on hV).box.c1, (h.on hV).box.c2⟩
  have H := Lib.hid h
  have HB := Lib.hid hB
  have hdrw : Below w.heap.size w w.drew := (Below.refl _ w).drew
  clear h hB
  go_enter Tryd.func33, Tryd.ntmps33
  go_upto_region 1 with fail
  refine wp_region_noPanic ?_
  refine wp_region_z [] (fun (V : World) => V.cell? ⟨kf, 1, none⟩ = some (.int .i64 done) ∧ V.cell? ⟨kf, 2, none⟩ = some (.int .i64 left)) (by kernel_rfl) ?_
  have hHeld : (fun (V : World) => V.cell? ⟨kf, 1, none⟩ = some (.int .i64 done) ∧ V.cell? ⟨kf, 2, none⟩ = some (.int .i64 left)) _ := KS.out _ hdrw
  obtain ⟨u0, hu0⟩ : ∃ u, u = w.drew := ⟨_, rfl⟩
  rw [← hu0] at hHeld hdrw
  rw [← hu0]
  clear hu0
  have HB0 := Lib.hid hdrw
  clear hdrw
  refine wpAnyZ_take (i := 1) (oi := ⟨_, _, _, _, _, _⟩) (v := ?_) rfl (by kernel_rfl) (by kernel_rfl) (by kernel_rfl) (by kernel_rfl) (by kernel_rfl) (fun _ _ _ h => h) (Or.inl ⟨by rfl, ?_⟩) (by assumption) ?_
  rotate_left
  · intro W hSw
    (try dsimp only at hSw)
    go_simp
    (try with_reducible rfl)
  (try simp only [Act.put, List.setIfInBounds_toArray, List.set_cons_zero, List.set_cons_succ])
  refine wpAnyZ_take (i := 2) (oi := ⟨_, _, _, _, _, _⟩) (v := ?_) rfl (by kernel_rfl) (by kernel_rfl) (by kernel_rfl) (by kernel_rfl) (by kernel_rfl) (fun _ _ _ h => h) (Or.inl ⟨by rfl, ?_⟩) (by assumption) ?_
  rotate_left
  · intro W hSw
    (try dsimp only at hSw)
    go_simp
    (try with_reducible rfl)
  (try simp only [Act.put, List.setIfInBounds_toArray, List.set_cons_zero, List.set_cons_succ])
  refine wpAnyZ_take (i := 3) (oi := ⟨_, _, _, _, _, _⟩) (v := ?_) rfl (by kernel_rfl) (by kernel_rfl) (by kernel_rfl) (by kernel_rfl) (by kernel_rfl) (fun _ _ _ h => h) (Or.inl ⟨by rfl, ?_⟩) (by assumption) ?_
  rotate_left
  · intro W hSw
    (try dsimp only at hSw)
    go_simp
    (try with_reducible rfl)
  (try simp only [Act.put, List.setIfInBounds_toArray, List.set_cons_zero, List.set_cons_succ])
  refine wpAnyZ_take (i := 4) (oi := ⟨_, _, _, _, _, _⟩) (v := ?_) rfl (by kernel_rfl) (by kernel_rfl) (by kernel_rfl) (by kernel_rfl) (by kernel_rfl) (fun _ _ _ h => h) (Or.inl ⟨by rfl, ?_⟩) (by assumption) ?_
  rotate_left
  · intro W hSw
    (try dsimp only at hSw)
    go_simp
    (try with_reducible rfl)
  (try simp only [Act.put, List.setIfInBounds_toArray, List.set_cons_zero, List.set_cons_succ])
  refine wpAnyZ_take (i := 5) (oi := ⟨_, _, _, _, _, _⟩) (v := ?_) rfl (by kernel_rfl) (by kernel_rfl) (by kernel_rfl) (by kernel_rfl) (by kernel_rfl) (fun _ _ _ h => h) (Or.inl ⟨by rfl, ?_⟩) (by assumption) ?_
  rotate_left
  · intro W hSw
    (try dsimp only at hSw)
    go_simp
    (try with_reducible rfl)
  (try simp only [Act.put, List.setIfInBounds_toArray, List.set_cons_zero, List.set_cons_succ])
  refine wpAnyZ_take (i := 6) (oi := ⟨_, _, _, _, _, _⟩) (v := ?_) rfl (by kernel_rfl) (by kernel_rfl) (by kernel_rfl) (by kernel_rfl) (by kernel_rfl) (fun _ _ _ h => h) (Or.inl ⟨by rfl, ?_⟩) (by assumption) ?_
  rotate_left
  · intro W hSw
    (try dsimp only at hSw)
    go_simp
    (try with_reducible rfl)
  (try simp only [Act.put, List.setIfInBounds_toArray, List.set_cons_zero, List.set_cons_succ])
  refine wpAnyZ_take (i := 7) (oi := ⟨_, _, _, _, _, _⟩) (v := ?_) rfl (by kernel_rfl) (by kernel_rfl) (by kernel_rfl) (by kernel_rfl) (by kernel_rfl) (fun _ _ _ h => h) (Or.inl ⟨by rfl, ?_⟩) (by assumption) ?_
  rotate_left
  · intro W hSw
    (try dsimp only at hSw)
    go_simp
    (try with_reducible rfl)
  (try simp only [Act.put, List.setIfInBounds_toArray, List.set_cons_zero, List.set_cons_succ])
  refine wpAnyZ_take (i := 8) (oi := ⟨_, _, _, _, _, _⟩) (v := ?_) rfl (by kernel_rfl) (by kernel_rfl) (by kernel_rfl) (by kernel_rfl) (by kernel_rfl) (fun _ _ _ h => h) (Or.inl ⟨by rfl, ?_⟩) (by assumption) ?_
  rotate_left
  · intro W hSw
    (try dsimp only at hSw)
    go_simp
    (try with_reducible rfl)
  (try simp only [Act.put, List.setIfInBounds_toArray, List.set_cons_zero, List.set_cons_succ])
  refine wpAnyZ_ready (rs := [0]) (by kernel_rfl) (by simp) ?_
  refine AllReadyZ.cons (o := ⟨_, _, _, _, _, _⟩) rfl (fun C hC => ?_) AllReadyZ.nil
  go_simp
  obtain ⟨u1, hu1⟩ : ∃ z, z = u0.alloc (.map #[] 0) := ⟨_, rfl⟩
  obtain ⟨kn, hkn⟩ : ∃ z, z = u0.heap.size := ⟨_, rfl⟩
  have hb1 : Below u0.heap.size u0 u1 := by rw [hu1]; exact (Below.refl _ u0).alloc (Nat.le_refl _) _
  have HM1 : Hid (MapOf u1 kn []) := by show MapOf _ _ _; rw [hu1, hkn]; exact mapOf_new u0
  have HB1 : Hid (Below w.heap.size w u1) := HB0.out.trans (hb1.mono HB0.out.size)
  have HKN : Hid (w.heap.size ≤ kn) := by show _ ≤ _; rw [hkn]; exact HB0.out.size
  try rw [← hu1, ← hkn]
  clear hu1 hkn hb1
  have hHeld : (fun (V : World) => V.cell? ⟨kf, 1, none⟩ = some (.int .i64 done) ∧ V.cell? ⟨kf, 2, none⟩ = some (.int .i64 left)) u1 := KS.out _ HB1.out
  refine hC.out _ _ (fun _ => hHeld) (fun _ => ?_)
  clear hC C
  (try simp only [Act.put, List.setIfInBounds_toArray, List.set_cons_zero, List.set_cons_succ])
  refine wpAnyZ_take (i := 9) (oi := ⟨_, _, _, _, _, _⟩) (v := ?_) rfl (by kernel_rfl) (by kernel_rfl) (by kernel_rfl) (by kernel_rfl) (by kernel_rfl) (fun _ _ _ h => h) (Or.inl ⟨by rfl, ?_⟩) (by assumption) ?_
  rotate_left
  · intro W hSw
    (try dsimp only at hSw)
    go_simp
    (try with_reducible rfl)
  (try simp only [Act.put, List.setIfInBounds_toArray, List.set_cons_zero, List.set_cons_succ])
  refine wpAnyZ_ready (rs := [10]) (by kernel_rfl) (by simp) ?_
  refine AllReadyZ.cons (o := ⟨_, _, _, _, _, _⟩) rfl (fun C hC => ?_) AllReadyZ.nil
  go_simp
  obtain ⟨u2, hu2⟩ : ∃ z, z = u1.alloc (.cells #[.map (some kn), .int .i64 done, .int .i64 left] 58) := ⟨_, rfl⟩
  obtain ⟨kb, hkb⟩ : ∃ z, z = u1.heap.size := ⟨_, rfl⟩
  have hb2 : Below u1.heap.size u1 u2 := by rw [hu2]; exact (Below.refl _ u1).alloc (Nat.le_refl _) _
  have HX2 : Hid (CBox u2 kb kn left done) := by show CBox _ _ _ _ _; rw [hu2, hkb]; exact heap_alloc_new u1 _
  have HM2 : Hid (MapOf u2 kn []) := HM1.out.on hb2
  have HB2 : Hid (Below w.heap.size w u2) := HB1.out.trans (hb2.mono HB1.out.size)
  have HKB : Hid (w.heap.size ≤ kb) := by show _ ≤ _; rw [hkb]; exact HB1.out.size
  try rw [← hu2, ← hkb]
  clear hu2 hkb hb2
  have hHeld : (fun (V : World) => V.cell? ⟨kf, 1, none⟩ = some (.int .i64 done) ∧ V.cell? ⟨kf, 2, none⟩ = some (.int .i64 left)) u2 := KS.out _ HB2.out
  refine hC.out _ _ (fun _ => hHeld) (fun _ => ?_)
  clear hC C
  (try simp only [Act.put, List.setIfInBounds_toArray, List.set_cons_zero, List.set_cons_succ])
  refine wpAnyZ_take (i := 11) (oi := ⟨_, _, _, _, _, _⟩) (v := ?_) rfl (by kernel_rfl) (by kernel_rfl) (by kernel_rfl) (by kernel_rfl) (by kernel_rfl) (fun _ _ _ h => h) (Or.inl ⟨by rfl, ?_⟩) (by assumption) ?_
  rotate_left
  · intro W hSw
    (try dsimp only at hSw)
    go_simp
    (try with_reducible rfl)
  (try simp only [Act.put, List.setIfInBounds_toArray, List.set_cons_zero, List.set_cons_succ])
  refine wpAnyZ_done (by kernel_rfl) ?_ _
  refine NoPanic.normal ?_
  have HCP : Hid (CpAt u2 kb kn w.heap.size left done ms []) := ⟨HX2.out, HM2.out, fun c hc => (by cases hc), fun c hc => (by cases hc), fun c hc => (by cases hc), fun c hc => (by cases hc), fun c hc => (by cases hc)⟩
  have H2 := Lib.hid (H.out.on HB2.out)
  obtain ⟨w3, hrange, hrg, hb3, hs3⟩ := map_range (P := Tryd.prog) mapT H2.out.map
  unfold ptrV at hrange
  obtain ⟨rr, hrr⟩ : ∃ z, z = u2.heap.size := ⟨_, rfl⟩
  rw [← hrr] at hrange hrg
  have HRR : Hid (w.heap.size ≤ rr) := by show _ ≤ _; rw [hrr]; exact HB2.out.size
  have HB3 : Hid (Below w.heap.size w w3) := HB2.out.trans (hb3.mono HB2.out.size)
  have HCP3 : Hid (CpAt w3 kb kn w.heap.size left done ms []) := HCP.out.on hb3
  have HRG3 := Lib.hid hrg
  have HNR : Hid (kn < rr ∧ kb < rr) := by show _ ∧ _; rw [hrr]; exact ⟨HM2.out.lt, HX2.out.lt⟩
  have t0 := H2.out.box.c0
  clear HX2 HM2 HM1 HB0 HB1 HB2 HCP H2 hrg hb3 hs3 hrr hHeld
  go_wp2_with fail
  clear hrange t0
  go_loopw [] (fun wr => ∃ (cs : List CM) (lf : List (ByteArray × Nat)), Hid (CpAt wr kb kn w.heap.size left done ms cs) ∧ Hid (Ranging wr km rr (ms.map pk) lf) ∧ Hid ((cs.map (·.f.name) ++ lf.map (·.1)).Perm ((ms.map pk).map (·.1))) ∧ Hid (Below w.heap.size w wr)) (fun wr => wr.rangeLeft km rr)
  case atStart => exact ⟨[], ms.map pk, HCP3.out, HRG3.out, List.Perm.refl _, HB3.out⟩
  case round =>
    obtain ⟨cs, lf, HC, HRG, HPM, HBL⟩ := hrel
    obtain ⟨w4, hw4⟩ : ∃ z : World, z = wr := ⟨_, rfl⟩
    subst hw4
    clear HCP3 HRG3 HB3
    rcases map_next (P := Tryd.prog) HRG.out 0 with ⟨hl0, hnext⟩ | ⟨p, lf', w5, hlp, hpm, hnext, hrg4, hg4, hs4, hen⟩
    · unfold ptrV at hnext
      have HLF : Hid (lf = []) := hl0
      clear hl0
      go_wp2
      go_ret
      have hof : (cs.map (·.f)).Perm (cls ms) := by
        have h1 := HPM.out
        rw [HLF.out, List.map_nil, List.append_nil, List.map_map] at h1
        exact copy_perm H.out HC.out.of h1
      obtain ⟨ms2, h1, h3, h4⟩ := HC.out.whole (H.out.on HBL.out) hof HKB.out HKN.out
      exact ⟨HBL.out, kb, kn, ms2, rfl, h1, h3, h4⟩
    · unfold ptrV at hnext hen
      have HLP := Lib.hid hlp
      have hg4' : w4.grownBy w5 (some rr) := hg4
      have HRG5 := Lib.hid hrg4
      have HC5 := Lib.hid (HC.out.iter HRG.out hg4' (by have := HNR.out; omega))
      have HB5 : Hid (Below w.heap.size w w5) := HBL.out.trans (below_grown hg4' HRR.out HBL.out.size)
      obtain ⟨m, hm, hpe⟩ := List.mem_map.1 hpm
      obtain ⟨nm, pk2⟩ := p
      have hnm : m.f.name = nm := congrArg Prod.fst hpe
      have hpk : m.k = pk2 := congrArg Prod.snd hpe
      have HM := Lib.hid hm
      have HNM := Lib.hid hnm
      have HPK := Lib.hid hpk
      have hnz : nm.size ≤ 1073741824 := by rw [← hnm]; exact (H.out.right m hm).2
      obtain ⟨L, hLn⟩ : ∃ L, m.f.b.length = L := ⟨_, rfl⟩
      obtain ⟨ad, cap, hcv, hcr, _⟩ := OwnRow.row byteK_ok (H.out.row m hm).1 hLn
      have HRW := Lib.hid hcr
      have HLN := Lib.hid hLn
      have hL47 : L ≤ 140737488355328 := by rw [← hLn]; exact HB.out m hm
      have KS5 : Hid (∀ V, Below w.heap.size w V → (fun (V : World) => V.cell? ⟨pk2, 0, none⟩ = some (.slice ad L cap) ∧ V.cell? ⟨pk2, 1, none⟩ = some (.int .i64 (m.f.lasts : Int))) V) := fun V hV => by
        have h1 := (H.out.ct m hm).same (hV.block m.k (H.out.ct m hm).lt)
        rw [hcv] at h1
        rw [← hpk]
        exact ⟨h1.c0, h1.c1⟩
      have HNO : Hid ((∀ x ∈ cs, x.f.name ≠ nm) ∧ cs.length ≤ 10000) := by
        have h1 := HPM.out
        have h3 : ((ms.map pk).map (·.1)).Nodup := H.out.map.names
        have h4 := h1.nodup_iff.2 h3
        refine ⟨fun x hx e => ?_, ?_⟩
        · have h5 := (List.nodup_append.1 h4).2.2 x.f.name (List.mem_map.2 ⟨x, hx, rfl⟩) nm (List.mem_map.2 ⟨(nm, pk2), HLP.out.symm.subset (List.mem_cons_self), rfl⟩)
          exact h5 e
        · have h5 := h1.length_eq
          rw [List.length_append, List.length_map, List.length_map, List.length_map, List.length_map] at h5
          omega
      have HCNT := Lib.hid HRG.out.count
      have HCNTN := Lib.hid hlp.length_eq
      simp only at hnext hen
      have hdrw : Below w5.heap.size w5 w5.drew := (Below.refl _ w5).drew
      clear hlp hrg4 hg4 hg4' hs4 hpm hpe hm hnm hpk hcv hcr hLn
      go_upto_region 5 with fail
      refine wp_region_noPanic ?_
      refine wp_region_z [] (fun (V : World) => V.cell? ⟨pk2, 0, none⟩ = some (.slice ad L cap) ∧ V.cell? ⟨pk2, 1, none⟩ = some (.int .i64 (m.f.lasts : Int))) (by kernel_rfl) ?_
      have hHeld : (fun (V : World) => V.cell? ⟨pk2, 0, none⟩ = some (.slice ad L cap) ∧ V.cell? ⟨pk2, 1, none⟩ = some (.int .i64 (m.f.lasts : Int))) _ := KS5.out _ (HB5.out.trans (hdrw.mono HB5.out.size))
      obtain ⟨u0, hu0⟩ : ∃ u, u = w5.drew := ⟨_, rfl⟩
      rw [← hu0] at hHeld hdrw
      rw [← hu0]
      clear hu0
      have HB6 := Lib.hid (HB5.out.trans (hdrw.mono HB5.out.size))
      have HC6 := Lib.hid (HC5.out.on hdrw)
      have HR6 := Lib.hid (HRG5.out.on hdrw)
      clear hdrw
      refine wpAnyZ_take (i := 0) (oi := ⟨_, _, _, _, _, _⟩) (v := ?_) rfl (by kernel_rfl) (by kernel_rfl) (by kernel_rfl) (by kernel_rfl) (by kernel_rfl) (fun _ _ _ h => h) (Or.inl ⟨by rfl, ?_⟩) (by assumption) ?_
      rotate_left
      · intro W hSw
        (try dsimp only at hSw)
        go_simp
        (try with_reducible rfl)
      (try simp only [Act.put, List.setIfInBounds_toArray, List.set_cons_zero, List.set_cons_succ])
      refine wpAnyZ_take (i := 1) (oi := ⟨_, _, _, _, _, _⟩) (v := ?_) rfl (by kernel_rfl) (by kernel_rfl) (by kernel_rfl) (by kernel_rfl) (by kernel_rfl) (fun _ _ _ h => h) (Or.inl ⟨by rfl, ?_⟩) (by assumption) ?_
      rotate_left
      · intro W hSw
        (try dsimp only at hSw)
        go_simp
        (try with_reducible rfl)
      (try simp only [Act.put, List.setIfInBounds_toArray, List.set_cons_zero, List.set_cons_succ])
      refine wpAnyZ_take (i := 2) (oi := ⟨_, _, _, _, _, _⟩) (v := ?_) rfl (by kernel_rfl) (by kernel_rfl) (by kernel_rfl) (by kernel_rfl) (by kernel_rfl) (fun _ _ _ h => h) (Or.inl ⟨by rfl, ?_⟩) (by assumption) ?_
      rotate_left
      · intro W hSw
        (try dsimp only at hSw)
        go_simp
        (try with_reducible rfl)
      (try simp only [Act.put, List.setIfInBounds_toArray, List.set_cons_zero, List.set_cons_succ])
      refine wpAnyZ_take (i := 3) (oi := ⟨_, _, _, _, _, _⟩) (v := ?_) rfl (by kernel_rfl) (by kernel_rfl) (by kernel_rfl) (by kernel_rfl) (by kernel_rfl) (fun _ _ _ h => h) (Or.inl ⟨by rfl, ?_⟩) (by assumption) ?_
      rotate_left
      · intro W hSw
        (try dsimp only at hSw)
        go_simp
        (try with_reducible rfl)
      (try simp only [Act.put, List.setIfInBounds_toArray, List.set_cons_zero, List.set_cons_succ])
      refine wpAnyZ_take (i := 4) (oi := ⟨_, _, _, _, _, _⟩) (v := ?_) rfl (by kernel_rfl) (by kernel_rfl) (by kernel_rfl) (by kernel_rfl) (by kernel_rfl) (fun _ _ _ h => h) (Or.inl ⟨by rfl, ?_⟩) (by assumption) ?_
      rotate_left
      · intro W hSw
        (try dsimp only at hSw)
        go_simp
        (try with_reducible rfl)
      (try simp only [Act.put, List.setIfInBounds_toArray, List.set_cons_zero, List.set_cons_succ])
      refine wpAnyZ_take (i := 5) (oi := ⟨_, _, _, _, _, _⟩) (v := ?_) rfl (by kernel_rfl) (by kernel_rfl) (by kernel_rfl) (by kernel_rfl) (by kernel_rfl) (fun _ _ _ h => h) (Or.inl ⟨by rfl, ?_⟩) (by assumption) ?_
      rotate_left
      · intro W hSw
        (try dsimp only at hSw)
        go_simp
        (try with_reducible rfl)
      (try simp only [Act.put, List.setIfInBounds_toArray, List.set_cons_zero, List.set_cons_succ])
      refine wpAnyZ_take (i := 7) (oi := ⟨_, _, _, _, _, _⟩) (v := ?_) rfl (by kernel_rfl) (by kernel_rfl) (by kernel_rfl) (by kernel_rfl) (by kernel_rfl) (fun _ _ _ h => h) (Or.inl ⟨by rfl, ?_⟩) (by assumption) ?_
      rotate_left
      · intro W hSw
        (try dsimp only at hSw)
        go_simp
        (try with_reducible rfl)
      (try simp only [Act.put, List.setIfInBounds_toArray, List.set_cons_zero, List.set_cons_succ])
      refine wpAnyZ_take (i := 8) (oi := ⟨_, _, _, _, _, _⟩) (v := ?_) rfl (by kernel_rfl) (by kernel_rfl) (by kernel_rfl) (by kernel_rfl) (by kernel_rfl) (fun _ _ _ h => h) (Or.inl ⟨by rfl, ?_⟩) (by assumption) ?_
      rotate_left
      · intro W hSw
        (try dsimp only at hSw)
        go_simp
        (try with_reducible rfl)
      (try simp only [Act.put, List.setIfInBounds_toArray, List.set_cons_zero, List.set_cons_succ])
      refine wpAnyZ_take (i := 9) (oi := ⟨_, _, _, _, _, _⟩) (v := ?_) rfl (by kernel_rfl) (by kernel_rfl) (by kernel_rfl) (by kernel_rfl) (by kernel_rfl) (fun _ _ _ h => h) (Or.inl ⟨by rfl, ?_⟩) (by assumption) ?_
      rotate_left
      · intro W hSw
        (try dsimp only at hSw)
        go_simp
        (try with_reducible rfl)
      (try simp only [Act.put, List.setIfInBounds_toArray, List.set_cons_zero, List.set_cons_succ])
      refine wpAnyZ_take (i := 10) (oi := ⟨_, _, _, _, _, _⟩) (v := ?_) rfl (by kernel_rfl) (by kernel_rfl) (by kernel_rfl) (by kernel_rfl) (by kernel_rfl) (fun _ _ _ h => h) (Or.inl ⟨by rfl, ?_⟩) (by assumption) ?_
      rotate_left
      · intro W hSw
        (try dsimp only at hSw)
        go_simp
        (try with_reducible rfl)
      (try simp only [Act.put, List.setIfInBounds_toArray, List.set_cons_zero, List.set_cons_succ])
      refine wpAnyZ_ready (rs := [6]) (by kernel_rfl) (by simp) ?_
      refine AllReadyZ.cons (o := ⟨_, _, _, _, _, _⟩) rfl (fun C hC => ?_) AllReadyZ.nil
      go_simp
      refine (bclone_any u0 ad L cap m.f.b (HRW.out.keep HB6.out) hL47).mono ?_
      rintro e u1 ⟨ad2, cap2, rfl, hor, hb1⟩
      rw [HLN.out] at hor
      rw [HLN.out]
      have HOR := Lib.hid hor
      have HB7 := Lib.hid (HB6.out.trans (hb1.mono HB6.out.size))
      have HC7 := Lib.hid (HC6.out.on hb1)
      have HR7 := Lib.hid (HR6.out.on hb1)
      have HZ1 : Hid (w.heap.size ≤ u0.heap.size ∧ u0.heap.size ≤ u1.heap.size) := ⟨HB6.out.size, hb1.size⟩
      clear hor hb1
      have hHeld : (fun (V : World) => V.cell? ⟨pk2, 0, none⟩ = some (.slice ad L cap) ∧ V.cell? ⟨pk2, 1, none⟩ = some (.int .i64 (m.f.lasts : Int))) u1 := KS5.out _ HB7.out
      refine hC.out _ _ (fun _ => hHeld) (fun _ => ?_)
      clear hC C
      (try simp only [Act.put, List.setIfInBounds_toArray, List.set_cons_zero, List.set_cons_succ])
      refine wpAnyZ_take (i := 11) (oi := ⟨_, _, _, _, _, _⟩) (v := ?_) rfl (by kernel_rfl) (by kernel_rfl) (by kernel_rfl) (by kernel_rfl) (by kernel_rfl) (fun _ _ _ h => h) (Or.inl ⟨by rfl, ?_⟩) (by assumption) ?_
      rotate_left
      · intro W hSw
        (try dsimp only at hSw)
        go_simp
        (try with_reducible rfl)
      (try simp only [Act.put, List.setIfInBounds_toArray, List.set_cons_zero, List.set_cons_succ])
      refine wpAnyZ_ready (rs := [12]) (by kernel_rfl) (by simp) ?_
      refine AllReadyZ.cons (o := ⟨_, _, _, _, _, _⟩) rfl (fun C hC => ?_) AllReadyZ.nil
      go_simp
      obtain ⟨u2, hu2⟩ : ∃ z, z = u1.alloc (.cells #[.slice ad2 L cap2, .int .i64 (m.f.lasts : Int)] 62) := ⟨_, rfl⟩
      obtain ⟨kc, hkc⟩ : ∃ z, z = u1.heap.size := ⟨_, rfl⟩
      have hb2 : Below u1.heap.size u1 u2 := by rw [hu2]; exact (Below.refl _ u1).alloc (Nat.le_refl _) _
      have HX8 : Hid (CtBox u2 kc (.slice ad2 L cap2) (m.f.lasts : Int)) := by show CtBox _ _ _ _; rw [hu2, hkc]; exact heap_alloc_new u1 _
      have HB8 := Lib.hid (HB7.out.trans (hb2.mono HB7.out.size))
      have HC8 := Lib.hid (HC7.out.on hb2)
      have HR8 := Lib.hid (HR7.out.on hb2)
      have HO8 := Lib.hid (HOR.out.on hb2)
      have HKC : Hid (kc = u1.heap.size) := hkc
      try rw [← hu2, ← hkc]
      clear hu2 hkc hb2
      have hHeld : (fun (V : World) => V.cell? ⟨pk2, 0, none⟩ = some (.slice ad L cap) ∧ V.cell? ⟨pk2, 1, none⟩ = some (.int .i64 (m.f.lasts : Int))) u2 := KS5.out _ HB8.out
      refine hC.out _ _ (fun _ => hHeld) (fun _ => ?_)
      clear hC C
      (try simp only [Act.put, List.setIfInBounds_toArray, List.set_cons_zero, List.set_cons_succ])
      refine wpAnyZ_ready (rs := [13]) (by kernel_rfl) (by simp) ?_
      refine AllReadyZ.cons (o := ⟨_, _, _, _, _, _⟩) rfl (fun C hC => ?_) AllReadyZ.nil
      go_simp
      refine (put_any u2 kb kn left done (cs.map pk) HC8.out.box HC8.out.map (by rw [List.length_map]; have := HNO.out.2; omega) nm hnz kc).mono ?_
      rintro e u3 ⟨rfl, hm3, hg3⟩
      obtain ⟨c, hc⟩ : ∃ c : CM, c = ⟨m.f, kc, ad2, cap2⟩ := ⟨_, rfl⟩
      have hcv : c.v = .slice ad2 L cap2 := by rw [hc]; unfold CM.v; simp only; rw [HLN.out]
      have hcf : c.f = m.f := by rw [hc]
      have hck : c.k = kc := by rw [hc]
      have HCZ : Hid (CpAt u3 kb kn w.heap.size left done ms (c :: cs)) := by
        have hq : ∀ q, c.v.ownBlock = some q → u0.heap.size ≤ q := fun q hq => (HOR.out.lt q (by rw [← hcv]; exact hq)).1
        refine HC8.out.add HM.out hcf (fun x hx => by rw [hcf, HNM.out]; exact HNO.out.1 x hx) (by rw [hck, hcv, hcf]; exact HX8.out) (by rw [hcv, hcf]; exact own_low HO8.out (Nat.zero_le _)) ⟨by rw [hck, HKC.out]; have := HZ1.out; omega, fun q h1 => by have := hq q h1; have := HZ1.out; omega⟩ (fun x hx => ⟨fun e => ?_, fun q h1 h3 => ?_⟩) hg3 (by rw [hcf, hck, HNM.out]; exact hm3)
        · have := (HC7.out.ct x hx).lt
          rw [hck, HKC.out] at e
          omega
        · have := ((HC6.out.row x hx).lt q h3).2
          have := hq q h1
          omega
      have HBZ : Hid (Below w.heap.size w u3) := HB8.out.trans (below_grown hg3 HKN.out HB8.out.size)
      have HRGZ : Hid (Ranging u3 km rr (ms.map pk) lf') := HR8.out.same (hg3.block km HR8.out.map.lt fun e => ?_) (hg3.block rr HR8.out.lt fun e => by have := HNR.out; have := Option.some.inj e; omega)
      rotate_left
      · have h1 := H.out.map.lt
        have h3 := HKN.out
        have := Option.some.inj e
        omega
      have HCF := Lib.hid hcf
      have HNM : Hid (c.f.name = nm) := by show _ = _; rw [hcf]; exact HNM.out
      clear hm3 hg3 hc hcv hcf hck
      have hHeld : (fun (V : World) => V.cell? ⟨pk2, 0, none⟩ = some (.slice ad L cap) ∧ V.cell? ⟨pk2, 1, none⟩ = some (.int .i64 (m.f.lasts : Int))) u3 := KS5.out _ HBZ.out
      refine hC.out _ _ (fun _ => hHeld) (fun _ => ?_)
      clear hC C
      (try simp only [Act.put, List.setIfInBounds_toArray, List.set_cons_zero, List.set_cons_succ])
      refine wpAnyZ_done (by kernel_rfl) ?_ _
      refine NoPanic.normal ?_
      go_wp2
      go_roundw
      case rel => exact ⟨c :: cs, lf', HCZ.out, HRGZ.out, by
        show List.Perm _ _
        refine List.Perm.trans ?_ HPM.out
        have h1 := HLP.out.map (fun p : ByteArray × Nat => p.1)
        have h3 : c.f.name = nm := HNM.out
        rw [List.map_cons, h3]
        exact (List.perm_middle (a := nm) (l₁ := cs.map (·.f.name)) (l₂ := lf'.map (·.1))).symm.trans (List.Perm.append_left _ (show (nm :: lf'.map (fun p : ByteArray × Nat => p.1)).Perm (lf.map (fun p : ByteArray × Nat => p.1)) from h1.symm)), HBZ.out⟩
      case measure =>
        rw [HRGZ.out.count, HCNT.out, HCNTN.out]
        simp
end Go.Proofs.YtjocfkkcnkpjdaaDoor

/-! The code's file system beside the document's own; each call on one side. -/
namespace Go.Proofs.YtjocfkkcnkpjdaaDoor
open Go.RowKit
open Go.RuneMath
open Go.FsMath
set_option linter.unusedVariables false

/-- The blocks of the document's own file system. -/
def RFoot (kw : Nat) (v : Value) (ms : List FM) (j : Nat) : Prop := j = kw ∨ v.ownBlock = some j ∨ ∃ m ∈ ms, ∃ a, m.ad = some a ∧ a.block = j
theorem FsOk.lt {w : World} {kw : Nat} {v : Value} {left done : Int} {ms : List FM} (h : FsOk w kw v left done ms) {j : Nat} (hj : RFoot kw v ms j) : j < w.heap.size := by
  rcases hj with rfl | h1 | ⟨m, hm, a, ha, rfl⟩
  · exact h.box.lt
  · exact (h.row.lt j h1).2
  · exact (h.apart m hm a ha).2.1
theorem FsOk.same {w w' : World} {kw : Nat} {v : Value} {left done : Int} {ms : List FM} (h : FsOk w kw v left done ms) (hz : w.heap.size ≤ w'.heap.size) (hs : ∀ j, RFoot kw v ms j → w'.heap[j]? = w.heap[j]?) : FsOk w' kw v left done ms := by
  have hc : ∀ b, RFoot kw v ms b → ∀ o, w'.cell? ⟨b, o, none⟩ = w.cell? ⟨b, o, none⟩ := fun b hb o => cell_same (hs b hb)
  refine ⟨?_, ?_, fun m hm => ⟨?_, (h.ins m hm).2⟩, fun m hm a ha => ⟨(h.apart m hm a ha).1, Nat.lt_of_lt_of_le (h.apart m hm a ha).2.1 hz, (h.apart m hm a ha).2.2⟩⟩
  · show w'.heap[kw]? = _
    rw [hs kw (.inl rfl)]
    exact h.box
  · refine ⟨h.row.1, ?_⟩
    rcases h.row.2 with h0 | ⟨g, cap, cur, e, hb, hh, hx⟩
    · exact .inl h0
    · have hg : v.ownBlock = some g := by rw [e]; rfl
      exact .inr ⟨g, cap, cur, e, hb, (hs g (.inr (.inl hg))).trans hh, hx⟩
  · have hr := (h.ins m hm).1
    refine ⟨hr.length, hr.fits, hr.room, ?_⟩
    rcases hr.cells with h0 | ⟨b, off, e, hlt, hcl⟩
    · exact .inl h0
    · exact .inr ⟨b, off, e, Nat.lt_of_lt_of_le hlt hz, fun i x hi j u hj => (hc b (.inr (.inr ⟨m, hm, _, e, rfl⟩)) _).trans (hcl i x hi j u hj)⟩
/-- What is plain of a file system whose calls shall be asked. -/
structure Fit (s : Fs) : Prop where
  n : s.l.length ≤ 1000
  b : ∀ f ∈ s.l, f.b.length ≤ 500000000
  nm : ∀ f ∈ s.l, f.name.size ≤ 1073741824
  ls : ∀ f ∈ s.l, f.lasts ≤ f.b.length
  d0 : 0 ≤ s.done
  d1 : s.done ≤ 1000000
  l0 : -1 ≤ s.left
  l1 : s.left ≤ 1073741824
theorem Fit.num {s : Fs} (h : Fit s) : FsNum s.left s.done := num_ok h.d0 (by have := h.d1; omega) h.l0 (by have := h.l1; omega)
/-- The code's file system sf and the document's own sg, made behind W; the blocks E stay as they are in w1. -/
structure Mix (W : World) (E : Nat → Prop) (w1 w : World) (kf : Nat) (sf : Fs) (kw : Nat) (sg : Fs) : Prop where
  below : Below W.heap.size W w
  size : w1.heap.size ≤ w.heap.size
  same : ∀ j, E j → j < w1.heap.size ∧ w.heap[j]? = w1.heap[j]?
  ex : ∃ km msf v ms, CfOk w kf km sf.left sf.done msf ∧ cls msf = sf.l ∧ FsOk w kw v sg.left sg.done ms ∧ fls ms = sg.l ∧ (∀ j, Foot kf km msf j → W.heap.size ≤ j ∧ ¬ RFoot kw v ms j ∧ ¬ E j) ∧ ∀ j, RFoot kw v ms j → W.heap.size ≤ j ∧ ¬ E j
section
variable {W w1 w w' : World} {E : Nat → Prop} {kf kw : Nat} {sf sg : Fs}
theorem Mix.on (h : Mix W E w1 w kf sf kw sg) (hb : Below w.heap.size w w') : Mix W E w1 w' kf sf kw sg := by
  obtain ⟨km, msf, v, ms, h1, h2, h3, h4, h5, h6⟩ := h.ex
  exact ⟨h.below.trans (hb.mono h.below.size), Nat.le_trans h.size hb.size, fun j hj => ⟨(h.same j hj).1, (hb.block j (Nat.lt_of_lt_of_le (h.same j hj).1 h.size)).trans (h.same j hj).2⟩, km, msf, v, ms, h1.on hb, h2, h3.keep hb, h4, h5, h6⟩
theorem Mix.held (h : Mix W E w1 w kf sf kw sg) (hb : Below w.heap.size w w') : ∃ D, Mix W D w' w' kf sf kw sg ∧ (∀ j, E j → D j) ∧ ∀ j, w.heap.size ≤ j → j < w'.heap.size → D j := by
  obtain ⟨km, msf, v, ms, h1, h2, h3, h4, h5, h6⟩ := h.ex
  refine ⟨fun j => j < w'.heap.size ∧ ¬ Foot kf km msf j ∧ ¬ RFoot kw v ms j, ⟨h.below.trans (hb.mono h.below.size), Nat.le_refl _, fun j hj => ⟨hj.1, rfl⟩, km, msf, v, ms, h1.on hb, h2, h3.keep hb, h4, fun j hj => ⟨(h5 j hj).1, (h5 j hj).2.1, fun hd => hd.2.1 hj⟩, fun j hj => ⟨(h6 j hj).1, fun hd => hd.2.2 hj⟩⟩, fun j hj => ⟨Nat.lt_of_lt_of_le (h.same j hj).1 (Nat.le_trans h.size hb.size), fun hf => (h5 j hf).2.2 hj, fun hf => (h6 j hf).2 hj⟩, fun j h7 h8 => ⟨h8, fun hf => ?_, fun hf => ?_⟩⟩
  · have := h1.lt hf; omega
  · have := h3.lt hf; omega
theorem Mix.reset (h : Mix W E w1 w kf sf kw sg) : Mix W (fun _ => False) w w kf sf kw sg := by
  obtain ⟨km, msf, v, ms, h1, h2, h3, h4, h5, h6⟩ := h.ex
  exact ⟨h.below, Nat.le_refl _, fun j hj => hj.elim, km, msf, v, ms, h1, h2, h3, h4, fun j hj => ⟨(h5 j hj).1, (h5 j hj).2.1, fun hx => hx⟩, fun j hj => ⟨(h6 j hj).1, fun hx => hx⟩⟩
theorem Mix.first (h : Mix W E w1 w kf sf kw sg) : ∃ X, One W X w w kf sf ∧ ∀ w' sf', One W X w w' kf sf' → Mix W E w1 w' kf sf' kw sg := by
  obtain ⟨km, msf, v, ms, h1, h2, h3, h4, h5, h6⟩ := h.ex
  refine ⟨fun j => j < w.heap.size ∧ ¬ Foot kf km msf j, ⟨h.below, Nat.le_refl _, fun j hj => ⟨hj.1, rfl⟩, km, msf, h1, h2, fun j hj => ⟨(h5 j hj).1, fun hx => hx.2 hj⟩⟩, fun w' sf' ho => ?_⟩
  obtain ⟨km', ms', hok, hcl, hf⟩ := ho.ex
  have hxg : ∀ j, RFoot kw v ms j → (j < w.heap.size ∧ ¬ Foot kf km msf j) := fun j hj => ⟨h3.lt hj, fun hF => (h5 j hF).2.1 hj⟩
  have hxe : ∀ j, E j → (j < w.heap.size ∧ ¬ Foot kf km msf j) := fun j hj => ⟨Nat.lt_of_lt_of_le (h.same j hj).1 h.size, fun hF => (h5 j hF).2.2 hj⟩
  exact ⟨ho.below, Nat.le_trans h.size ho.size, fun j hj => ⟨(h.same j hj).1, (ho.same j (hxe j hj)).2.trans (h.same j hj).2⟩, km', ms', v, ms, hok, hcl, h3.same ho.size fun j hj => (ho.same j (hxg j hj)).2, h4, fun j hj => ⟨(hf j hj).1, fun hg => (hf j hj).2 (hxg j hg), fun he => (hf j hj).2 (hxe j he)⟩, h6⟩
/-- Both sides, to be looked at. -/
theorem Mix.both (h : Mix W E w1 w kf sf kw sg) : ∃ X v ms, One W X w w kf sf ∧ FsOk w kw v sg.left sg.done ms ∧ fls ms = sg.l := by
  obtain ⟨km, msf, v, ms, h1, h2, h3, h4, h5, h6⟩ := h.ex
  exact ⟨fun j => j < w.heap.size ∧ ¬ Foot kf km msf j, v, ms, ⟨h.below, Nat.le_refl _, fun j hj => ⟨hj.1, rfl⟩, km, msf, h1, h2, fun j hj => ⟨(h5 j hj).1, fun hx => hx.2 hj⟩⟩, h3, h4⟩
theorem Mix.cell (h : Mix W E w1 w kf sf kw sg) {b o : Nat} (hb : E b) {v : Value} (hc : w1.cell? ⟨b, o, none⟩ = some v) : w.cell? ⟨b, o, none⟩ = some v := by
  have e := (h.same b hb).2
  unfold World.cell? at hc ⊢
  simp only [e]
  exact hc
/-- What is plain of the code's side. -/
theorem Mix.fit (h : Mix W E w1 w kf sf kw sg) {L M : Nat} {D : Int} (hs : Sm sf L M D) (hL : L ≤ 1000) (hM : M ≤ 500000000) (hD : D ≤ 1000000) : Fit sf := by
  obtain ⟨km, msf, v, ms, h1, h2, h3, h4, h5, h6⟩ := h.ex
  have hall : ∀ f ∈ sf.l, f.name.size ≤ 1073741824 ∧ f.lasts ≤ f.b.length := fun f hf => by
    rw [← h2] at hf
    obtain ⟨m, hm, rfl⟩ := List.mem_map.1 hf
    exact ⟨(h1.right m hm).2, (h1.row m hm).2.2⟩
  exact ⟨Nat.le_trans hs.n hL, fun f hf => Nat.le_trans (hs.b f hf) hM, fun f hf => (hall f hf).1, fun f hf => (hall f hf).2, hs.d0, by have := hs.d1; omega, hs.l0, hs.l1⟩
/-- A call on the code's side. -/
theorem mix_did (h : Mix W E w1 w kf sf kw sg) {g : Nat} {args : Array Value} {r : Int × Fs}
    (hc : ∀ X, One W X w w kf sf → Calls Tryd.prog g args w (Did W X w kf r)) : Calls Tryd.prog g args w fun e w' => e = .returned (.int .i64 r.1) ∧ Hid (Mix W E w1 w' kf r.2 kw sg) := by
  obtain ⟨X, h1, h2⟩ := h.first
  exact (hc X h1).mono fun e w' hd => ⟨hd.1, h2 w' r.2 hd.2.out⟩
/-- What a call of the document's own leaves. -/
theorem Mix.gave (h : Mix W E w1 w kf sf kw sg) {s' : Fs} {km : Nat} {msf : List CM} {v v' : Value} {ms ms' : List FM} (h1 : CfOk w kf km sf.left sf.done msf) (h2 : cls msf = sf.l) (h3 : FsOk w kw v sg.left sg.done ms) (h5 : ∀ j, Foot kf km msf j → W.heap.size ≤ j ∧ ¬ RFoot kw v ms j ∧ ¬ E j) (h6 : ∀ j, RFoot kw v ms j → W.heap.size ≤ j ∧ ¬ E j)
    (k1 : FsOk w' kw v' s'.left s'.done ms') (k2 : fls ms' = s'.l) (k3 : KeptFs w w' kw v) (k4 : NewOr w v v') (k5 : ListsFs w ms ms') : Mix W E w1 w' kf sf kw s' := by
  have hb : ∀ j, j < w.heap.size → ¬ RFoot kw v ms j → w'.heap[j]? = w.heap[j]? := fun j hj hn => k3.block j hj (fun e => hn (.inl e)) fun e => hn (.inr (.inl e))
  have hf : ∀ j, RFoot kw v' ms' j → RFoot kw v ms j ∨ w.heap.size ≤ j := fun j hj => by
    rcases hj with e | e | ⟨m, hm, a, ha, e⟩
    · exact .inl (.inl e)
    · rcases k4 j e with e | e
      · exact .inl (.inr (.inl e))
      · exact .inr e
    · rcases k5 m hm a ha with ⟨m0, hm0, ha0⟩ | e2
      · exact .inl (.inr (.inr ⟨m0, hm0, a, ha0, e⟩))
      · exact .inr (by rw [← e]; exact e2)
  have hlow : Below W.heap.size W w' := by
    refine ⟨k3.os.trans h.below.os, k3.tape.trans h.below.tape, k3.output.trans h.below.output, Nat.le_trans h.below.size k3.size, fun j hj => (hb j (Nat.lt_of_lt_of_le hj h.below.size) fun hr => ?_).trans (h.below.block j hj)⟩
    have := (h6 j hr).1
    omega
  refine ⟨hlow, Nat.le_trans h.size k3.size, fun j hj => ⟨(h.same j hj).1, (hb j (Nat.lt_of_lt_of_le (h.same j hj).1 h.size) fun hr => (h6 j hr).2 hj).trans (h.same j hj).2⟩, km, msf, v', ms', h1.same (fun j hj => hb j (h1.lt hj) (h5 j hj).2.1), h2, k1, k2, fun j hj => ⟨(h5 j hj).1, fun hr => ?_, (h5 j hj).2.2⟩, fun j hj => ?_⟩
  · rcases hf j hr with e | e
    · exact (h5 j hj).2.1 e
    · have := h1.lt hj; omega
  · rcases hf j hj with e | e
    · exact h6 j e
    · exact ⟨Nat.le_trans h.below.size e, fun he => by have := (h.same j he).1; have := h.size; omega⟩
/-- A call on the document's side. -/
theorem mix_ref (h : Mix W E w1 w kf sf kw sg) {g : Nat} {args : Array Value} {r : Int × Fs}
    (hc : ∀ v ms, FsOk w kw v sg.left sg.done ms → fls ms = sg.l → (∀ j, RFoot kw v ms j → W.heap.size ≤ j ∧ ¬ E j) → Calls Tryd.prog g args w (GivesFs w kw v ms r)) : Calls Tryd.prog g args w fun e w' => e = .returned (.int .i64 r.1) ∧ Hid (Mix W E w1 w' kf sf kw r.2) := by
  obtain ⟨km, msf, v, ms, h1, h2, h3, h4, h5, h6⟩ := h.ex
  refine (hc v ms h3 h4 h6).mono ?_
  rintro e w' ⟨he, v', ms', k1, k2, k3, k4, k5⟩
  exact ⟨he, h.gave h1 h2 h3 h5 h6 k1 k2 k3 k4 k5⟩
theorem fit_len (h : Fit sg) {ms : List FM} (e : fls ms = sg.l) : ms.length ≤ 1000 := by
  have := h.n
  rw [← e] at this
  unfold fls at this
  rwa [List.length_map] at this
theorem fit_nm (h : Fit sg) {ms : List FM} (e : fls ms = sg.l) : NamesOk ms := fun m hm => h.nm m.f (by rw [← e]; exact List.mem_map.2 ⟨m, hm, rfl⟩)
theorem fit_b (h : Fit sg) {ms : List FM} (e : fls ms = sg.l) : Smalls ms := fun m hm => by have := h.b m.f (by rw [← e]; exact List.mem_map.2 ⟨m, hm, rfl⟩); omega
theorem fit_ls (h : Fit sg) {ms : List FM} (e : fls ms = sg.l) : ∀ m ∈ ms, m.f.lasts ≤ m.f.b.length := fun m hm => h.ls m.f (by rw [← e]; exact List.mem_map.2 ⟨m, hm, rfl⟩)
theorem fs_eta {ms : List FM} (e : fls ms = sg.l) : (⟨fls ms, sg.left, sg.done⟩ : Fs) = sg := by rw [e]
theorem mixSync (h : Mix W E w1 w kf sf kw sg) (hF : Fit sg) (n : ByteArray) (hn : n.size ≤ 1073741824) : Calls Tryd.prog 29 #[.pointer (some ⟨kw, 0, none⟩), .string n] w fun e w' => e = .returned (.int .i64 (syncF sg n).1) ∧ Hid (Mix W E w1 w' kf sf kw (syncF sg n).2) :=
  mix_ref h fun v ms h1 h2 _ => fsSync_any w kw v sg.left sg.done ms h1 (by have := fit_len hF h2; omega) (fit_nm hF h2) hF.d0 (by have := hF.d1; omega) hF.l0 (by have := hF.l1; omega) n hn _ (by rw [fs_eta h2])
theorem mixTruncate (h : Mix W E w1 w kf sf kw sg) (hF : Fit sg) (n : ByteArray) (hn : n.size ≤ 1073741824) (k : Int) : Calls Tryd.prog 26 #[.pointer (some ⟨kw, 0, none⟩), .string n, .int .i64 k] w fun e w' => e = .returned (.int .i64 (truncF sg n k).1) ∧ Hid (Mix W E w1 w' kf sf kw (truncF sg n k).2) :=
  mix_ref h fun v ms h1 h2 _ => fsTrunc_any w kw v sg.left sg.done ms h1 (by have := fit_len hF h2; omega) (fit_nm hF h2) (fit_b hF h2) hF.d0 (by have := hF.d1; omega) hF.l0 (by have := hF.l1; omega) n hn k _ (by rw [fs_eta h2])
theorem mixRemove (h : Mix W E w1 w kf sf kw sg) (hF : Fit sg) (n : ByteArray) (hn : n.size ≤ 1073741824) : Calls Tryd.prog 28 #[.pointer (some ⟨kw, 0, none⟩), .string n] w fun e w' => e = .returned (.int .i64 (removeF sg n).1) ∧ Hid (Mix W E w1 w' kf sf kw (removeF sg n).2) :=
  mix_ref h fun v ms h1 h2 _ => fsRemove_any w kw v sg.left sg.done ms h1 (by have := fit_len hF h2; omega) (fit_nm hF h2) hF.d0 (by have := hF.d1; omega) hF.l0 (by have := hF.l1; omega) n hn _ (by rw [fs_eta h2])
theorem mixRename (h : Mix W E w1 w kf sf kw sg) (hF : Fit sg) (n : ByteArray) (hn : n.size ≤ 1073741824) (n2 : ByteArray) (hn2 : n2.size ≤ 1073741824) : Calls Tryd.prog 27 #[.pointer (some ⟨kw, 0, none⟩), .string n, .string n2] w fun e w' => e = .returned (.int .i64 (renameF sg n n2).1) ∧ Hid (Mix W E w1 w' kf sf kw (renameF sg n n2).2) :=
  mix_ref h fun v ms h1 h2 _ => fsRename_any w kw v sg.left sg.done ms h1 (by have := fit_len hF h2; omega) (fit_nm hF h2) hF.d0 (by have := hF.d1; omega) hF.l0 (by have := hF.l1; omega) n hn n2 hn2 _ (by rw [fs_eta h2])
theorem mixAppend (h : Mix W E w1 w kf sf kw sg) (hF : Fit sg) (n : ByteArray) (hn : n.size ≤ 1073741824) (bad : Option Addr) (blen bcap : Nat) (bs : List Nat) (hbr : RowAt byteK w bad blen bcap bs) (hball : AllB bs) (hbl : blen ≤ 1000000000) (hbk : ∀ a, bad = some a → 0 < blen → a.block < W.heap.size ∨ E a.block) : Calls Tryd.prog 31 #[.pointer (some ⟨kw, 0, none⟩), .string n, .slice bad blen bcap] w fun e w' => e = .returned (.int .i64 (appendF sg n bs).1) ∧ Hid (Mix W E w1 w' kf sf kw (appendF sg n bs).2) :=
  mix_ref h fun v ms h1 h2 hr => fsAppend_any w kw v sg.left sg.done ms h1 (by have := fit_len hF h2; omega) (fit_nm hF h2) (fit_b hF h2) hF.d0 (by have := hF.d1; omega) hF.l0 (by have := hF.l1; omega) n hn bad blen bcap bs hbr hball hbl (fun a ha h0 e => by
    have h3 := hr kw (.inl rfl)
    rcases hbk a ha h0 with h4 | h4
    · omega
    · rw [e] at h4; exact h3.2 h4) _ (by rw [fs_eta h2])
theorem mixCrash (h : Mix W E w1 w kf sf kw sg) (hF : Fit sg)
    (kad : Option Addr) (klen kcap : Nat) (ks : List Int) (hk : RowAt keepK w kad klen kcap ks) (hkb : ∀ a, kad = some a → 0 < klen → a.block < W.heap.size ∨ E a.block) (hki : ∀ k ∈ ks, -9223372036854775808 ≤ k ∧ k ≤ 9223372036854775807)
    (gad : Option Addr) (glen gcap : Nat) (gs : List Nat) (hg : RowAt byteK w gad glen gcap gs) (hgb : ∀ a, gad = some a → 0 < glen → a.block < W.heap.size ∨ E a.block) (hga : AllB gs) :
    Calls Tryd.prog 30 #[.pointer (some ⟨kw, 0, none⟩), .slice kad klen kcap, .slice gad glen gcap] w fun e w' => e = .returned (.tuple #[]) ∧ Hid (Mix W E w1 w' kf sf kw ⟨crashF sg.l ks gs, -1, sg.done⟩) := by
  obtain ⟨km, msf, v, ms, h1, h2, h3, h4, h5, h6⟩ := h.ex
  have hno : ∀ a : Addr, (a.block < W.heap.size ∨ E a.block) → a.block ≠ kw ∧ v.ownBlock ≠ some a.block := fun a ha => by
    refine ⟨fun e => ?_, fun e => ?_⟩
    · have := h6 a.block (.inl e)
      rcases ha with h7 | h7
      · omega
      · exact this.2 h7
    · have := h6 a.block (.inr (.inl e))
      rcases ha with h7 | h7
      · omega
      · exact this.2 h7
  refine (fsCrash_any w kw v sg.left sg.done ms h3 (by have := fit_len hF h4; omega) (fit_b hF h4) (fit_ls hF h4) kad klen kcap ks hk (fun a ha h0 => hno a (hkb a ha h0)) hki gad glen gcap gs hg (fun a ha h0 => hno a (hgb a ha h0)) hga).mono ?_
  rintro e w' ⟨he, ms', k1, k2, k3, k4⟩
  exact ⟨he, h.gave (s' := ⟨crashF sg.l ks gs, -1, sg.done⟩) h1 h2 h3 h5 h6 k1 (by rw [k2, h4]) k3 (newOr_refl _ _) k4⟩
/-- 'w.Left = n'. -/
theorem Mix.left (h : Mix W E w1 w kf sf kw sg) (n : Int) : Mix W E w1 (w.setCell ⟨kw, 1, none⟩ (.int .i64 n)) kf sf kw ⟨sg.l, n, sg.done⟩ := by
  obtain ⟨km, msf, v, ms, h1, h2, h3, h4, h5, h6⟩ := h.ex
  have hg := grow_one w kw 1 (.int .i64 n)
  exact h.gave (s' := ⟨sg.l, n, sg.done⟩) h1 h2 h3 h5 h6 (h3.turned hg (h3.box.s1 n)) h4 (kept_grown hg) (newOr_refl _ _) (lists_refl _ _)
theorem Mix.stored (h : Mix W E w1 w kf sf kw sg) : w.frozen? ⟨kw, 1, none⟩ = false ∧ w.cell? ⟨kw, 1, none⟩ = some (.int .i64 sg.left) := by
  obtain ⟨km, msf, v, ms, h1, h2, h3, h4, h5, h6⟩ := h.ex
  exact ⟨h3.box.free 1, h3.box.c1⟩
theorem mix_new {X : Nat → Prop} (h : One W X w1 w kf sf) {k : Nat} (h2 : FsOk w' k (.slice none 0 0) (-1) 0 []) (hk : w.heap.size ≤ k) (hb : Below w.heap.size w w') : Mix W (fun _ => False) w' w' kf sf k ⟨[], -1, 0⟩ := by
  obtain ⟨km, ms, hok, hcl, hf⟩ := h.ex
  have hr : ∀ j, RFoot k (.slice none 0 0) [] j → w.heap.size ≤ j := fun j hj => by
    rcases hj with e | e | ⟨m, hm, _⟩
    · omega
    · cases e
    · cases hm
  exact ⟨h.below.trans (hb.mono h.below.size), Nat.le_refl _, fun j hj => hj.elim, km, ms, .slice none 0 0, [], hok.on hb, hcl, h2, rfl, fun j hj => ⟨(hf j hj).1, fun hg => by have := hok.lt hj; have := hr j hg; omega, fun he => he⟩, fun j hj => ⟨Nat.le_trans h.below.size (hr j hj), fun he => he⟩⟩
theorem mix_same {s : Fs} (h : Mix W E w1 w kf s kw s) (hF : Fit s) (hT : Tabs W) (h2 : 2 ≤ W.heap.size) : Calls Tryd.prog 32 #[.pointer (some ⟨kf, 0, none⟩), .pointer (some ⟨kw, 0, none⟩)] w fun e w' => e = .returned (.bool true) ∧ Below w.heap.size w w' := by
  obtain ⟨X, v, ms, ho, hr, hfl⟩ := h.both
  exact same_any W w w X kf s ho kw v s.left ms hr hfl (by have := hF.n; omega) (fun f hf => by have := hF.b f hf; omega) hT h2
theorem mix_same2 {s : Fs} (h : Mix W E w1 w kf sf kw s) {W' w1' : World} {X : Nat → Prop} {kb : Nat} (hc : One W' X w1' w kb s) (hF : Fit s) (hT : Tabs W') (h2 : 2 ≤ W'.heap.size) : Calls Tryd.prog 32 #[.pointer (some ⟨kb, 0, none⟩), .pointer (some ⟨kw, 0, none⟩)] w fun e w' => e = .returned (.bool true) ∧ Below w.heap.size w w' := by
  obtain ⟨X2, v, ms, ho, hr, hfl⟩ := h.both
  exact same_any W' w w1' X kb s hc kw v s.left ms hr hfl (by have := hF.n; omega) (fun f hf => by have := hF.b f hf; omega) hT h2
theorem mix_copy (h : Mix W E w1 w kf sf kw sg) (hF : Fit sf) : Calls Tryd.prog 33 #[.pointer (some ⟨kf, 0, none⟩)] w fun e w' => ∃ kb, e = .returned (.pointer (some ⟨kb, 0, none⟩)) ∧ Hid (Below w.heap.size w w') ∧ Hid (One w (fun _ => False) w' w' kb sf) := by
  obtain ⟨km, msf, v, ms, h1, h2, h3, h4, h5, h6⟩ := h.ex
  have hl : msf.length ≤ 10000 := by have := hF.n; rw [← h2] at this; unfold cls at this; rw [List.length_map] at this; omega
  refine (cCopy_any w kf km sf.left sf.done msf h1 hl (fun m hm => by have := hF.b m.f (by rw [← h2]; exact List.mem_map.2 ⟨m, hm, rfl⟩); omega)).mono ?_
  rintro e w' ⟨hb, kb, kn, ms2, he, hok, hcl, hf⟩
  exact ⟨kb, he, hb, hb, Nat.le_refl _, fun j hj => hj.elim, kn, ms2, hok, by rw [hcl, h2], fun j hj => ⟨hf j hj, fun hx => hx⟩⟩
end
end Go.Proofs.YtjocfkkcnkpjdaaDoor
