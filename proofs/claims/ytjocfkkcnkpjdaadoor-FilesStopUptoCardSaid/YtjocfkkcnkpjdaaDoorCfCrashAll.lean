/- Chapter 7's files as the code has them: Crash. -/
import Derived.Test.YtjocfkkcnkpjdaaDoorCfList
import Derived.Test.YtjocfkkcnkpjdaaDoorCfCrash
import Derived.Test.YtjocfkkcnkpjdaaDoorFsCrash
namespace Go.Proofs.YtjocfkkcnkpjdaaDoor
open Go.RowKit
open Go.RuneMath
open Go.FsMath
set_option linter.unusedVariables false

set_option maxRecDepth 100000 in
theorem elemK_any (w : World) (ad : Option Addr) (len cap : Nat) (ks : List Int) (h : RowAt keepK w ad len cap ks) (i : Nat) (hi : i ≤ 1000000) :
    Calls Tryd.prog 42 #[.slice ad len cap, .int .i64 (i : Int)] w fun e w' => e = .returned (.int .i64 (ks[i]?.getD 0)) ∧ w = w' := by
  by_cases hlt : i < len
  · have hd : decide (len ≤ i) = false := decide_eq_false (by omega)
    obtain ⟨b, off, k, rfl, hb, hk, hc⟩ := long_get h hlt
    have HK : Hid (ks[i]?.getD 0 = k) := by show _ = _; rw [hk]; rfl
    have hij : (i : Int) < (len : Int) := by omega
    clear h hk
    go_enter Tryd.func42, Tryd.ntmps42
    go_wp2
    go_ret
    exact ⟨by rw [HK.out]; rfl, rfl⟩
  · have hd : decide (len ≤ i) = true := decide_eq_true (by omega)
    have HK : Hid (ks[i]?.getD 0 = 0) := by
      show _ = _
      rw [List.getElem?_eq_none (by have := h.length; omega)]
      rfl
    clear h
    go_enter Tryd.func42, Tryd.ntmps42
    go_wp2
    go_ret
    exact ⟨by rw [HK.out]; rfl, rfl⟩
set_option maxRecDepth 100000 in
theorem elemB_any (w : World) (ad : Option Addr) (len cap : Nat) (gs : List Nat) (h : RowAt byteK w ad len cap gs) (i : Nat) (hi : i ≤ 1000000) :
    Calls Tryd.prog 43 #[.slice ad len cap, .int .i64 (i : Int)] w fun e w' => e = .returned (.int .u8 ((gs[i]?.getD 0 : Nat) : Int)) ∧ w = w' := by
  by_cases hlt : i < len
  · have hd : decide (len ≤ i) = false := decide_eq_false (by omega)
    obtain ⟨b, off, k, rfl, hb, hk, hc⟩ := byte_get h hlt
    have HK : Hid (gs[i]?.getD 0 = k) := by show _ = _; rw [hk]; rfl
    have hij : (i : Int) < (len : Int) := by omega
    clear h hk
    go_enter Tryd.func43, Tryd.ntmps43
    go_wp2
    go_ret
    exact ⟨by rw [HK.out]; rfl, rfl⟩
  · have hd : decide (len ≤ i) = true := decide_eq_true (by omega)
    have HK : Hid (gs[i]?.getD 0 = 0) := by
      show _ = _
      rw [List.getElem?_eq_none (by have := h.length; omega)]
      rfl
    clear h
    go_enter Tryd.func43, Tryd.ntmps43
    go_wp2
    go_ret
    exact ⟨by rw [HK.out]; rfl, rfl⟩
theorem crash_zero (f : Fl) (k : Int) (g : Option Nat) : crashOne f k (some (g.getD 0)) = crashOne f k g := by
  cases g with
  | some g => rfl
  | none =>
    have e : ∀ (b : List Nat) (s : Nat), xorAt b s 0 = b := fun b s => by
      refine List.ext_getElem? fun t => ?_
      unfold xorAt
      rw [List.getElem?_mapIdx]
      cases b[t]? with
      | none => rfl
      | some x =>
        show some (if s ≤ t then x ^^^ 0 else x) = some x
        rw [Nat.xor_zero]
        split <;> rfl
    show crashOne f k (some 0) = _
    unfold crashOne
    simp only
    rw [e]
/-- In a crash, behind the first files. -/
structure CrAt (w wr : World) (kf km : Nat) (left done : Int) (ms : List CM) (ks : List Int) (gs : List Nat) (i : Nat) (msi : List CM) : Prop where
  ok : CfOk wr kf km left done msi
  cl : cls msi = crashTo (cls ms) ks gs i
  kept : Kept w wr (Foot kf km ms)
  foot : ∀ j, Foot kf km msi j → Foot kf km ms j
theorem CrAt.len {w wr : World} {kf km : Nat} {left done : Int} {ms : List CM} {ks : List Int} {gs : List Nat} {i : Nat} {msi : List CM} (h : CrAt w wr kf km left done ms ks gs i msi) : msi.length = ms.length := by
  have h1 := congrArg List.length h.cl
  rw [crashTo_len] at h1
  unfold cls at h1
  rw [List.length_map, List.length_map] at h1
  exact h1
set_option maxRecDepth 100000 in
set_option maxHeartbeats 8000000 in
theorem cCrash_any (w : World) (kf km : Nat) (left done : Int) (ms : List CM) (h : CfOk w kf km left done ms) (hL : ms.length ≤ 10000) (hT : Tabs w) (h2 : 2 ≤ w.heap.size) (hB : ∀ m ∈ ms, m.f.b.length ≤ 140737488355328)
    (kad : Option Addr) (klen kcap : Nat) (ks : List Int) (hk : RowAt keepK w kad klen kcap ks) (hkb : ∀ a, kad = some a → 0 < klen → ¬ Foot kf km ms a.block) (hki : ∀ k ∈ ks, -9223372036854775808 ≤ k ∧ k ≤ 9223372036854775807)
    (gad : Option Addr) (glen gcap : Nat) (gs : List Nat) (hg : RowAt byteK w gad glen gcap gs) (hgb : ∀ a, gad = some a → 0 < glen → ¬ Foot kf km ms a.block) (hga : AllB gs) :
    Calls Tryd.prog 16 #[.pointer (some ⟨kf, 0, none⟩), .slice kad klen kcap, .slice gad glen gcap] w fun e w' => e = .returned (.tuple #[]) ∧ ∃ ms', CfOk w' kf km (-1) done ms' ∧ cls ms' = crashF (cls ms) ks gs ∧ Kept w w' (Foot kf km ms) ∧ ∀ j, Foot kf km ms' j → Foot kf km ms j := by
  have hki0 : ∀ i : Nat, -9223372036854775808 ≤ ks[i]?.getD 0 ∧ ks[i]?.getD 0 ≤ 9223372036854775807 := fun i => by
    cases hx : ks[i]? with
    | none => show -9223372036854775808 ≤ (0 : Int) ∧ (0 : Int) ≤ 9223372036854775807; omega
    | some k => exact hki k (List.mem_of_getElem? hx)
  have hga0 : ∀ i : Nat, gs[i]?.getD 0 < 256 := fun i => by
    cases hx : gs[i]? with
    | none => show (0 : Nat) < 256; omega
    | some k => exact hga k (List.mem_of_getElem? hx)
  have H := Lib.hid h
  have HL := Lib.hid hL
  have HT := Lib.hid hT
  have HB := Lib.hid hB
  have HKS := Lib.hid hk
  have HKB := Lib.hid hkb
  have HGS := Lib.hid hg
  have HGB := Lib.hid hgb
  have HKI := Lib.hid hki0
  have HGA := Lib.hid hga0
  clear h hk hkb hki hg hgb hga hki0 hga0 hB hT
  go_enter Tryd.func16, Tryd.ntmps16
  go_wp2_with fail
  refine (cList_any w kf km left done ms H.out HL.out HT.out h2).mono ?_
  rintro e w1 ⟨hb1, ad, cap, rfl, ho1⟩
  obtain ⟨N, hN⟩ : ∃ n, ((cls ms).map (·.name)).length = n := ⟨_, rfl⟩
  rw [hN] at ho1
  rw [hN]
  obtain ⟨nad, ncap, hv1, hr1, hat1⟩ := OwnRow.row2 strK_ok ho1 hN
  obtain ⟨rfl, rfl⟩ : ad = nad ∧ cap = ncap := by
    simp only [Value.slice.injEq] at hv1
    exact ⟨hv1.1, hv1.2.2⟩
  have hNm : ms.length = N := by
    rw [← hN]
    unfold cls
    rw [List.length_map, List.length_map]
  have hfr : ∀ a, ad = some a → ¬ Foot kf km ms a.block := fun a ha hF => by
    have h1 := H.out.lt hF
    have h3 := ho1.lt a.block (by rw [ha]; rfl)
    omega
  have HN := Lib.hid hNm
  have H1 := Lib.hid (H.out.on hb1)
  have HNR := Lib.hid hr1
  have HFR := Lib.hid hfr
  have HKS1 := Lib.hid (HKS.out.keep hb1)
  have HGS1 := Lib.hid (HGS.out.keep hb1)
  have HB1 := Lib.hid hb1
  have hN6 : N ≤ 10000 := by rw [← hNm]; exact HL.out
  clear hb1 ho1 hN hr1 hat1 hv1 hNm hfr HKS HGS HT
  go_wp2_with fail
  go_loopw [11] (fun v11 wr => ∃ (i : Nat) (msi : List CM), v11 = .int .i64 (i : Int) ∧ i ≤ N ∧ Hid (CrAt w1 wr kf km left done ms ks gs i msi)) (fun v11 _ => N - (intOf v11).toNat)
  case atStart => exact ⟨0, ms, rfl, Nat.zero_le _, ⟨H1.out, (crashTo_start _ _ _).symm, Kept.refl _ _, fun j hj => hj⟩⟩
  case round =>
    obtain ⟨i, msi, rfl, hi, HCA⟩ := hrel
    obtain ⟨wo, hwo⟩ : ∃ wo : World, wo = wr := ⟨_, rfl⟩
    subst hwo
    by_cases hlt : i < N
    · have hd : decide (i < N) = true := decide_eq_true (by omega)
      have hij : (i : Int) < (N : Int) := by omega
      obtain ⟨m, hm⟩ : ∃ m, msi[i]? = some m := ⟨_, List.getElem?_eq_getElem (by rw [HCA.out.len, HN.out]; exact hlt)⟩
      have hmm := List.mem_of_getElem? hm
      obtain ⟨b, off, s, hads, hbs, hls, hcs⟩ := str_get (HCA.out.kept.row HNR.out HFR.out) hlt
      have hnm : s = m.f.name := by
        have h1 : ((cls msi).map (·.name))[i]? = ((cls ms).map (·.name))[i]? := by
          rw [HCA.out.cl]
          rw [List.getElem?_map, List.getElem?_map, crashTo_get]
          cases (cls ms)[i]? with
          | none => rfl
          | some f =>
            show some _ = some _
            congr 1
            show (if i < i then _ else f).name = _
            rw [if_neg (Nat.lt_irrefl i)]
        rw [hls, List.getElem?_map, cls_at hm] at h1
        exact (Option.some.inj h1).symm
      have hfi : (cls ms)[i]? = some m.f := crashTo_at (by rw [← HCA.out.cl]; exact cls_at hm)
      have hbl : m.f.b.length ≤ 140737488355328 := by
        unfold cls at hfi
        rw [List.getElem?_map] at hfi
        cases hx : ms[i]? with
        | none => rw [hx] at hfi; cases hfi
        | some y =>
          rw [hx] at hfi
          rw [← Option.some.inj hfi]
          exact HB.out y (List.mem_of_getElem? hx)
      obtain ⟨mk, hmk⟩ : ∃ k, k = m.k := ⟨_, rfl⟩
      have KS : Hid (∀ W, Below wo.heap.size wo W → (fun (W : World) => W.cell? ⟨kf, 0, none⟩ = some (.map (some km)) ∧ (Instr.lookup 56 (.map (some km)) (.string s) false).run Tryd.prog W = .ok (.pointer (some ⟨mk, 0, none⟩)) W) W) := fun W hW => by
        have h1 := HCA.out.ok.on hW
        refine ⟨h1.box.c0, ?_⟩
        rw [hnm, hmk]
        exact h1.look1 hmm
      have HM := Lib.hid hm
      have HMM := Lib.hid hmm
      have HFI := Lib.hid hfi
      have HNM := Lib.hid hnm
      have HMK := Lib.hid hmk
      have hdrw : Below wo.heap.size wo wo.drew := (Below.refl _ wo).drew
      subst hads
      clear hm hmm hls hnm hfi hmk hbs
      go_upto_region 3 with fail
      refine wp_region_noPanic ?_
      refine wp_region_z [] (fun (W : World) => W.cell? ⟨kf, 0, none⟩ = some (.map (some km)) ∧ (Instr.lookup 56 (.map (some km)) (.string s) false).run Tryd.prog W = .ok (.pointer (some ⟨mk, 0, none⟩)) W) (by kernel_rfl) ?_
      have hHeld : (fun (W : World) => W.cell? ⟨kf, 0, none⟩ = some (.map (some km)) ∧ (Instr.lookup 56 (.map (some km)) (.string s) false).run Tryd.prog W = .ok (.pointer (some ⟨mk, 0, none⟩)) W) _ := KS.out _ hdrw
      obtain ⟨u0, hu0⟩ : ∃ u, u = wo.drew := ⟨_, rfl⟩
      rw [← hu0] at hHeld hdrw
      rw [← hu0]
      clear hu0
      have HB0 := Lib.hid hdrw
      have HCU : Hid (CfOk u0 kf km left done msi) := HCA.out.ok.on hdrw
      have hKu : Kept w1 u0 (Foot kf km ms) := HCA.out.kept.trans (Kept.of_below hdrw) fun j hj => .inl hj
      have HKU := Lib.hid (hKu.row0 HKS1.out HKB.out)
      have HGU := Lib.hid (hKu.row0 HGS1.out HGB.out)
      clear hdrw hKu
      refine wpAnyZ_take (i := 0) (oi := ⟨_, _, _, _, _, _⟩) (v := ?_) rfl (by kernel_rfl) (by kernel_rfl) (by kernel_rfl) (by kernel_rfl) (by kernel_rfl) (fun _ _ _ h => h) (Or.inl ⟨by rfl, ?_⟩) (by assumption) ?_
      rotate_left
      · intro W hSw
        (try dsimp only at hSw)
        go_simp
        (try with_reducible rfl)
      (try simp only [Act.put, List.setIfInBounds_toArray, List.set_cons_zero, List.set_cons_succ])
      refine wpAnyZ_take (i := 1) (oi := ⟨_, _, _, _, _, _⟩) (v := ?_) rfl (by kernel_rfl) (by kernel_rfl) (by kernel_rfl) (by kernel_rfl) (by kernel_rfl) (fun _ _ _ h => h) (Or.inl ⟨by rfl, ?_⟩) (by assumption) ?_
      rotate_left
      · intro W hSw
        (try dsimp only at hSw)
        go_simp
        (try with_reducible rfl)
      (try simp only [Act.put, List.setIfInBounds_toArray, List.set_cons_zero, List.set_cons_succ])
      refine wpAnyZ_take (i := 2) (oi := ⟨_, _, _, _, _, _⟩) (v := ?_) rfl (by kernel_rfl) (by kernel_rfl) (by kernel_rfl) (by kernel_rfl) (by kernel_rfl) (fun _ _ _ h => h) (Or.inl ⟨by rfl, ?_⟩) (by assumption) ?_
      rotate_left
      · intro W hSw
        (try dsimp only at hSw)
        go_simp
        (try with_reducible rfl)
      (try simp only [Act.put, List.setIfInBounds_toArray, List.set_cons_zero, List.set_cons_succ])
      refine wpAnyZ_take (i := 3) (oi := ⟨_, _, _, _, _, _⟩) (v := ?_) rfl (by kernel_rfl) (by kernel_rfl) (by kernel_rfl) (by kernel_rfl) (by kernel_rfl) (fun _ _ _ h => h) (Or.inl ⟨by rfl, ?_⟩) (by assumption) ?_
      rotate_left
      · intro W hSw
        (try dsimp only at hSw)
        go_simp
        (try with_reducible rfl)
      (try simp only [Act.put, List.setIfInBounds_toArray, List.set_cons_zero, List.set_cons_succ])
      refine wpAnyZ_take (i := 4) (oi := ⟨_, _, _, _, _, _⟩) (v := ?_) rfl (by kernel_rfl) (by kernel_rfl) (by kernel_rfl) (by kernel_rfl) (by kernel_rfl) (fun _ _ _ h => h) (Or.inl ⟨by rfl, ?_⟩) (by assumption) ?_
      rotate_left
      · intro W hSw
        (try dsimp only at hSw)
        go_simp
        (try with_reducible rfl)
      (try simp only [Act.put, List.setIfInBounds_toArray, List.set_cons_zero, List.set_cons_succ])
      refine wpAnyZ_take (i := 5) (oi := ⟨_, _, _, _, _, _⟩) (v := ?_) rfl (by kernel_rfl) (by kernel_rfl) (by kernel_rfl) (by kernel_rfl) (by kernel_rfl) (fun _ _ _ h => h) (Or.inl ⟨by rfl, ?_⟩) (by assumption) ?_
      rotate_left
      · intro W hSw
        (try dsimp only at hSw)
        go_simp
        (try with_reducible rfl)
      (try simp only [Act.put, List.setIfInBounds_toArray, List.set_cons_zero, List.set_cons_succ])
      refine wpAnyZ_take (i := 6) (oi := ⟨_, _, _, _, _, _⟩) (v := ?_) rfl (by kernel_rfl) (by kernel_rfl) (by kernel_rfl) (by kernel_rfl) (by kernel_rfl) (fun _ _ _ h => h) (Or.inl ⟨by rfl, ?_⟩) (by assumption) ?_
      rotate_left
      · intro W hSw
        (try dsimp only at hSw)
        go_simp
        (try with_reducible rfl)
      (try simp only [Act.put, List.setIfInBounds_toArray, List.set_cons_zero, List.set_cons_succ])
      refine wpAnyZ_take (i := 7) (oi := ⟨_, _, _, _, _, _⟩) (v := ?_) rfl (by kernel_rfl) (by kernel_rfl) (by kernel_rfl) (by kernel_rfl) (by kernel_rfl) (fun _ _ _ h => h) (Or.inl ⟨by rfl, ?_⟩) (by assumption) ?_
      rotate_left
      · intro W hSw
        (try dsimp only at hSw)
        go_simp
        (try with_reducible rfl)
      (try simp only [Act.put, List.setIfInBounds_toArray, List.set_cons_zero, List.set_cons_succ])
      refine wpAnyZ_take (i := 9) (oi := ⟨_, _, _, _, _, _⟩) (v := ?_) rfl (by kernel_rfl) (by kernel_rfl) (by kernel_rfl) (by kernel_rfl) (by kernel_rfl) (fun _ _ _ h => h) (Or.inl ⟨by rfl, ?_⟩) (by assumption) ?_
      rotate_left
      · intro W hSw
        (try dsimp only at hSw)
        go_simp
        (try with_reducible rfl)
      (try simp only [Act.put, List.setIfInBounds_toArray, List.set_cons_zero, List.set_cons_succ])
      refine wpAnyZ_take (i := 10) (oi := ⟨_, _, _, _, _, _⟩) (v := ?_) rfl (by kernel_rfl) (by kernel_rfl) (by kernel_rfl) (by kernel_rfl) (by kernel_rfl) (fun _ _ _ h => h) (Or.inl ⟨by rfl, ?_⟩) (by assumption) ?_
      rotate_left
      · intro W hSw
        (try dsimp only at hSw)
        go_simp
        (try with_reducible rfl)
      (try simp only [Act.put, List.setIfInBounds_toArray, List.set_cons_zero, List.set_cons_succ])
      refine wpAnyZ_ready (rs := [8]) (by kernel_rfl) (by simp) ?_
      refine AllReadyZ.cons (o := ⟨_, _, _, _, _, _⟩) rfl (fun C hC => ?_) AllReadyZ.nil
      go_simp
      refine (elemK_any _ kad klen kcap ks HKU.out i (by omega)).mono ?_
      rintro e u1 ⟨rfl, rfl⟩
      have hHeld : (fun (W : World) => W.cell? ⟨kf, 0, none⟩ = some (.map (some km)) ∧ (Instr.lookup 56 (.map (some km)) (.string s) false).run Tryd.prog W = .ok (.pointer (some ⟨mk, 0, none⟩)) W) u0 := hHeld
      refine hC.out _ _ (fun _ => hHeld) (fun _ => ?_)
      clear hC C
      (try simp only [Act.put, List.setIfInBounds_toArray, List.set_cons_zero, List.set_cons_succ])
      refine wpAnyZ_ready (rs := [11]) (by kernel_rfl) (by simp) ?_
      refine AllReadyZ.cons (o := ⟨_, _, _, _, _, _⟩) rfl (fun C hC => ?_) AllReadyZ.nil
      go_simp
      refine (elemB_any _ gad glen gcap gs HGU.out i (by omega)).mono ?_
      rintro e u1 ⟨rfl, rfl⟩
      have hHeld : (fun (W : World) => W.cell? ⟨kf, 0, none⟩ = some (.map (some km)) ∧ (Instr.lookup 56 (.map (some km)) (.string s) false).run Tryd.prog W = .ok (.pointer (some ⟨mk, 0, none⟩)) W) u0 := hHeld
      refine hC.out _ _ (fun _ => hHeld) (fun _ => ?_)
      clear hC C
      (try simp only [Act.put, List.setIfInBounds_toArray, List.set_cons_zero, List.set_cons_succ])
      refine wpAnyZ_ready (rs := [12]) (by kernel_rfl) (by simp) ?_
      refine AllReadyZ.cons (o := ⟨_, _, _, _, _, _⟩) rfl (fun C hC => ?_) AllReadyZ.nil
      go_simp
      rw [HMK.out]
      refine (ccrash_any _ kf km left done msi HCU.out i m HM.out (ks[i]?.getD 0) (HKI.out i).1 (HKI.out i).2 (gs[i]?.getD 0) (HGA.out i) hbl).mono ?_
      rintro e u1 ⟨rfl, hok1, hk1⟩
      have HU : Hid (CfOk u1 kf km left done (msi.set i ⟨crashOne m.f (ks[i]?.getD 0) (some (gs[i]?.getD 0)), m.k, m.ad, m.cap⟩) ∧ Kept wo u1 (OneFoot m)) := ⟨hok1, ((Kept.of_below HB0.out).trans hk1 fun j hj => .inl hj)⟩
      have HFT : Hid (∀ j, Foot kf km (msi.set i ⟨crashOne m.f (ks[i]?.getD 0) (some (gs[i]?.getD 0)), m.k, m.ad, m.cap⟩) j → Foot kf km ms j) := fun j hj => HCA.out.foot j (foot_set (m' := ⟨crashOne m.f (ks[i]?.getD 0) (some (gs[i]?.getD 0)), m.k, m.ad, m.cap⟩) HM.out rfl (by show (Value.slice m.ad _ _).ownBlock = (Value.slice m.ad _ _).ownBlock; cases m.ad <;> rfl) hj)
      have hlk1 : (Instr.lookup 56 (.map (some km)) (.string s) false).run Tryd.prog u1 = .ok (.pointer (some ⟨mk, 0, none⟩)) u1 := by
        rw [HNM.out, HMK.out]
        exact hok1.look1 (m := ⟨crashOne m.f (ks[i]?.getD 0) (some (gs[i]?.getD 0)), m.k, m.ad, m.cap⟩) (List.mem_of_getElem? (by rw [List.getElem?_set, if_pos rfl, if_pos (List.getElem?_eq_some_iff.1 HM.out).1]))
      have hHeld : (fun (W : World) => W.cell? ⟨kf, 0, none⟩ = some (.map (some km)) ∧ (Instr.lookup 56 (.map (some km)) (.string s) false).run Tryd.prog W = .ok (.pointer (some ⟨mk, 0, none⟩)) W) u1 := ⟨hok1.box.c0, hlk1⟩
      refine hC.out _ _ (fun _ => hHeld) (fun _ => ?_)
      clear hC C
      (try simp only [Act.put, List.setIfInBounds_toArray, List.set_cons_zero, List.set_cons_succ])
      clear hok1 hk1 hlk1
      refine wpAnyZ_done (by kernel_rfl) ?_ _
      refine NoPanic.normal ?_
      go_wp2
      go_roundw
      case rel => exact ⟨i + 1, msi.set i ⟨crashOne m.f (ks[i]?.getD 0) (some (gs[i]?.getD 0)), m.k, m.ad, m.cap⟩, by go_num, by omega, ⟨HU.out.1, by
        rw [cls_set, HCA.out.cl]
        show (crashTo (cls ms) ks gs i).set i (crashOne m.f (ks[i]?.getD 0) (some (gs[i]?.getD 0))) = _
        rw [crash_zero]
        exact crashTo_step HFI.out, HCA.out.kept.trans HU.out.2 (fun j hj => .inl (HCA.out.foot j (.inr (.inr ⟨m, HMM.out, hj⟩)))), HFT.out⟩⟩
      case measure => simp [intOf]; omega
    · have hd : decide (i < N) = false := decide_eq_false (by omega)
      have c2 := HCA.out.ok.box.c2
      have f2 := HCA.out.ok.box.free 2
      go_wp2
      go_end0
      have hgz : wo.grownBy (wo.setCell ⟨kf, 2, none⟩ (.int .i64 (-1))) (some kf) := grow_one wo kf 2 _
      refine ⟨rfl, msi, HCA.out.ok.turned hgz (HCA.out.ok.box.s2 (-1)), ?_, ?_, HCA.out.foot⟩
      · rw [HCA.out.cl]
        exact crashTo_end _ _ _ _ (by unfold cls; rw [List.length_map]; have := HN.out; omega)
      · exact ((Kept.of_below HB1.out).trans HCA.out.kept fun j hj => .inl hj).trans (Kept.of_grown (F := Foot kf km ms) hgz (.inl (.inl rfl))) fun j hj => .inl hj
end Go.Proofs.YtjocfkkcnkpjdaaDoor
