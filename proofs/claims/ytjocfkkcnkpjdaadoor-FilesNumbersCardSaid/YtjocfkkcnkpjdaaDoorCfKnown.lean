/- Chapter 7's files as the code has them: Crash. Chapter 7's files as the code has them: one file system, seen from where it is called. Chapter 7's runs. -/
import Derived.Test.YtjocfkkcnkpjdaaDoorCfList
import Derived.Test.YtjocfkkcnkpjdaaDoorCfCrash
import Derived.Test.YtjocfkkcnkpjdaaDoorFsCrash
import Derived.Lib.SlBytesConst
/-! Chapter 7's files as the code has them: Crash. -/
namespace Go.Proofs.YtjocfkkcnkpjdaaDoor
open Go.RowKit
open Go.RuneMath
open Go.FsMath
set_option linter.unusedVariables false

set_option maxRecDepth 100000 in
theorem elemK_any (w : World) (ad : Option Addr) (len cap : Nat) (ks : List Int) (h : RowAt keepK w ad len cap ks) (i : Nat) (hi : i ≤ 1000000) :
    Calls Tryd.prog 42 #[.slice ad len cap, .int .i64 (i : Int)] w fun e w' => e = .returned (.int .i64 (ks[i]?.getD 0)) ∧ w = w' := by
  by_cases hlt : i < len
  · have hd : decide (len ≤ i) = false := decide_eq_false (by omega)
    obtain ⟨b, off, k, rfl, hb, hk, hc⟩ := long_get h hlt
    have HK : Hid (ks[i]?.getD 0 = k) := by show _ = _; rw [hk]; rfl
    have hij : (i : Int) < (len : Int) := by omega
    clear h hk
    go_enter Tryd.func42, Tryd.ntmps42
    go_wp2
    go_ret
    exact ⟨by rw [HK.out]; rfl, rfl⟩
  · have hd : decide (len ≤ i) = true := decide_eq_true (by omega)
    have HK : Hid (ks[i]?.getD 0 = 0) := by
      show _ = _
      rw [List.getElem?_eq_none (by have := h.length; omega)]
      rfl
    clear h
    go_enter Tryd.func42, Tryd.ntmps42
    go_wp2
    go_ret
    exact ⟨by rw [HK.out]; rfl, rfl⟩
set_option maxRecDepth 100000 in
theorem elemB_any (w : World) (ad : Option Addr) (len cap : Nat) (gs : List Nat) (h : RowAt byteK w ad len cap gs) (i : Nat) (hi : i ≤ 1000000) :
    Calls Tryd.prog 43 #[.slice ad len cap, .int .i64 (i : Int)] w fun e w' => e = .returned (.int .u8 ((gs[i]?.getD 0 : Nat) : Int)) ∧ w = w' := by
  by_cases hlt : i < len
  · have hd : decide (len ≤ i) = false := decide_eq_false (by omega)
    obtain ⟨b, off, k, rfl, hb, hk, hc⟩ := byte_get h hlt
    have HK : Hid (gs[i]?.getD 0 = k) := by show _ = _; rw [hk]; rfl
    have hij : (i : Int) < (len : Int) := by omega
    clear h hk
    go_enter Tryd.func43, Tryd.ntmps43
    go_wp2
    go_ret
    exact ⟨by rw [HK.out]; rfl, rfl⟩
  · have hd : decide (len ≤ i) = true := decide_eq_true (by omega)
    have HK : Hid (gs[i]?.getD 0 = 0) := by
      show _ = _
      rw [List.getElem?_eq_none (by have := h.length; omega)]
      rfl
    clear h
    go_enter Tryd.func43, Tryd.ntmps43
    go_wp2
    go_ret
    exact ⟨by rw [HK.out]; rfl, rfl⟩
theorem crash_zero (f : Fl) (k : Int) (g : Option Nat) : crashOne f k (some (g.getD 0)) = crashOne f k g := by
  cases g with
  | some g => rfl
  | none =>
    have e : ∀ (b : List Nat) (s : Nat), xorAt b s 0 = b := fun b s => by
      refine List.ext_getElem? fun t => ?_
      unfold xorAt
      rw [List.getElem?_mapIdx]
      cases b[t]? with
      | none => rfl
      | some x =>
        show some (if s ≤ t then x ^^^ 0 else x) = some x
        rw [Nat.xor_zero]
        split <;> rfl
    show crashOne f k (some 0) = _
    unfold crashOne
    simp only
    rw [e]
/-- In a crash, behind the first files. -/
structure CrAt (w wr : World) (kf km : Nat) (left done : Int) (ms : List CM) (ks : List Int) (gs : List Nat) (i : Nat) (msi : List CM) : Prop where
  ok : CfOk wr kf km left done msi
  cl : cls msi = crashTo (cls ms) ks gs i
  kept : Kept w wr (Foot kf km ms)
  foot : ∀ j, Foot kf km msi j → Foot kf km ms j
theorem CrAt.len {w wr : World} {kf km : Nat} {left done : Int} {ms : List CM} {ks : List Int} {gs : List Nat} {i : Nat} {msi : List CM} (h : CrAt w wr kf km left done ms ks gs i msi) : msi.length = ms.length := by
  have h1 := congrArg List.length h.cl
  rw [crashTo_len] at h1
  unfold cls at h1
  rw [List.length_map, List.length_map] at h1
  exact h1
set_option maxRecDepth 100000 in
set_option maxHeartbeats 8000000 in
theorem cCrash_any (w : World) (kf km : Nat) (left done : Int) (ms : List CM) (h : CfOk w kf km left done ms) (hL : ms.length ≤ 10000) (hT : Tabs w) (h2 : 2 ≤ w.heap.size) (hB : ∀ m ∈ ms, m.f.b.length ≤ 140737488355328)
    (kad : Option Addr) (klen kcap : Nat) (ks : List Int) (hk : RowAt keepK w kad klen kcap ks) (hkb : ∀ a, kad = some a → 0 < klen → ¬ Foot kf km ms a.block) (hki : ∀ k ∈ ks, -9223372036854775808 ≤ k ∧ k ≤ 9223372036854775807)
    (gad : Option Addr) (glen gcap : Nat) (gs : List Nat) (hg : RowAt byteK w gad glen gcap gs) (hgb : ∀ a, gad = some a → 0 < glen → ¬ Foot kf km ms a.block) (hga : AllB gs) :
    Calls Tryd.prog 16 #[.pointer (some ⟨kf, 0, none⟩), .slice kad klen kcap, .slice gad glen gcap] w fun e w' => e = .returned (.tuple #[]) ∧ ∃ ms', CfOk w' kf km (-1) done ms' ∧ cls ms' = crashF (cls ms) ks gs ∧ Kept w w' (Foot kf km ms) ∧ ∀ j, Foot kf km ms' j → Foot kf km ms j := by
  have hki0 : ∀ i : Nat, -9223372036854775808 ≤ ks[i]?.getD 0 ∧ ks[i]?.getD 0 ≤ 9223372036854775807 := fun i => by
    cases hx : ks[i]? with
    | none => show -9223372036854775808 ≤ (0 : Int) ∧ (0 : Int) ≤ 9223372036854775807; omega
    | some k => exact hki k (List.mem_of_getElem? hx)
  have hga0 : ∀ i : Nat, gs[i]?.getD 0 < 256 := fun i => by
    cases hx : gs[i]? with
    | none => show (0 : Nat) < 256; omega
    | some k => exact hga k (List.mem_of_getElem? hx)
  have H := Lib.hid h
  have HL := Lib.hid hL
  have HT := Lib.hid hT
  have HB := Lib.hid hB
  have HKS := Lib.hid hk
  have HKB := Lib.hid hkb
  have HGS := Lib.hid hg
  have HGB := Lib.hid hgb
  have HKI := Lib.hid hki0
  have HGA := Lib.hid hga0
  clear h hk hkb hki hg hgb hga hki0 hga0 hB hT
  go_enter Tryd.func16, Tryd.ntmps16
  go_wp2_with fail
  refine (cList_any w kf km left done ms H.out HL.out HT.out h2).mono ?_
  rintro e w1 ⟨hb1, ad, cap, rfl, ho1⟩
  obtain ⟨N, hN⟩ : ∃ n, ((cls ms).map (·.name)).length = n := ⟨_, rfl⟩
  rw [hN] at ho1
  rw [hN]
  obtain ⟨nad, ncap, hv1, hr1, hat1⟩ := OwnRow.row2 strK_ok ho1 hN
  obtain ⟨rfl, rfl⟩ : ad = nad ∧ cap = ncap := by
    simp only [Value.slice.injEq] at hv1
    exact ⟨hv1.1, hv1.2.2⟩
  have hNm : ms.length = N := by
    rw [← hN]
    unfold cls
    rw [List.length_map, List.length_map]
  have hfr : ∀ a, ad = some a → ¬ Foot kf km ms a.block := fun a ha hF => by
    have h1 := H.out.lt hF
    have h3 := ho1.lt a.block (by rw [ha]; rfl)
    omega
  have HN := Lib.hid hNm
  have H1 := Lib.hid (H.out.on hb1)
  have HNR := Lib.hid hr1
  have HFR := Lib.hid hfr
  have HKS1 := Lib.hid (HKS.out.keep hb1)
  have HGS1 := Lib.hid (HGS.out.keep hb1)
  have HB1 := Lib.hid hb1
  have hN6 : N ≤ 10000 := by rw [← hNm]; exact HL.out
  clear hb1 ho1 hN hr1 hat1 hv1 hNm hfr HKS HGS HT
  go_wp2_with fail
  go_loopw [11] (fun v11 wr => ∃ (i : Nat) (msi : List CM), v11 = .int .i64 (i : Int) ∧ i ≤ N ∧ Hid (CrAt w1 wr kf km left done ms ks gs i msi)) (fun v11 _ => N - (intOf v11).toNat)
  case atStart => exact ⟨0, ms, rfl, Nat.zero_le _, ⟨H1.out, (crashTo_start _ _ _).symm, Kept.refl _ _, fun j hj => hj⟩⟩
  case round =>
    obtain ⟨i, msi, rfl, hi, HCA⟩ := hrel
    obtain ⟨wo, hwo⟩ : ∃ wo : World, wo = wr := ⟨_, rfl⟩
    subst hwo
    by_cases hlt : i < N
    · have hd : decide (i < N) = true := decide_eq_true (by omega)
      have hij : (i : Int) < (N : Int) := by omega
      obtain ⟨m, hm⟩ : ∃ m, msi[i]? = some m := ⟨_, List.getElem?_eq_getElem (by rw [HCA.out.len, HN.out]; exact hlt)⟩
      have hmm := List.mem_of_getElem? hm
      obtain ⟨b, off, s, hads, hbs, hls, hcs⟩ := str_get (HCA.out.kept.row HNR.out HFR.out) hlt
      have hnm : s = m.f.name := by
        have h1 : ((cls msi).map (·.name))[i]? = ((cls ms).map (·.name))[i]? := by
          rw [HCA.out.cl]
          rw [List.getElem?_map, List.getElem?_map, crashTo_get]
          cases (cls ms)[i]? with
          | none => rfl
          | some f =>
            show some _ = some _
            congr 1
            show (if i < i then _ else f).name = _
            rw [if_neg (Nat.lt_irrefl i)]
        rw [hls, List.getElem?_map, cls_at hm] at h1
        exact (Option.some.inj h1).symm
      have hfi : (cls ms)[i]? = some m.f := crashTo_at (by rw [← HCA.out.cl]; exact cls_at hm)
      have hbl : m.f.b.length ≤ 140737488355328 := by
        unfold cls at hfi
        rw [List.getElem?_map] at hfi
        cases hx : ms[i]? with
        | none => rw [hx] at hfi; cases hfi
        | some y =>
          rw [hx] at hfi
          rw [← Option.some.inj hfi]
          exact HB.out y (List.mem_of_getElem? hx)
      obtain ⟨mk, hmk⟩ : ∃ k, k = m.k := ⟨_, rfl⟩
      have KS : Hid (∀ W, Below wo.heap.size wo W → (fun (W : World) => W.cell? ⟨kf, 0, none⟩ = some (.map (some km)) ∧ (Instr.lookup 56 (.map (some km)) (.string s) false).run Tryd.prog W = .ok (.pointer (some ⟨mk, 0, none⟩)) W) W) := fun W hW => by
        have h1 := HCA.out.ok.on hW
        refine ⟨h1.box.c0, ?_⟩
        rw [hnm, hmk]
        exact h1.look1 hmm
      have HM := Lib.hid hm
      have HMM := Lib.hid hmm
      have HFI := Lib.hid hfi
      have HNM := Lib.hid hnm
      have HMK := Lib.hid hmk
      have hdrw : Below wo.heap.size wo wo.drew := (Below.refl _ wo).drew
      subst hads
      clear hm hmm hls hnm hfi hmk hbs
      go_upto_region 3 with fail
      refine wp_region_noPanic ?_
      refine wp_region_z [] (fun (W : World) => W.cell? ⟨kf, 0, none⟩ = some (.map (some km)) ∧ (Instr.lookup 56 (.map (some km)) (.string s) false).run Tryd.prog W = .ok (.pointer (some ⟨mk, 0, none⟩)) W) (by kernel_rfl) ?_
      have hHeld : (fun (W : World) => W.cell? ⟨kf, 0, none⟩ = some (.map (some km)) ∧ (Instr.lookup 56 (.map (some km)) (.string s) false).run Tryd.prog W = .ok (.pointer (some ⟨mk, 0, none⟩)) W) _ := KS.out _ hdrw
      obtain ⟨u0, hu0⟩ : ∃ u, u = wo.drew := ⟨_, rfl⟩
      rw [← hu0] at hHeld hdrw
      rw [← hu0]
      clear hu0
      have HB0 := Lib.hid hdrw
      have HCU : Hid (CfOk u0 kf km left done msi) := HCA.out.ok.on hdrw
      have hKu : Kept w1 u0 (Foot kf km ms) := HCA.out.kept.trans (Kept.of_below hdrw) fun j hj => .inl hj
      have HKU := Lib.hid (hKu.row0 HKS1.out HKB.out)
      have HGU := Lib.hid (hKu.row0 HGS1.out HGB.out)
      clear hdrw hKu
      refine wpAnyZ_take (i := 0) (oi := ⟨_, _, _, _, _, _⟩) (v := ?_) rfl (by kernel_rfl) (by kernel_rfl) (by kernel_rfl) (by kernel_rfl) (by kernel_rfl) (fun _ _ _ h => h) (Or.inl ⟨by rfl, ?_⟩) (by assumption) ?_
      rotate_left
      · intro W hSw
        (try dsimp only at hSw)
        go_simp
        (try with_reducible rfl)
      (try simp only [Act.put, List.setIfInBounds_toArray, List.set_cons_zero, List.set_cons_succ])
      refine wpAnyZ_take (i := 1) (oi := ⟨_, _, _, _, _, _⟩) (v := ?_) rfl (by kernel_rfl) (by kernel_rfl) (by kernel_rfl) (by kernel_rfl) (by kernel_rfl) (fun _ _ _ h => h) (Or.inl ⟨by rfl, ?_⟩) (by assumption) ?_
      rotate_left
      · intro W hSw
        (try dsimp only at hSw)
        go_simp
        (try with_reducible rfl)
      (try simp only [Act.put, List.setIfInBounds_toArray, List.set_cons_zero, List.set_cons_succ])
      refine wpAnyZ_take (i := 2) (oi := ⟨_, _, _, _, _, _⟩) (v := ?_) rfl (by kernel_rfl) (by kernel_rfl) (by kernel_rfl) (by kernel_rfl) (by kernel_rfl) (fun _ _ _ h => h) (Or.inl ⟨by rfl, ?_⟩) (by assumption) ?_
      rotate_left
      · intro W hSw
        (try dsimp only at hSw)
        go_simp
        (try with_reducible rfl)
      (try simp only [Act.put, List.setIfInBounds_toArray, List.set_cons_zero, List.set_cons_succ])
      refine wpAnyZ_take (i := 3) (oi := ⟨_, _, _, _, _, _⟩) (v := ?_) rfl (by kernel_rfl) (by kernel_rfl) (by kernel_rfl) (by kernel_rfl) (by kernel_rfl) (fun _ _ _ h => h) (Or.inl ⟨by rfl, ?_⟩) (by assumption) ?_
      rotate_left
      · intro W hSw
        (try dsimp only at hSw)
        go_simp
        (try with_reducible rfl)
      (try simp only [Act.put, List.setIfInBounds_toArray, List.set_cons_zero, List.set_cons_succ])
      refine wpAnyZ_take (i := 4) (oi := ⟨_, _, _, _, _, _⟩) (v := ?_) rfl (by kernel_rfl) (by kernel_rfl) (by kernel_rfl) (by kernel_rfl) (by kernel_rfl) (fun _ _ _ h => h) (Or.inl ⟨by rfl, ?_⟩) (by assumption) ?_
      rotate_left
      · intro W hSw
        (try dsimp only at hSw)
        go_simp
        (try with_reducible rfl)
      (try simp only [Act.put, List.setIfInBounds_toArray, List.set_cons_zero, List.set_cons_succ])
      refine wpAnyZ_take (i := 5) (oi := ⟨_, _, _, _, _, _⟩) (v := ?_) rfl (by kernel_rfl) (by kernel_rfl) (by kernel_rfl) (by kernel_rfl) (by kernel_rfl) (fun _ _ _ h => h) (Or.inl ⟨by rfl, ?_⟩) (by assumption) ?_
      rotate_left
      · intro W hSw
        (try dsimp only at hSw)
        go_simp
        (try with_reducible rfl)
      (try simp only [Act.put, List.setIfInBounds_toArray, List.set_cons_zero, List.set_cons_succ])
      refine wpAnyZ_take (i := 6) (oi := ⟨_, _, _, _, _, _⟩) (v := ?_) rfl (by kernel_rfl) (by kernel_rfl) (by kernel_rfl) (by kernel_rfl) (by kernel_rfl) (fun _ _ _ h => h) (Or.inl ⟨by rfl, ?_⟩) (by assumption) ?_
      rotate_left
      · intro W hSw
        (try dsimp only at hSw)
        go_simp
        (try with_reducible rfl)
      (try simp only [Act.put, List.setIfInBounds_toArray, List.set_cons_zero, List.set_cons_succ])
      refine wpAnyZ_take (i := 7) (oi := ⟨_, _, _, _, _, _⟩) (v := ?_) rfl (by kernel_rfl) (by kernel_rfl) (by kernel_rfl) (by kernel_rfl) (by kernel_rfl) (fun _ _ _ h => h) (Or.inl ⟨by rfl, ?_⟩) (by assumption) ?_
      rotate_left
      · intro W hSw
        (try dsimp only at hSw)
        go_simp
        (try with_reducible rfl)
      (try simp only [Act.put, List.setIfInBounds_toArray, List.set_cons_zero, List.set_cons_succ])
      refine wpAnyZ_take (i := 9) (oi := ⟨_, _, _, _, _, _⟩) (v := ?_) rfl (by kernel_rfl) (by kernel_rfl) (by kernel_rfl) (by kernel_rfl) (by kernel_rfl) (fun _ _ _ h => h) (Or.inl ⟨by rfl, ?_⟩) (by assumption) ?_
      rotate_left
      · intro W hSw
        (try dsimp only at hSw)
        go_simp
        (try with_reducible rfl)
      (try simp only [Act.put, List.setIfInBounds_toArray, List.set_cons_zero, List.set_cons_succ])
      refine wpAnyZ_take (i := 10) (oi := ⟨_, _, _, _, _, _⟩) (v := ?_) rfl (by kernel_rfl) (by kernel_rfl) (by kernel_rfl) (by kernel_rfl) (by kernel_rfl) (fun _ _ _ h => h) (Or.inl ⟨by rfl, ?_⟩) (by assumption) ?_
      rotate_left
      · intro W hSw
        (try dsimp only at hSw)
        go_simp
        (try with_reducible rfl)
      (try simp only [Act.put, List.setIfInBounds_toArray, List.set_cons_zero, List.set_cons_succ])
      refine wpAnyZ_ready (rs := [8]) (by kernel_rfl) (by simp) ?_
      refine AllReadyZ.cons (o := ⟨_, _, _, _, _, _⟩) rfl (fun C hC => ?_) AllReadyZ.nil
      go_simp
      refine (elemK_any _ kad klen kcap ks HKU.out i (by omega)).mono ?_
      rintro e u1 ⟨rfl, rfl⟩
      have hHeld : (fun (W : World) => W.cell? ⟨kf, 0, none⟩ = some (.map (some km)) ∧ (Instr.lookup 56 (.map (some km)) (.string s) false).run Tryd.prog W = .ok (.pointer (some ⟨mk, 0, none⟩)) W) u0 := hHeld
      refine hC.out _ _ (fun _ => hHeld) (fun _ => ?_)
      clear hC C
      (try simp only [Act.put, List.setIfInBounds_toArray, List.set_cons_zero, List.set_cons_succ])
      refine wpAnyZ_ready (rs := [11]) (by kernel_rfl) (by simp) ?_
      refine AllReadyZ.cons (o := ⟨_, _, _, _, _, _⟩) rfl (fun C hC => ?_) AllReadyZ.nil
      go_simp
      refine (elemB_any _ gad glen gcap gs HGU.out i (by omega)).mono ?_
      rintro e u1 ⟨rfl, rfl⟩
      have hHeld : (fun (W : World) => W.cell? ⟨kf, 0, none⟩ = some (.map (some km)) ∧ (Instr.lookup 56 (.map (some km)) (.string s) false).run Tryd.prog W = .ok (.pointer (some ⟨mk, 0, none⟩)) W) u0 := hHeld
      refine hC.out _ _ (fun _ => hHeld) (fun _ => ?_)
      clear hC C
      (try simp only [Act.put, List.setIfInBounds_toArray, List.set_cons_zero, List.set_cons_succ])
      refine wpAnyZ_ready (rs := [12]) (by kernel_rfl) (by simp) ?_
      refine AllReadyZ.cons (o := ⟨_, _, _, _, _, _⟩) rfl (fun C hC => ?_) AllReadyZ.nil
      go_simp
      rw [HMK.out]
      refine (ccrash_any _ kf km left done msi HCU.out i m HM.out (ks[i]?.getD 0) (HKI.out i).1 (HKI.out i).2 (gs[i]?.getD 0) (HGA.out i) hbl).mono ?_
      rintro e u1 ⟨rfl, hok1, hk1⟩
      have HU : Hid (CfOk u1 kf km left done (msi.set i ⟨crashOne m.f (ks[i]?.getD 0) (some (gs[i]?.getD 0)), m.k, m.ad, m.cap⟩) ∧ Kept wo u1 (OneFoot m)) := ⟨hok1, ((Kept.of_below HB0.out).trans hk1 fun j hj => .inl hj)⟩
      have HFT : Hid (∀ j, Foot kf km (msi.set i ⟨crashOne m.f (ks[i]?.getD 0) (some (gs[i]?.getD 0)), m.k, m.ad, m.cap⟩) j → Foot kf km ms j) := fun j hj => HCA.out.foot j (foot_set (m' := ⟨crashOne m.f (ks[i]?.getD 0) (some (gs[i]?.getD 0)), m.k, m.ad, m.cap⟩) HM.out rfl (by show (Value.slice m.ad _ _).ownBlock = (Value.slice m.ad _ _).ownBlock; cases m.ad <;> rfl) hj)
      have hlk1 : (Instr.lookup 56 (.map (some km)) (.string s) false).run Tryd.prog u1 = .ok (.pointer (some ⟨mk, 0, none⟩)) u1 := by
        rw [HNM.out, HMK.out]
        exact hok1.look1 (m := ⟨crashOne m.f (ks[i]?.getD 0) (some (gs[i]?.getD 0)), m.k, m.ad, m.cap⟩) (List.mem_of_getElem? (by rw [List.getElem?_set, if_pos rfl, if_pos (List.getElem?_eq_some_iff.1 HM.out).1]))
      have hHeld : (fun (W : World) => W.cell? ⟨kf, 0, none⟩ = some (.map (some km)) ∧ (Instr.lookup 56 (.map (some km)) (.string s) false).run Tryd.prog W = .ok (.pointer (some ⟨mk, 0, none⟩)) W) u1 := ⟨hok1.box.c0, hlk1⟩
      refine hC.out _ _ (fun _ => hHeld) (fun _ => ?_)
      clear hC C
      (try simp only [Act.put, List.setIfInBounds_toArray, List.set_cons_zero, List.set_cons_succ])
      clear hok1 hk1 hlk1
      refine wpAnyZ_done (by kernel_rfl) ?_ _
      refine NoPanic.normal ?_
      go_wp2
      go_roundw
      case rel => exact ⟨i + 1, msi.set i ⟨crashOne m.f (ks[i]?.getD 0) (some (gs[i]?.getD 0)), m.k, m.ad, m.cap⟩, by go_num, by omega, ⟨HU.out.1, by
        rw [cls_set, HCA.out.cl]
        show (crashTo (cls ms) ks gs i).set i (crashOne m.f (ks[i]?.getD 0) (some (gs[i]?.getD 0))) = _
        rw [crash_zero]
        exact crashTo_step HFI.out, HCA.out.kept.trans HU.out.2 (fun j hj => .inl (HCA.out.foot j (.inr (.inr ⟨m, HMM.out, hj⟩)))), HFT.out⟩⟩
      case measure => simp [intOf]; omega
    · have hd : decide (i < N) = false := decide_eq_false (by omega)
      have c2 := HCA.out.ok.box.c2
      have f2 := HCA.out.ok.box.free 2
      go_wp2
      go_end0
      have hgz : wo.grownBy (wo.setCell ⟨kf, 2, none⟩ (.int .i64 (-1))) (some kf) := grow_one wo kf 2 _
      refine ⟨rfl, msi, HCA.out.ok.turned hgz (HCA.out.ok.box.s2 (-1)), ?_, ?_, HCA.out.foot⟩
      · rw [HCA.out.cl]
        exact crashTo_end _ _ _ _ (by unfold cls; rw [List.length_map]; have := HN.out; omega)
      · exact ((Kept.of_below HB1.out).trans HCA.out.kept fun j hj => .inl hj).trans (Kept.of_grown (F := Foot kf km ms) hgz (.inl (.inl rfl))) fun j hj => .inl hj
end Go.Proofs.YtjocfkkcnkpjdaaDoor

/-! Chapter 7's files as the code has them: one file system, seen from where it is called. -/
namespace Go.Proofs.YtjocfkkcnkpjdaaDoor
open Go.RowKit
open Go.RuneMath
open Go.FsMath
set_option linter.unusedVariables false

/-- A file system that was made behind W, and leaves the blocks X as they are in w1. -/
structure One (W : World) (X : Nat → Prop) (w1 w : World) (kf : Nat) (s : Fs) : Prop where
  below : Below W.heap.size W w
  size : w1.heap.size ≤ w.heap.size
  same : ∀ j, X j → j < w1.heap.size ∧ w.heap[j]? = w1.heap[j]?
  ex : ∃ km ms, CfOk w kf km s.left s.done ms ∧ cls ms = s.l ∧ ∀ j, Foot kf km ms j → W.heap.size ≤ j ∧ ¬ X j
section
variable {W w1 w w' : World} {X : Nat → Prop} {kf : Nat} {s : Fs}
theorem One.on (h : One W X w1 w kf s) (hb : Below w.heap.size w w') : One W X w1 w' kf s := by
  obtain ⟨km, ms, hok, hcl, hf⟩ := h.ex
  exact ⟨h.below.trans (hb.mono h.below.size), Nat.le_trans h.size hb.size, fun j hj => ⟨(h.same j hj).1, (hb.block j (Nat.lt_of_lt_of_le (h.same j hj).1 h.size)).trans (h.same j hj).2⟩, km, ms, hok.on hb, hcl, hf⟩
theorem One.held (h : One W X w1 w kf s) (hb : Below w.heap.size w w') : ∃ Y, One W Y w' w' kf s ∧ (∀ j, X j → Y j) ∧ ∀ j, w.heap.size ≤ j → j < w'.heap.size → Y j := by
  obtain ⟨km, ms, hok, hcl, hf⟩ := h.ex
  refine ⟨fun j => j < w'.heap.size ∧ ¬ Foot kf km ms j, ⟨h.below.trans (hb.mono h.below.size), Nat.le_refl _, fun j hj => ⟨hj.1, rfl⟩, km, ms, hok.on hb, hcl, fun j hj => ⟨(hf j hj).1, fun h2 => h2.2 hj⟩⟩, fun j hj => ⟨Nat.lt_of_lt_of_le (h.same j hj).1 (Nat.le_trans h.size hb.size), fun h2 => (hf j h2).2 hj⟩, fun j h1 h2 => ⟨h2, fun h3 => ?_⟩⟩
  have := hok.lt h3
  omega
theorem One.row {α : Type} {K : Kind α} {ad : Option Addr} {len cap : Nat} {l : List α} (h : One W X w1 w kf s) (hr : RowAt K w1 ad len cap l) (ha : ∀ a, ad = some a → X a.block) : RowAt K w ad len cap l := by
  have hk : Kept w1 { w1 with heap := w.heap } (fun j => ¬ X j) := ⟨rfl, rfl, rfl, h.size, fun j _ hj => (h.same j (Classical.byContradiction hj)).2⟩
  have h1 := hk.row hr fun a e hn => hn (ha a e)
  obtain ⟨h2, h3, h4, h5⟩ := h1
  refine ⟨h2, h3, h4, ?_⟩
  rcases h5 with h5 | h5
  · exact .inl h5
  · exact .inr h5
theorem One.gave (h : One W X w1 w kf s) {km : Nat} {ms ms' : List CM} {s' : Fs} (hf : ∀ j, Foot kf km ms j → W.heap.size ≤ j ∧ ¬ X j) (h1 : CfOk w' kf km s'.left s'.done ms') (h2 : cls ms' = s'.l) (hk : Kept w w' (Foot kf km ms)) (hn : ∀ j, Foot kf km ms' j → Foot kf km ms j ∨ w.heap.size ≤ j) : One W X w1 w' kf s' := by
  refine ⟨h.below.trans (hk.below (fun j hj => (hf j hj).1) h.below.size), Nat.le_trans h.size hk.size, fun j hj => ⟨(h.same j hj).1, (hk.block j (Nat.lt_of_lt_of_le (h.same j hj).1 h.size) fun e => (hf j e).2 hj).trans (h.same j hj).2⟩, km, ms', h1, h2, fun j hj => ?_⟩
  rcases hn j hj with h3 | h3
  · exact hf j h3
  · exact ⟨Nat.le_trans h.below.size h3, fun hx => by have := (h.same j hx).1; have := h.size; omega⟩
end
section
variable {W w1 w w' : World} {X : Nat → Prop} {kf : Nat} {s : Fs}
/-- A call is done. -/
def Did (W : World) (X : Nat → Prop) (w1 : World) (kf : Nat) (r : Int × Fs) (e : Ending) (w' : World) : Prop := e = .returned (.int .i64 r.1) ∧ Hid (One W X w1 w' kf r.2)
theorem one_did (h : One W X w1 w kf s) {km : Nat} {ms : List CM} (hf : ∀ j, Foot kf km ms j → W.heap.size ≤ j ∧ ¬ X j) {r : Int × Fs} {e : Ending} (hg : GivesCf w kf km ms r e w') : Did W X w1 kf r e w' := by
  obtain ⟨he, ms', h1, h2, h3, h4⟩ := hg
  exact ⟨he, h.gave hf h1 h2 h3 h4⟩
theorem oneNew (w : World) (hb : Below W.heap.size W w) : Calls Tryd.prog 10 #[] w fun e w' => ∃ k, e = .returned (.pointer (some ⟨k, 0, none⟩)) ∧ Hid (One W (fun j => j < w.heap.size) w w' k ⟨[], -1, 0⟩) := by
  refine (cNew_any w).mono ?_
  rintro e w' ⟨k, rfl, km, h1, h2, hok, hb2⟩
  refine ⟨k, rfl, hb.trans (hb2.mono hb.size), hb2.size, fun j hj => ⟨hj, hb2.block j hj⟩, km, [], hok, rfl, fun j hj => ?_⟩
  have hz := hb.size
  rcases hj with h3 | h3 | ⟨m, hm, _⟩
  · exact ⟨by omega, fun h4 => by omega⟩
  · exact ⟨by omega, fun h4 => by omega⟩
  · cases hm
theorem oneSync (h : One W X w1 w kf s) (hN : FsNum s.left s.done) (n : ByteArray) (hn : n.size ≤ 1073741824) : Calls Tryd.prog 15 #[.pointer (some ⟨kf, 0, none⟩), .string n] w (Did W X w1 kf (syncF s n)) := by
  obtain ⟨km, ms, hok, hcl, hf⟩ := h.ex
  exact (cSync_any w kf km s.left s.done ms hok hN n hn (syncF s n) (by rw [hcl])).mono fun e w' hg => one_did h hf hg
theorem oneTruncate (h : One W X w1 w kf s) (hN : FsNum s.left s.done) (n : ByteArray) (hn : n.size ≤ 1073741824) (k : Int) : Calls Tryd.prog 24 #[.pointer (some ⟨kf, 0, none⟩), .string n, .int .i64 k] w (Did W X w1 kf (truncF s n k)) := by
  obtain ⟨km, ms, hok, hcl, hf⟩ := h.ex
  exact (cTruncate_any w kf km s.left s.done ms hok hN n hn k (truncF s n k) (by rw [hcl])).mono fun e w' hg => one_did h hf hg
theorem oneRemove (h : One W X w1 w kf s) (hN : FsNum s.left s.done) (n : ByteArray) (hn : n.size ≤ 1073741824) : Calls Tryd.prog 22 #[.pointer (some ⟨kf, 0, none⟩), .string n] w (Did W X w1 kf (removeF s n)) := by
  obtain ⟨km, ms, hok, hcl, hf⟩ := h.ex
  exact (cRemove_any w kf km s.left s.done ms hok hN n hn (removeF s n) (by rw [hcl])).mono fun e w' hg => one_did h hf hg
theorem oneRename (h : One W X w1 w kf s) (hN : FsNum s.left s.done) (hL : s.l.length ≤ 10000) (n : ByteArray) (hn : n.size ≤ 1073741824) (n2 : ByteArray) (hn2 : n2.size ≤ 1073741824) : Calls Tryd.prog 21 #[.pointer (some ⟨kf, 0, none⟩), .string n, .string n2] w (Did W X w1 kf (renameF s n n2)) := by
  obtain ⟨km, ms, hok, hcl, hf⟩ := h.ex
  have hl : ms.length ≤ 10000 := by rw [← hcl] at hL; unfold cls at hL; rwa [List.length_map] at hL
  exact (cRename_any w kf km s.left s.done ms hok hl hN n hn n2 hn2 (renameF s n n2) (by rw [hcl])).mono fun e w' hg => one_did h hf hg
theorem oneStop (h : One W X w1 w kf s) (k : Int) : Calls Tryd.prog 18 #[.pointer (some ⟨kf, 0, none⟩), .int .i64 k] w fun e w' => e = .returned (.tuple #[]) ∧ Hid (One W X w1 w' kf ⟨s.l, k, s.done⟩) := by
  obtain ⟨km, ms, hok, hcl, hf⟩ := h.ex
  refine (cStop_any w kf km s.left s.done ms hok k).mono ?_
  rintro e w' ⟨he, h1, h2⟩
  exact ⟨he, h.gave (s' := ⟨s.l, k, s.done⟩) hf h1 hcl (Kept.of_grown h2 (.inl (.inl rfl))) foot_refl⟩
theorem oneDeeds (h : One W X w1 w kf s) : Calls Tryd.prog 20 #[.pointer (some ⟨kf, 0, none⟩)] w fun e w' => e = .returned (.int .i64 s.done) ∧ w = w' := by
  obtain ⟨km, ms, hok, hcl, hf⟩ := h.ex
  exact cDeeds_any w kf km s.left s.done hok.box
theorem oneLen (h : One W X w1 w kf s) (n : ByteArray) (hn : n.size ≤ 1073741824) : Calls Tryd.prog 23 #[.pointer (some ⟨kf, 0, none⟩), .string n] w fun e w' => e = .returned (.int .i64 (lenF s.l n : Int)) ∧ w = w' := by
  obtain ⟨km, ms, hok, hcl, hf⟩ := h.ex
  rw [← hcl]
  exact cLen_any w kf km s.left s.done ms hok n hn
theorem oneAppend (h : One W X w1 w kf s) (hN : FsNum s.left s.done) (hL : s.l.length ≤ 10000) (n : ByteArray) (hn : n.size ≤ 1073741824) (hb : Below w.heap.size w w')
    (bad : Option Addr) (blen bcap : Nat) (bs : List Nat) (hbr : RowAt byteK w' bad blen bcap bs) (hall : AllB bs) (hbk : ∀ a, bad = some a → 0 < blen → a.block < W.heap.size ∨ X a.block ∨ w.heap.size ≤ a.block) (hbl : ∀ f ∈ s.l, f.name = n → f.b.length + blen ≤ 140737488355328) (hb0 : blen ≤ 140737488355328) :
    Calls Tryd.prog 11 #[.pointer (some ⟨kf, 0, none⟩), .string n, .slice bad blen bcap] w' (Did W X w1 kf (appendF s n bs)) := by
  obtain ⟨km, ms, hok, hcl, hf⟩ := h.ex
  have hl : ms.length ≤ 10000 := by rw [← hcl] at hL; unfold cls at hL; rwa [List.length_map] at hL
  refine (cAppend_any w' kf km s.left s.done ms (hok.on hb) hN hl n hn bad blen bcap bs hbr hall (fun a ha h0 hF => ?_) (fun m hm => hbl m.f (by rw [← hcl]; exact List.mem_map.2 ⟨m, hm, rfl⟩)) hb0 (appendF s n bs) (by rw [hcl])).mono fun e w2 hg => one_did (h.on hb) hf hg
  have h1 := hf _ hF
  have h2 := hok.lt hF
  rcases hbk a ha h0 with h3 | h3 | h3
  · omega
  · exact h1.2 h3
  · omega
theorem oneCrash (h : One W X w1 w kf s) (hL : s.l.length ≤ 10000) (hT : Tabs W) (h2 : 2 ≤ W.heap.size) (hB : ∀ f ∈ s.l, f.b.length ≤ 140737488355328) (hb : Below w.heap.size w w')
    (kad : Option Addr) (klen kcap : Nat) (ks : List Int) (hk : RowAt keepK w' kad klen kcap ks) (hkb : ∀ a, kad = some a → 0 < klen → a.block < W.heap.size ∨ X a.block ∨ w.heap.size ≤ a.block) (hki : ∀ k ∈ ks, -9223372036854775808 ≤ k ∧ k ≤ 9223372036854775807)
    (gad : Option Addr) (glen gcap : Nat) (gs : List Nat) (hg : RowAt byteK w' gad glen gcap gs) (hgb : ∀ a, gad = some a → 0 < glen → a.block < W.heap.size ∨ X a.block ∨ w.heap.size ≤ a.block) (hga : AllB gs) :
    Calls Tryd.prog 16 #[.pointer (some ⟨kf, 0, none⟩), .slice kad klen kcap, .slice gad glen gcap] w' fun e w2 => e = .returned (.tuple #[]) ∧ Hid (One W X w1 w2 kf ⟨crashF s.l ks gs, -1, s.done⟩) := by
  obtain ⟨km, ms, hok, hcl, hf⟩ := h.ex
  have hl : ms.length ≤ 10000 := by rw [← hcl] at hL; unfold cls at hL; rwa [List.length_map] at hL
  have ho := h.on hb
  have hno : ∀ q : Nat, (q < W.heap.size ∨ X q ∨ w.heap.size ≤ q) → ¬ Foot kf km ms q := fun q hq hF => by
    have h1 := hf _ hF
    have h2 := hok.lt hF
    rcases hq with h3 | h3 | h3
    · omega
    · exact h1.2 h3
    · omega
  refine (cCrash_any w' kf km s.left s.done ms (hok.on hb) hl (hT.keep ho.below) (Nat.le_trans h2 ho.below.size) (fun m hm => hB m.f (by rw [← hcl]; exact List.mem_map.2 ⟨m, hm, rfl⟩)) kad klen kcap ks hk (fun a ha h0 => hno _ (hkb a ha h0)) hki gad glen gcap gs hg (fun a ha h0 => hno _ (hgb a ha h0)) hga).mono ?_
  rintro e w2 ⟨he, ms', h3, h4, h5, h6⟩
  exact ⟨he, ho.gave (s' := ⟨crashF s.l ks gs, -1, s.done⟩) hf h3 (by rw [h4, hcl]) h5 fun j hj => .inl (h6 j hj)⟩
/-- What Read gives. -/
def ReadC (w : World) (r : Option (List Nat)) (e : Ending) (w' : World) : Prop :=
  Hid (Below w.heap.size w w') ∧ match r with
  | none => e = .returned (.tuple #[.slice none 0 0, .bool false])
  | some l => ∃ ad cap, e = .returned (.tuple #[.slice ad l.length cap, .bool true]) ∧ Hid (RowAt byteK w' ad l.length cap l ∧ ∀ a, ad = some a → w.heap.size ≤ a.block ∧ a.block < w'.heap.size)
theorem oneRead (h : One W X w1 w kf s) (n : ByteArray) (hn : n.size ≤ 1073741824) (hB : ∀ f ∈ s.l, f.b.length ≤ 140737488355328) : Calls Tryd.prog 17 #[.pointer (some ⟨kf, 0, none⟩), .string n] w (ReadC w (readF s.l n)) := by
  obtain ⟨km, ms, hok, hcl, hf⟩ := h.ex
  rw [← hcl]
  refine (cRead_any w kf km s.left s.done ms hok n hn (fun m hm => hB m.f (by rw [← hcl]; exact List.mem_map.2 ⟨m, hm, rfl⟩))).mono ?_
  rintro e w' ⟨hb, h1⟩
  refine ⟨hb, ?_⟩
  cases hr : readF (cls ms) n with
  | none => rw [hr] at h1; exact h1
  | some l =>
    rw [hr] at h1
    obtain ⟨ad, cap, he, ho⟩ := h1
    obtain ⟨a2, c2, hv, hrow, _⟩ := OwnRow.row2 byteK_ok ho rfl
    simp only [Value.slice.injEq] at hv
    obtain ⟨rfl, _, rfl⟩ := hv
    exact ⟨ad, cap, he, hrow, fun a ha => ho.lt a.block (by rw [ha]; rfl)⟩
/-- What List gives. -/
def ListC (w : World) (l : List ByteArray) (e : Ending) (w' : World) : Prop :=
  Hid (Below w.heap.size w w') ∧ ∃ ad cap, e = .returned (.slice ad l.length cap) ∧ Hid (RowAt strK w' ad l.length cap l ∧ ∀ a, ad = some a → w.heap.size ≤ a.block ∧ a.block < w'.heap.size)
theorem oneList (h : One W X w1 w kf s) (hL : s.l.length ≤ 10000) (hT : Tabs W) (h2 : 2 ≤ W.heap.size) : Calls Tryd.prog 12 #[.pointer (some ⟨kf, 0, none⟩)] w (ListC w (s.l.map (·.name))) := by
  obtain ⟨km, ms, hok, hcl, hf⟩ := h.ex
  have hl : ms.length ≤ 10000 := by rw [← hcl] at hL; unfold cls at hL; rwa [List.length_map] at hL
  rw [← hcl]
  refine (cList_any w kf km s.left s.done ms hok hl (hT.keep h.below) (Nat.le_trans h2 h.below.size)).mono ?_
  rintro e w' ⟨hb, ad, cap, he, ho⟩
  obtain ⟨a2, c2, hv, hrow, _⟩ := OwnRow.row2 strK_ok ho rfl
  simp only [Value.slice.injEq] at hv
  obtain ⟨rfl, _, rfl⟩ := hv
  exact ⟨hb, ad, cap, he, hrow, fun a ha => ho.lt a.block (by rw [ha]; rfl)⟩
end
end Go.Proofs.YtjocfkkcnkpjdaaDoor

/-! Chapter 7's runs. -/
namespace Go.Proofs.YtjocfkkcnkpjdaaDoor
open Go.RowKit
open Go.RuneMath
open Go.FsMath
set_option linter.unusedVariables false

theorem byt_of {w : World} {ad : Option Addr} {len cap : Nat} {l : List Nat} (h : RowAt byteK w ad len cap l) (ha : AllB l) : Byt w ad len cap l := by
  refine ⟨h.length, h.fits, ha, ?_⟩
  rcases Nat.eq_zero_or_pos len with h0 | h0
  · exact .inl h0
  · obtain ⟨b, off, k, rfl, hb, hk, hc⟩ := byte_get h h0
    refine .inr ⟨b, off, rfl, fun i hi => ?_⟩
    obtain ⟨b2, off2, k2, e, _, hk2, hc2⟩ := byte_get h hi
    cases e
    rw [hc2, List.getD_eq_getElem?_getD, hk2]
    rfl
theorem str_row {w : World} {ad : Option Addr} {len cap : Nat} {l : List Nat} {s : ByteArray} (h : RowAt byteK w ad len cap l) (ha : AllB l) (hs : s = str l) : (convert 23 9 (.slice ad len cap)).run Tryd.prog w = .ok (.string s) w := run_str_at (byt_of h ha) hs
theorem lit_bytes (w : World) (l : List Nat) (hl : l.length ≤ 1000000) (cs : Array Value) (hcs : cs = (byteK.all l).toArray) (n : Nat) (hn : l.length = n) : RowAt byteK (w.alloc (.cells cs 5)) (some ⟨w.heap.size, 0, none⟩) n n l := rowAt_lit byteK_ok w l hl cs hcs n hn
theorem alloc_below (w : World) (b : Obj) : Below w.heap.size w (w.alloc b) := (Below.refl _ w).alloc (Nat.le_refl _) _
theorem num_ok {l d : Int} (h0 : 0 ≤ d) (h1 : d ≤ 1000000) (h2 : -1 ≤ l) (h3 : l ≤ 2147483648) : FsNum l d := ⟨h0, by omega, h2, by omega⟩
theorem lit_marked (w : World) (l : List Nat) (ha : AllB l) (cs : Array Value) (hcs : cs = (vals l).toArray) (fr : Nat × Nat) (n : Nat) (hn : l.length = n) : RowAt byteK (w.alloc (.cells cs 5 fr)) (some ⟨w.heap.size, 0, none⟩) n n l := by
  subst hcs
  subst hn
  exact row_bytes ⟨byt_marked w l fr ha, fun h => by cases h⟩
def nA : ByteArray := ⟨#[97]⟩
def nB : ByteArray := ⟨#[98]⟩
theorem kn1 : appendF ⟨[], -1, 0⟩ nA [120, 121] = (0, ⟨[⟨nA, [120, 121], 0⟩], -1, 1⟩) := by kernel_rfl
theorem kn2 : crashF [⟨nA, [120, 121], 0⟩] [1] [] = [⟨nA, [120], 1⟩] := by kernel_rfl
theorem kn3 : readF [⟨nA, [120], 1⟩] nA = some [120] := by kernel_rfl
theorem kn4 : appendF ⟨[⟨nA, [120], 1⟩], -1, 1⟩ nA [122, 122] = (0, ⟨[⟨nA, [120, 122, 122], 1⟩], -1, 2⟩) := by kernel_rfl
theorem kn5 : syncF ⟨[⟨nA, [120, 122, 122], 1⟩], -1, 2⟩ nA = (0, ⟨[⟨nA, [120, 122, 122], 3⟩], -1, 3⟩) := by kernel_rfl
theorem kn6 : crashF [⟨nA, [120, 122, 122], 3⟩] [] [] = [⟨nA, [120, 122, 122], 3⟩] := by kernel_rfl
theorem kn7 : readF [⟨nA, [120, 122, 122], 3⟩] nA = some [120, 122, 122] := by kernel_rfl
theorem kn8 : renameF ⟨[⟨nA, [120, 122, 122], 3⟩], -1, 3⟩ ⟨#[110, 111, 110, 101]⟩ nB = (22, ⟨[⟨nA, [120, 122, 122], 3⟩], -1, 3⟩) := by kernel_rfl
theorem kn9 : appendF ⟨[⟨nA, [120, 122, 122], 3⟩], -1, 3⟩ ⟨#[65]⟩ [] = (1, ⟨[⟨nA, [120, 122, 122], 3⟩], -1, 3⟩) := by kernel_rfl
theorem kn10 : appendF ⟨[⟨nA, [120, 122, 122], 3⟩], 0, 3⟩ nB [113] = (0, ⟨[⟨nA, [120, 122, 122], 3⟩], 0, 3⟩) := by kernel_rfl
theorem kn11 : lenF [⟨nA, [120, 122, 122], 3⟩] nB = 0 := by kernel_rfl
set_option maxRecDepth 100000 in
set_option maxHeartbeats 8000000 in
theorem known_any (W : World) (hT : Tabs W) (h2 : 2 ≤ W.heap.size) : Calls Tryd.prog 13 #[] W fun e w' => e = .returned (.bool true) ∧ Below W.heap.size W w' := by
  have HT := Lib.hid hT
  clear hT
  have kc := fun (w : World) (C : Array Value) (n c : Nat) => Lib.run_convert_bytes_const (P := Tryd.prog) w 23 5 C n c Tryd.underlying23 Tryd.underlying5
  go_enter Tryd.func13, Tryd.ntmps13
  go_wp2_with fail
  refine (oneNew W (Below.refl _ W)).mono ?_
  rintro e w1 ⟨kf, rfl, H1⟩
  go_wp2_with fail
  obtain ⟨w2, hw2⟩ : ∃ z, z = w1.alloc (.cells #[.int .u8 120, .int .u8 121] 5 (2, 3)) := ⟨_, rfl⟩
  obtain ⟨g2, hg2⟩ : ∃ z, z = w1.heap.size := ⟨_, rfl⟩
  have HB2 : Hid (Below w1.heap.size w1 w2) := by show Below _ _ _; rw [hw2]; exact alloc_below _ _
  have HR2 : Hid (RowAt byteK w2 (some ⟨g2, 0, none⟩) 2 2 [120, 121]) := by show RowAt _ _ _ _ _ _; rw [hw2, hg2]; exact lit_marked w1 [120, 121] (all_small (by rfl)) _ rfl _ 2 rfl
  have HG2 : Hid (w1.heap.size ≤ g2) := by show _ ≤ _; rw [hg2]; exact Nat.le_refl _
  rw [← hw2, ← hg2]
  clear hw2 hg2
  refine (oneAppend H1.out (num_ok (by decide) (by decide) (by decide) (by decide)) (by decide) nA (by decide) HB2.out (some ⟨g2, 0, none⟩) 2 2 [120, 121] HR2.out (all_small (by rfl)) (fun a ha _ => .inr (.inr (by cases ha; exact HG2.out))) (fun f hf => by cases hf) (by omega)).mono ?_
  rintro e w3 ⟨rfl, H3⟩
  rw [kn1] at H3
  rw [kn1]
  clear H1 HB2 HR2 HG2
  go_wp2_with fail
  obtain ⟨w4, hw4⟩ : ∃ z, z = w3.alloc (.cells #[.int .i64 1] 2) := ⟨_, rfl⟩
  obtain ⟨g4, hg4⟩ : ∃ z, z = w3.heap.size := ⟨_, rfl⟩
  have HB4 : Hid (Below w3.heap.size w3 w4) := by show Below _ _ _; rw [hw4]; exact alloc_below _ _
  have HR4 : Hid (RowAt keepK w4 (some ⟨g4, 0, none⟩) 1 1 [1]) := by show RowAt _ _ _ _ _ _; rw [hw4, hg4]; exact rowAt_lit keepK_ok w3 [1] (by simp) _ rfl 1 rfl
  have HG4 : Hid (w3.heap.size ≤ g4 ∧ g4 < w4.heap.size) := by show _ ∧ _; rw [hw4, hg4]; exact ⟨Nat.le_refl _, by simp⟩
  rw [← hw4, ← hg4]
  clear hw4 hg4
  refine (oneCrash H3.out (by decide) HT.out h2 (fun f hf => by obtain rfl := List.mem_singleton.1 hf; decide) HB4.out (some ⟨g4, 0, none⟩) 1 1 [1] HR4.out (fun a ha _ => .inr (.inr (by cases ha; exact HG4.out.1))) (fun k hk => by obtain rfl := List.mem_singleton.1 hk; omega) none 0 0 [] (RowAt.zero _ (fun _ => rfl)) (fun a ha => by cases ha) (fun x hx => by cases hx)).mono ?_
  rintro e w5 ⟨rfl, H5⟩
  rw [kn2] at H5
  clear H3 HB4 HR4 HG4
  go_wp2_with fail
  refine (oneRead H5.out nA (by decide) (fun f hf => by obtain rfl := List.mem_singleton.1 hf; decide)).mono ?_
  rintro e w6 hrd
  rw [kn3] at hrd
  obtain ⟨hb6, ad6, cap6, rfl, hr6⟩ := hrd
  obtain ⟨Y6, hy6, hx6, hn6⟩ := H5.out.held hb6.out
  have H6 := Lib.hid hy6
  have HR6 := Lib.hid hr6.out.1
  have HA6 : Hid (∀ a, ad6 = some a → Y6 a.block) := fun a ha => hn6 _ (hr6.out.2 a ha).1 (hr6.out.2 a ha).2
  clear H5 hb6 hr6 hy6 hx6 hn6
  go_wp2_with fail
  obtain ⟨w7, hw7⟩ : ∃ z, z = w6.alloc (.cells #[.int .u8 122, .int .u8 122] 5 (2, 3)) := ⟨_, rfl⟩
  obtain ⟨g7, hg7⟩ : ∃ z, z = w6.heap.size := ⟨_, rfl⟩
  have HB7 : Hid (Below w6.heap.size w6 w7) := by show Below _ _ _; rw [hw7]; exact alloc_below _ _
  have HR7 : Hid (RowAt byteK w7 (some ⟨g7, 0, none⟩) 2 2 [122, 122]) := by show RowAt _ _ _ _ _ _; rw [hw7, hg7]; exact lit_marked w6 [122, 122] (all_small (by rfl)) _ rfl _ 2 rfl
  have HG7 : Hid (w6.heap.size ≤ g7) := by show _ ≤ _; rw [hg7]; exact Nat.le_refl _
  rw [← hw7, ← hg7]
  clear hw7 hg7
  refine (oneAppend H6.out (num_ok (by decide) (by decide) (by decide) (by decide)) (by decide) nA (by decide) HB7.out (some ⟨g7, 0, none⟩) 2 2 [122, 122] HR7.out (all_small (by rfl)) (fun a ha _ => .inr (.inr (by cases ha; exact HG7.out))) (fun f hf _ => by obtain rfl := List.mem_singleton.1 hf; decide) (by omega)).mono ?_
  rintro e w8 ⟨rfl, H8⟩
  rw [kn4] at H8
  rw [kn4]
  clear H6 HB7 HR7 HG7
  go_wp2_with fail
  refine (oneSync H8.out (num_ok (by decide) (by decide) (by decide) (by decide)) nA (by decide)).mono ?_
  rintro e w9 ⟨rfl, H9⟩
  rw [kn5] at H9
  rw [kn5]
  clear H8
  go_wp2_with fail
  refine (oneCrash H9.out (by decide) HT.out h2 (fun f hf => by obtain rfl := List.mem_singleton.1 hf; decide) (Below.refl _ _) none 0 0 [] (RowAt.zero _ (fun _ => rfl)) (fun a ha => by cases ha) (fun k hk => by cases hk) none 0 0 [] (RowAt.zero _ (fun _ => rfl)) (fun a ha => by cases ha) (fun x hx => by cases hx)).mono ?_
  rintro e w10 ⟨rfl, H10⟩
  rw [kn6] at H10
  clear H9
  go_wp2_with fail
  refine (oneRead H10.out nA (by decide) (fun f hf => by obtain rfl := List.mem_singleton.1 hf; decide)).mono ?_
  rintro e w11 hrd
  rw [kn7] at hrd
  obtain ⟨hb11, ad11, cap11, rfl, hr11⟩ := hrd
  have hr62 := (H10.out.row HR6.out HA6.out).keep hb11.out
  obtain ⟨Y11, hy11, hx11, hn11⟩ := H10.out.held hb11.out
  have H11 := Lib.hid hy11
  have HR62 := Lib.hid hr62
  have HR11 := Lib.hid hr11.out.1
  have HA11 : Hid (∀ a, ad11 = some a → Y11 a.block) := fun a ha => hn11 _ (hr11.out.2 a ha).1 (hr11.out.2 a ha).2
  have HA62 : Hid (∀ a, ad6 = some a → Y11 a.block) := fun a ha => hx11 _ (HA6.out a ha)
  clear H10 hb11 hr11 hy11 hx11 hn11 hr62 HR6 HA6
  go_wp2_with fail
  refine (oneRename H11.out (num_ok (by decide) (by decide) (by decide) (by decide)) (by decide) ⟨#[110, 111, 110, 101]⟩ (by decide) nB (by decide)).mono ?_
  rintro e w12 ⟨rfl, H12⟩
  rw [kn8] at H12
  rw [kn8]
  clear H11
  go_wp2_with fail
  refine (oneAppend H12.out (num_ok (by decide) (by decide) (by decide) (by decide)) (by decide) ⟨#[65]⟩ (by decide) (Below.refl _ _) none 0 0 [] (RowAt.zero _ (fun _ => rfl)) (fun x hx => by cases hx) (fun a ha => by cases ha) (fun f hf _ => by obtain rfl := List.mem_singleton.1 hf; decide) (by omega)).mono ?_
  rintro e w13 ⟨rfl, H13⟩
  rw [kn9] at H13
  rw [kn9]
  clear H12
  go_wp2_with fail
  refine (oneStop H13.out 0).mono ?_
  rintro e w14 ⟨rfl, H14⟩
  clear H13
  go_wp2_with fail
  obtain ⟨w15, hw15⟩ : ∃ z, z = w14.alloc (.cells #[.int .u8 113] 5 (1, 2)) := ⟨_, rfl⟩
  obtain ⟨g15, hg15⟩ : ∃ z, z = w14.heap.size := ⟨_, rfl⟩
  have HB15 : Hid (Below w14.heap.size w14 w15) := by show Below _ _ _; rw [hw15]; exact alloc_below _ _
  have HR15 : Hid (RowAt byteK w15 (some ⟨g15, 0, none⟩) 1 1 [113]) := by show RowAt _ _ _ _ _ _; rw [hw15, hg15]; exact lit_marked w14 [113] (all_small (by rfl)) _ rfl _ 1 rfl
  have HG15 : Hid (w14.heap.size ≤ g15) := by show _ ≤ _; rw [hg15]; exact Nat.le_refl _
  rw [← hw15, ← hg15]
  clear hw15 hg15
  refine (oneAppend H14.out (num_ok (by decide) (by decide) (by decide) (by decide)) (by decide) nB (by decide) HB15.out (some ⟨g15, 0, none⟩) 1 1 [113] HR15.out (all_small (by rfl)) (fun a ha _ => .inr (.inr (by cases ha; exact HG15.out))) (fun f hf _ => by obtain rfl := List.mem_singleton.1 hf; decide) (by omega)).mono ?_
  rintro e w16 ⟨rfl, H16⟩
  rw [kn10] at H16
  rw [kn10]
  clear H14 HB15 HR15 HG15
  go_wp2_with fail
  refine (oneList H16.out (by decide) HT.out h2).mono ?_
  rintro e w17 ⟨hb17, ad17, cap17, rfl, hr17⟩
  have H17 := Lib.hid (H16.out.on hb17.out)
  clear H16 hb17 hr17
  have hc6 : (convert 23 9 (.slice ad6 1 cap6)).run Tryd.prog w17 = .ok (.string ⟨#[120]⟩) w17 := str_row (H17.out.row HR62.out HA62.out) (all_small (by rfl)) (by rfl)
  have hc11 : (convert 23 9 (.slice ad11 3 cap11)).run Tryd.prog w17 = .ok (.string ⟨#[120, 122, 122]⟩) w17 := str_row (H17.out.row HR11.out HA11.out) (all_small (by rfl)) (by rfl)
  simp only [List.length_cons, List.length_nil, List.length_map, Nat.zero_add]
  go_wp2_with fail
  refine (oneDeeds H17.out).mono ?_
  rintro e w18 ⟨rfl, rfl⟩
  go_wp2_with fail
  refine (oneLen H17.out nB (by decide)).mono ?_
  rintro e w19 ⟨rfl, rfl⟩
  rw [kn11]
  go_wp2
  go_ret
  exact ⟨rfl, H17.out.below⟩
end Go.Proofs.YtjocfkkcnkpjdaaDoor
