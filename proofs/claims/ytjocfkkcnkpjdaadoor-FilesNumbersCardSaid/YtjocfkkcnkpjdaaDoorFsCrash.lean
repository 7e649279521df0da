/- Chapter 7's own files: Crash. -/
import Derived.Test.YtjocfkkcnkpjdaaDoorFsCrashM
import Derived.Laws.BitsAllLaws
namespace Go.Proofs.YtjocfkkcnkpjdaaDoor
open Go.RowKit
open Go.RuneMath
open Go.FsMath
set_option linter.unusedVariables false

theorem infoKeep : (Tryd.prog.info? 2).map (fun i => (i.zero, i.size, i.bytes)) = some (some (.int .i64 0), 1, 8) := by kernel_rfl
def keepK : Kind Int := ⟨fun n => [.int .i64 n], 1, 2, 24⟩
theorem keepK_ok : keepK.Ok 8 where
  und := Tryd.underlying24
  info := by
    obtain ⟨i, hi, hz, hs, hb⟩ := info_parts infoKeep
    exact ⟨i, _, hi, hz, hs, hb, rfl⟩
  len := fun _ => rfl
  pos := by decide
  one := fun r u hu => by
    obtain rfl := List.mem_singleton.1 hu
    rfl
  few := by decide
theorem long_get {w : World} {ad : Option Addr} {len cap : Nat} {l : List Int} (h : RowAt keepK w ad len cap l) {i : Nat} (hi : i < len) : ∃ b off k, ad = some ⟨b, off, none⟩ ∧ b < w.heap.size ∧ l[i]? = some k ∧ w.cell? ⟨b, off + i, none⟩ = some (.int .i64 k) := by
  obtain ⟨b, off, k, e, hb, hk, hc⟩ := h.get hi
  have := hc 0 _ rfl
  rw [show i * keepK.size + 0 = i from Nat.mul_one i] at this
  exact ⟨b, off, k, e, hb, hk, this⟩
theorem byte_get {w : World} {ad : Option Addr} {len cap : Nat} {l : List Nat} (h : RowAt byteK w ad len cap l) {i : Nat} (hi : i < len) : ∃ b off k, ad = some ⟨b, off, none⟩ ∧ b < w.heap.size ∧ l[i]? = some k ∧ w.cell? ⟨b, off + i, none⟩ = some (.int .u8 (k : Int)) := by
  obtain ⟨b, off, k, e, hb, hk, hc⟩ := h.get hi
  have := hc 0 _ rfl
  rw [show i * byteK.size + 0 = i from Nat.mul_one i] at this
  exact ⟨b, off, k, e, hb, hk, this⟩
/-- MAIN -/
structure CrashAt (w wr : World) (kf : Nat) (v : Value) (left done : Int) (ms : List FM) (ks : List Int) (gs : List Nat) (i : Nat) (msi : List FM) : Prop where
  ok : FsOk wr kf v left done msi
  fl : fls msi = crashTo (fls ms) ks gs i
  kept : KeptFs w wr kf v
  lists : ListsFs w ms msi
theorem lists_next {w : World} {ms msa : List FM} {i : Nat} {m' : FM} (h : ListsFs w ms msa) (h2 : ∀ a, m'.ad = some a → w.heap.size ≤ a.block) : ListsFs w ms (msa.set i m') := fun x hx a ha => by
  rcases List.mem_or_eq_of_mem_set hx with h1 | h1
  · exact h x h1 a ha
  · subst h1
    exact .inr (h2 a ha)
theorem cell_same {w w' : World} {b : Nat} (he : w'.heap[b]? = w.heap[b]?) {o : Nat} : w'.cell? ⟨b, o, none⟩ = w.cell? ⟨b, o, none⟩ := by
  unfold World.cell?
  simp only [he]
theorem kept_row {α : Type} {K : Kind α} {w w' : World} {kf : Nat} {v : Value} {ad : Option Addr} {len cap : Nat} {l : List α} (hr : RowAt K w ad len cap l) (hk : KeptFs w w' kf v) (ha : ∀ a, ad = some a → 0 < len → a.block ≠ kf ∧ v.ownBlock ≠ some a.block) : RowAt K w' ad len cap l := by
  refine ⟨hr.length, hr.fits, hr.room, ?_⟩
  by_cases hz : len = 0
  · exact .inl hz
  rcases hr.cells with h0 | ⟨b, off, e, hlt, hc⟩
  · exact .inl h0
  · have h2 := ha _ e (by omega)
    have he : w'.heap[b]? = w.heap[b]? := hk.block b hlt h2.1 h2.2
    exact .inr ⟨b, off, e, Nat.lt_of_lt_of_le hlt hk.size, fun i x hi j u hj => by rw [cell_same he]; exact hc i x hi j u hj⟩
set_option maxRecDepth 100000 in
set_option maxHeartbeats 8000000 in
theorem fsCrash_any (w : World) (kf : Nat) (v : Value) (left done : Int) (ms : List FM) (h : FsOk w kf v left done ms) (hL : ms.length ≤ 100000) (hB : Smalls ms) (hLO : ∀ m ∈ ms, m.f.lasts ≤ m.f.b.length)
    (kad : Option Addr) (klen kcap : Nat) (ks : List Int) (hk : RowAt keepK w kad klen kcap ks) (hkb : ∀ a, kad = some a → 0 < klen → a.block ≠ kf ∧ v.ownBlock ≠ some a.block) (hki : ∀ k ∈ ks, -9223372036854775808 ≤ k ∧ k ≤ 9223372036854775807)
    (gad : Option Addr) (glen gcap : Nat) (gs : List Nat) (hg : RowAt byteK w gad glen gcap gs) (hgb : ∀ a, gad = some a → 0 < glen → a.block ≠ kf ∧ v.ownBlock ≠ some a.block) (hga : AllB gs) :
    Calls Tryd.prog 30 #[.pointer (some ⟨kf, 0, none⟩), .slice kad klen kcap, .slice gad glen gcap] w fun e w' => e = .returned (.tuple #[]) ∧ ∃ ms', FsOk w' kf v (-1) done ms' ∧ fls ms' = crashF (fls ms) ks gs ∧ KeptFs w w' kf v ∧ ListsFs w ms ms' := by
  obtain ⟨len, hlen⟩ : ∃ n, ms.length = n := ⟨_, rfl⟩
  obtain ⟨fad, fcap, hv, _, _⟩ := OwnRow.row2 flK_ok h.row hlen
  have H := Lib.hid h
  have HKS := Lib.hid hk
  have HGS := Lib.hid hg
  have HBB := Lib.hid hB
  have HLO := Lib.hid hLO
  have b0 := h.box.c0
  rw [hv] at b0
  have hklen := hk.length
  have hglen := hg.length
  clear h hk hg hB hLO
  go_enter Tryd.func30, Tryd.ntmps30
  go_wp2
  go_loopw [15] (fun v15 wr => ∃ (i : Nat) (msi : List FM), v15 = .int .i64 (i : Int) ∧ i ≤ len ∧ Hid (CrashAt w wr kf v left done ms ks gs i msi)) (fun v15 _ => len - (intOf v15).toNat)
  case atStart => exact ⟨0, ms, rfl, Nat.zero_le _, ⟨H.out, (crashTo_start _ _ _).symm, kept_grown (grow_refl w _), lists_refl _ _⟩⟩
  case round =>
    obtain ⟨i, msi, rfl, hi, HCA⟩ := hrel
    clear b0
    obtain ⟨wo, hwo⟩ : ∃ wo : World, wo = wr := ⟨_, rfl⟩
    subst hwo
    have hleni : msi.length = len := by
      have h1 := congrArg List.length HCA.out.fl
      rw [crashTo_len] at h1
      unfold fls at h1
      rw [List.length_map, List.length_map] at h1
      omega
    by_cases hlt : i < len
    · have hd : decide (i < len) = true := decide_eq_true hlt
      have hij : (i : Int) < (len : Int) := by omega
      obtain ⟨g, len2, cap, m, hv2, hlen2, hm, hkg, hgw, _, c0, c1, c2, _⟩ := fs_open HCA.out.ok (i := i) (by omega)
      have hl2 : len2 = len := by omega
      subst hl2
      have b0 := HCA.out.ok.box.c0
      rw [hv2] at b0
      obtain ⟨f, hf⟩ : ∃ f, f = m.f := ⟨_, rfl⟩
      have hfi : (fls ms)[i]? = some m.f := crashTo_at (by rw [← HCA.out.fl]; exact fls_at hm)
      obtain ⟨mo, hmo, hmof⟩ : ∃ mo, ms[i]? = some mo ∧ mo.f = m.f := by
        unfold fls at hfi
        rw [List.getElem?_map] at hfi
        cases hx : ms[i]? with
        | none => rw [hx] at hfi; cases hfi
        | some y => rw [hx] at hfi; exact ⟨y, rfl, Option.some.inj hfi⟩
      have hbl : m.f.b.length ≤ 1000000000 := by rw [← hmof]; exact HBB.out mo (List.mem_of_getElem? hmo)
      have hll : m.f.lasts ≤ m.f.b.length := by rw [← hmof]; exact HLO.out mo (List.mem_of_getElem? hmo)
      have HM := Lib.hid hm
      have HFI := Lib.hid hfi
      have HKA := Lib.hid (kept_row HKS.out HCA.out.kept hkb)
      have HGA := Lib.hid (kept_row HGS.out HCA.out.kept hgb)
      have hil : i < len2 := hlt
      clear hf f hmo hmof hm hfi
      by_cases hik : i < klen
      · have hdk : decide ((i : Int) < (klen : Int)) = true := decide_eq_true (by omega)
        have hik2 : (i : Int) < (klen : Int) := by omega
        obtain ⟨kb, koff, kx, hkad, hkbw, hkx, ck⟩ := long_get HKA.out hik
        subst hkad
        have hkr := hki kx (List.mem_of_getElem? hkx)
        have KS : Hid (∀ W, Below wo.heap.size wo W → (fun (W : World) => W.cell? ⟨kb, koff + i, none⟩ = some (.int .i64 kx) ∧ W.cell? ⟨g, i * 3 + 1, none⟩ = some (.slice m.ad m.f.b.length m.cap) ∧ W.cell? ⟨g, i * 3 + 2, none⟩ = some (.int .i64 (m.f.lasts : Int))) W) := fun W hW => ⟨(hW.cell (p := ⟨kb, koff + i, none⟩) hkbw).trans ck, (hW.cell (p := ⟨g, i * 3 + 1, none⟩) hgw).trans c1, (hW.cell (p := ⟨g, i * 3 + 2, none⟩) hgw).trans c2⟩
        have hdrw : Below wo.heap.size wo wo.drew := (Below.refl _ wo).drew
        have hw1 : IntKind.i64.wrap ((m.f.b.length : Int) - (m.f.lasts : Int)) = (m.f.b.length : Int) - (m.f.lasts : Int) := IntWalk.i64_in _ (by omega)
        go_upto_region 6 with fail
        refine wp_region_noPanic ?_
        refine wp_region_z [] (fun (W : World) => W.cell? ⟨kb, koff + i, none⟩ = some (.int .i64 kx) ∧ W.cell? ⟨g, i * 3 + 1, none⟩ = some (.slice m.ad m.f.b.length m.cap) ∧ W.cell? ⟨g, i * 3 + 2, none⟩ = some (.int .i64 (m.f.lasts : Int))) (by kernel_rfl) ?_
        have hHeld : (fun (W : World) => W.cell? ⟨kb, koff + i, none⟩ = some (.int .i64 kx) ∧ W.cell? ⟨g, i * 3 + 1, none⟩ = some (.slice m.ad m.f.b.length m.cap) ∧ W.cell? ⟨g, i * 3 + 2, none⟩ = some (.int .i64 (m.f.lasts : Int))) _ := KS.out _ hdrw
        obtain ⟨u0, hu0⟩ : ∃ u, u = wo.drew := ⟨_, rfl⟩
        rw [← hu0] at hHeld hdrw
        rw [← hu0]
        clear hu0
        have HU := Lib.hid hdrw
        clear hdrw
        refine wpAnyZ_take (i := 0) (oi := ⟨_, _, _, _, _, _⟩) (v := ?_) rfl (by kernel_rfl) (by kernel_rfl) (by kernel_rfl) (by kernel_rfl) (by kernel_rfl) (fun _ _ _ h => h) (Or.inl ⟨by rfl, ?_⟩) (by assumption) ?_
        rotate_left
        · intro W hSw
          (try dsimp only at hSw)
          go_simp
          (try with_reducible rfl)
        (try simp only [Act.put, List.setIfInBounds_toArray, List.set_cons_zero, List.set_cons_succ])
        refine wpAnyZ_take (i := 1) (oi := ⟨_, _, _, _, _, _⟩) (v := ?_) rfl (by kernel_rfl) (by kernel_rfl) (by kernel_rfl) (by kernel_rfl) (by kernel_rfl) (fun _ _ _ h => h) (Or.inl ⟨by rfl, ?_⟩) (by assumption) ?_
        rotate_left
        · intro W hSw
          (try dsimp only at hSw)
          go_simp
          (try with_reducible rfl)
        (try simp only [Act.put, List.setIfInBounds_toArray, List.set_cons_zero, List.set_cons_succ])
        refine wpAnyZ_take (i := 2) (oi := ⟨_, _, _, _, _, _⟩) (v := ?_) rfl (by kernel_rfl) (by kernel_rfl) (by kernel_rfl) (by kernel_rfl) (by kernel_rfl) (fun _ _ _ h => h) (Or.inl ⟨by rfl, ?_⟩) (by assumption) ?_
        rotate_left
        · intro W hSw
          (try dsimp only at hSw)
          go_simp
          (try with_reducible rfl)
        (try simp only [Act.put, List.setIfInBounds_toArray, List.set_cons_zero, List.set_cons_succ])
        refine wpAnyZ_take (i := 3) (oi := ⟨_, _, _, _, _, _⟩) (v := ?_) rfl (by kernel_rfl) (by kernel_rfl) (by kernel_rfl) (by kernel_rfl) (by kernel_rfl) (fun _ _ _ h => h) (Or.inl ⟨by rfl, ?_⟩) (by assumption) ?_
        rotate_left
        · intro W hSw
          (try dsimp only at hSw)
          go_simp
          (try with_reducible rfl)
        (try simp only [Act.put, List.setIfInBounds_toArray, List.set_cons_zero, List.set_cons_succ])
        refine wpAnyZ_take (i := 4) (oi := ⟨_, _, _, _, _, _⟩) (v := ?_) rfl (by kernel_rfl) (by kernel_rfl) (by kernel_rfl) (by kernel_rfl) (by kernel_rfl) (fun _ _ _ h => h) (Or.inl ⟨by rfl, ?_⟩) (by assumption) ?_
        rotate_left
        · intro W hSw
          (try dsimp only at hSw)
          go_simp
          (try with_reducible rfl)
        (try simp only [Act.put, List.setIfInBounds_toArray, List.set_cons_zero, List.set_cons_succ])
        refine wpAnyZ_take (i := 5) (oi := ⟨_, _, _, _, _, _⟩) (v := ?_) rfl (by kernel_rfl) (by kernel_rfl) (by kernel_rfl) (by kernel_rfl) (by kernel_rfl) (fun _ _ _ h => h) (Or.inl ⟨by rfl, ?_⟩) (by assumption) ?_
        rotate_left
        · intro W hSw
          (try dsimp only at hSw)
          go_simp
          (try with_reducible rfl)
        (try simp only [Act.put, List.setIfInBounds_toArray, List.set_cons_zero, List.set_cons_succ])
        refine wpAnyZ_take (i := 6) (oi := ⟨_, _, _, _, _, _⟩) (v := ?_) rfl (by kernel_rfl) (by kernel_rfl) (by kernel_rfl) (by kernel_rfl) (by kernel_rfl) (fun _ _ _ h => h) (Or.inl ⟨by rfl, ?_⟩) (by assumption) ?_
        rotate_left
        · intro W hSw
          (try dsimp only at hSw)
          go_simp
          (try with_reducible rfl)
        (try simp only [Act.put, List.setIfInBounds_toArray, List.set_cons_zero, List.set_cons_succ])
        refine wpAnyZ_take (i := 7) (oi := ⟨_, _, _, _, _, _⟩) (v := ?_) rfl (by kernel_rfl) (by kernel_rfl) (by kernel_rfl) (by kernel_rfl) (by kernel_rfl) (fun _ _ _ h => h) (Or.inl ⟨by rfl, ?_⟩) (by assumption) ?_
        rotate_left
        · intro W hSw
          (try dsimp only at hSw)
          go_simp
          (try with_reducible rfl)
        (try simp only [Act.put, List.setIfInBounds_toArray, List.set_cons_zero, List.set_cons_succ])
        refine wpAnyZ_take (i := 8) (oi := ⟨_, _, _, _, _, _⟩) (v := ?_) rfl (by kernel_rfl) (by kernel_rfl) (by kernel_rfl) (by kernel_rfl) (by kernel_rfl) (fun _ _ _ h => h) (Or.inl ⟨by rfl, ?_⟩) (by assumption) ?_
        rotate_left
        · intro W hSw
          (try dsimp only at hSw)
          go_simp
          (try with_reducible rfl)
        (try simp only [Act.put, List.setIfInBounds_toArray, List.set_cons_zero, List.set_cons_succ])
        refine wpAnyZ_take (i := 9) (oi := ⟨_, _, _, _, _, _⟩) (v := ?_) rfl (by kernel_rfl) (by kernel_rfl) (by kernel_rfl) (by kernel_rfl) (by kernel_rfl) (fun _ _ _ h => h) (Or.inl ⟨by rfl, ?_⟩) (by assumption) ?_
        rotate_left
        · intro W hSw
          (try dsimp only at hSw)
          go_simp
          (try with_reducible rfl)
        (try simp only [Act.put, List.setIfInBounds_toArray, List.set_cons_zero, List.set_cons_succ])
        refine wpAnyZ_take (i := 10) (oi := ⟨_, _, _, _, _, _⟩) (v := ?_) rfl (by kernel_rfl) (by kernel_rfl) (by kernel_rfl) (by kernel_rfl) (by kernel_rfl) (fun _ _ _ h => h) (Or.inl ⟨by rfl, ?_⟩) (by assumption) ?_
        rotate_left
        · intro W hSw
          (try dsimp only at hSw)
          go_simp
          (try with_reducible rfl)
        (try simp only [Act.put, List.setIfInBounds_toArray, List.set_cons_zero, List.set_cons_succ])
        refine wpAnyZ_take (i := 11) (oi := ⟨_, _, _, _, _, _⟩) (v := ?_) rfl (by kernel_rfl) (by kernel_rfl) (by kernel_rfl) (by kernel_rfl) (by kernel_rfl) (fun _ _ _ h => h) (Or.inl ⟨by rfl, ?_⟩) (by assumption) ?_
        rotate_left
        · intro W hSw
          (try dsimp only at hSw)
          go_simp
          (try with_reducible rfl)
        (try simp only [Act.put, List.setIfInBounds_toArray, List.set_cons_zero, List.set_cons_succ])
        refine wpAnyZ_take (i := 12) (oi := ⟨_, _, _, _, _, _⟩) (v := ?_) rfl (by kernel_rfl) (by kernel_rfl) (by kernel_rfl) (by kernel_rfl) (by kernel_rfl) (fun _ _ _ h => h) (Or.inl ⟨by rfl, ?_⟩) (by assumption) ?_
        rotate_left
        · intro W hSw
          (try dsimp only at hSw)
          go_simp
          (try with_reducible rfl)
        (try simp only [Act.put, List.setIfInBounds_toArray, List.set_cons_zero, List.set_cons_succ])
        refine wpAnyZ_take (i := 13) (oi := ⟨_, _, _, _, _, _⟩) (v := ?_) rfl (by kernel_rfl) (by kernel_rfl) (by kernel_rfl) (by kernel_rfl) (by kernel_rfl) (fun _ _ _ h => h) (Or.inl ⟨by rfl, ?_⟩) (by assumption) ?_
        rotate_left
        · intro W hSw
          (try dsimp only at hSw)
          go_simp
          (try with_reducible rfl)
        (try simp only [Act.put, List.setIfInBounds_toArray, List.set_cons_zero, List.set_cons_succ])
        refine wpAnyZ_take (i := 14) (oi := ⟨_, _, _, _, _, _⟩) (v := ?_) rfl (by kernel_rfl) (by kernel_rfl) (by kernel_rfl) (by kernel_rfl) (by kernel_rfl) (fun _ _ _ h => h) (Or.inl ⟨by rfl, ?_⟩) (by assumption) ?_
        rotate_left
        · intro W hSw
          (try dsimp only at hSw)
          go_simp
          (try with_reducible rfl)
        (try simp only [Act.put, List.setIfInBounds_toArray, List.set_cons_zero, List.set_cons_succ])
        refine wpAnyZ_take (i := 15) (oi := ⟨_, _, _, _, _, _⟩) (v := ?_) rfl (by kernel_rfl) (by kernel_rfl) (by kernel_rfl) (by kernel_rfl) (by kernel_rfl) (fun _ _ _ h => h) (Or.inl ⟨by rfl, ?_⟩) (by assumption) ?_
        rotate_left
        · intro W hSw
          (try dsimp only at hSw)
          go_simp
          (try with_reducible rfl)
        (try simp only [Act.put, List.setIfInBounds_toArray, List.set_cons_zero, List.set_cons_succ])
        refine wpAnyZ_take (i := 16) (oi := ⟨_, _, _, _, _, _⟩) (v := ?_) rfl (by kernel_rfl) (by kernel_rfl) (by kernel_rfl) (by kernel_rfl) (by kernel_rfl) (fun _ _ _ h => h) (Or.inl ⟨by rfl, ?_⟩) (by assumption) ?_
        rotate_left
        · intro W hSw
          (try dsimp only at hSw)
          go_simp
          (try with_reducible rfl)
        (try simp only [Act.put, List.setIfInBounds_toArray, List.set_cons_zero, List.set_cons_succ])
        refine wpAnyZ_done (by kernel_rfl) ?_ _
        refine NoPanic.normal ?_
        clear hHeld
        obtain ⟨kk, hkk⟩ : ∃ x, x = keepN m.f kx := ⟨_, rfl⟩
        have hke : (if (if (m.f.b.length : Int) - (m.f.lasts : Int) < kx then (m.f.b.length : Int) - (m.f.lasts : Int) else kx) < 0 then 0 else if (m.f.b.length : Int) - (m.f.lasts : Int) < kx then (m.f.b.length : Int) - (m.f.lasts : Int) else kx) = (kk : Int) := by
          rw [hkk]
          unfold keepN
          (repeat' split) <;> omega
        rw [hke]
        generalize (if (m.f.b.length : Int) - (m.f.lasts : Int) < kx then (m.f.b.length : Int) - (m.f.lasts : Int) else kx) = zz at hke ⊢
        have hkl : m.f.lasts + kk ≤ m.f.b.length := by rw [hkk]; exact one_len _ _ hll
        obtain ⟨nn, hnn0⟩ : ∃ x, x = m.f.lasts + kk := ⟨_, rfl⟩
        have hnn : (m.f.lasts : Int) + (kk : Int) = (nn : Int) := by omega
        have HNN : Hid (nn = m.f.lasts + keepN m.f (ks[i]?.getD 0)) := by show nn = _; rw [hnn0, hkk, hkx]; rfl
        have hnle : nn ≤ m.f.b.length := by omega
        have HU2 := Lib.hid (hnn0)
        clear hke hkk hkl KS ck hkr hkx hw1 hdk hkbw hnn0
        obtain ⟨wa, hwa⟩ : ∃ x : World, x = u0 := ⟨_, rfl⟩
        subst hwa
        have hw2 : IntKind.i64.wrap (nn : Int) = (nn : Int) := IntWalk.i64_in _ (by omega)
        have KS7 : Hid (∀ W, Below wa.heap.size wa W → (fun (W : World) => W.cell? ⟨g, i * 3 + 1, none⟩ = some (.slice m.ad m.f.b.length m.cap) ∧ W.cell? ⟨g, i * 3 + 2, none⟩ = some (.int .i64 (m.f.lasts : Int))) W) := fun W hW => by
          have h2 := HU.out.trans (hW.mono HU.out.size)
          exact ⟨(h2.cell (p := ⟨g, i * 3 + 1, none⟩) hgw).trans c1, (h2.cell (p := ⟨g, i * 3 + 2, none⟩) hgw).trans c2⟩
        have hdrw : Below wa.heap.size wa wa.drew := (Below.refl _ wa).drew
        have HOKA := Lib.hid (HCA.out.ok.keep HU.out)
        rw [hv2] at HOKA
        have b9 := HOKA.out.box.c0
        have HUR := Lib.hid ((HOKA.out.ins m (List.mem_of_getElem? HM.out)).1.take nn hnle)
        have hcapm := (HOKA.out.ins m (List.mem_of_getElem? HM.out)).1.fits
        have hup : ∀ W, (Instr.slice 23 (.slice m.ad m.f.b.length m.cap) none (some (.int .i64 ((nn : Int)))) none).run Tryd.prog W = .ok (.slice m.ad nn m.cap) W := row_upto byteK_ok m.ad m.f.b.length m.cap nn (by omega)
        go_upto_region 0 with fail
        refine wp_region_noPanic ?_
        refine wp_region_z [16] (fun (W : World) => W.cell? ⟨g, i * 3 + 1, none⟩ = some (.slice m.ad m.f.b.length m.cap) ∧ W.cell? ⟨g, i * 3 + 2, none⟩ = some (.int .i64 (m.f.lasts : Int))) (by kernel_rfl) ?_
        have hHeld : (fun (W : World) => W.cell? ⟨g, i * 3 + 1, none⟩ = some (.slice m.ad m.f.b.length m.cap) ∧ W.cell? ⟨g, i * 3 + 2, none⟩ = some (.int .i64 (m.f.lasts : Int))) _ := KS7.out _ hdrw
        obtain ⟨x0, hx0⟩ : ∃ u, u = wa.drew := ⟨_, rfl⟩
        rw [← hx0] at hHeld hdrw
        rw [← hx0]
        clear hx0
        have HX0 := Lib.hid hdrw
        clear hdrw
        refine wpAnyZ_take (i := 0) (oi := ⟨_, _, _, _, _, _⟩) (v := ?_) rfl (by kernel_rfl) (by kernel_rfl) (by kernel_rfl) (by kernel_rfl) (by kernel_rfl) (fun _ _ _ h => h) (Or.inl ⟨by rfl, ?_⟩) (by assumption) ?_
        rotate_left
        · intro W hSw
          (try dsimp only at hSw)
          go_simp
          (try with_reducible rfl)
        (try simp only [Act.put, List.setIfInBounds_toArray, List.set_cons_zero, List.set_cons_succ])
        refine wpAnyZ_take (i := 2) (oi := ⟨_, _, _, _, _, _⟩) (v := ?_) rfl (by kernel_rfl) (by kernel_rfl) (by kernel_rfl) (by kernel_rfl) (by kernel_rfl) (fun _ _ _ h => h) (Or.inl ⟨by rfl, ?_⟩) (by assumption) ?_
        rotate_left
        · intro W hSw
          (try dsimp only at hSw)
          go_simp
          (try with_reducible rfl)
        (try simp only [Act.put, List.setIfInBounds_toArray, List.set_cons_zero, List.set_cons_succ])
        refine wpAnyZ_take (i := 3) (oi := ⟨_, _, _, _, _, _⟩) (v := ?_) rfl (by kernel_rfl) (by kernel_rfl) (by kernel_rfl) (by kernel_rfl) (by kernel_rfl) (fun _ _ _ h => h) (Or.inl ⟨by rfl, ?_⟩) (by assumption) ?_
        rotate_left
        · intro W hSw
          (try dsimp only at hSw)
          go_simp
          (try with_reducible rfl)
        (try simp only [Act.put, List.setIfInBounds_toArray, List.set_cons_zero, List.set_cons_succ])
        refine wpAnyZ_take (i := 4) (oi := ⟨_, _, _, _, _, _⟩) (v := ?_) rfl (by kernel_rfl) (by kernel_rfl) (by kernel_rfl) (by kernel_rfl) (by kernel_rfl) (fun _ _ _ h => h) (Or.inl ⟨by rfl, ?_⟩) (by assumption) ?_
        rotate_left
        · intro W hSw
          (try dsimp only at hSw)
          go_simp
          (try with_reducible rfl)
        (try simp only [Act.put, List.setIfInBounds_toArray, List.set_cons_zero, List.set_cons_succ])
        refine wpAnyZ_take (i := 5) (oi := ⟨_, _, _, _, _, _⟩) (v := ?_) rfl (by kernel_rfl) (by kernel_rfl) (by kernel_rfl) (by kernel_rfl) (by kernel_rfl) (fun _ _ _ h => h) (Or.inl ⟨by rfl, ?_⟩) (by assumption) ?_
        rotate_left
        · intro W hSw
          (try dsimp only at hSw)
          go_simp
          (try with_reducible rfl)
        (try simp only [Act.put, List.setIfInBounds_toArray, List.set_cons_zero, List.set_cons_succ])
        refine wpAnyZ_take (i := 6) (oi := ⟨_, _, _, _, _, _⟩) (v := ?_) rfl (by kernel_rfl) (by kernel_rfl) (by kernel_rfl) (by kernel_rfl) (by kernel_rfl) (fun _ _ _ h => h) (Or.inl ⟨by rfl, ?_⟩) (by assumption) ?_
        rotate_left
        · intro W hSw
          (try dsimp only at hSw)
          go_simp
          (try with_reducible rfl)
        (try simp only [Act.put, List.setIfInBounds_toArray, List.set_cons_zero, List.set_cons_succ])
        refine wpAnyZ_take (i := 7) (oi := ⟨_, _, _, _, _, _⟩) (v := ?_) rfl (by kernel_rfl) (by kernel_rfl) (by kernel_rfl) (by kernel_rfl) (by kernel_rfl) (fun _ _ _ h => h) (Or.inl ⟨by rfl, ?_⟩) (by assumption) ?_
        rotate_left
        · intro W hSw
          (try dsimp only at hSw)
          go_simp
          (try with_reducible rfl)
        (try simp only [Act.put, List.setIfInBounds_toArray, List.set_cons_zero, List.set_cons_succ])
        refine wpAnyZ_take (i := 8) (oi := ⟨_, _, _, _, _, _⟩) (v := ?_) rfl (by kernel_rfl) (by kernel_rfl) (by kernel_rfl) (by kernel_rfl) (by kernel_rfl) (fun _ _ _ h => h) (Or.inl ⟨by rfl, ?_⟩) (by assumption) ?_
        rotate_left
        · intro W hSw
          (try dsimp only at hSw)
          go_simp
          (try with_reducible rfl)
        (try simp only [Act.put, List.setIfInBounds_toArray, List.set_cons_zero, List.set_cons_succ])
        refine wpAnyZ_take (i := 9) (oi := ⟨_, _, _, _, _, _⟩) (v := ?_) rfl (by kernel_rfl) (by kernel_rfl) (by kernel_rfl) (by kernel_rfl) (by kernel_rfl) (fun _ _ _ h => h) (Or.inl ⟨by rfl, ?_⟩) (by assumption) ?_
        rotate_left
        · intro W hSw
          (try dsimp only at hSw)
          go_simp
          (try with_reducible rfl)
        (try simp only [Act.put, List.setIfInBounds_toArray, List.set_cons_zero, List.set_cons_succ])
        refine wpAnyZ_take (i := 10) (oi := ⟨_, _, _, _, _, _⟩) (v := ?_) rfl (by kernel_rfl) (by kernel_rfl) (by kernel_rfl) (by kernel_rfl) (by kernel_rfl) (fun _ _ _ h => h) (Or.inl ⟨by rfl, ?_⟩) (by assumption) ?_
        rotate_left
        · intro W hSw
          (try dsimp only at hSw)
          go_simp
          (try with_reducible rfl)
        (try simp only [Act.put, List.setIfInBounds_toArray, List.set_cons_zero, List.set_cons_succ])
        refine wpAnyZ_take (i := 11) (oi := ⟨_, _, _, _, _, _⟩) (v := ?_) rfl (by kernel_rfl) (by kernel_rfl) (by kernel_rfl) (by kernel_rfl) (by kernel_rfl) (fun _ _ _ h => h) (Or.inl ⟨by rfl, ?_⟩) (by assumption) ?_
        rotate_left
        · intro W hSw
          (try dsimp only at hSw)
          go_simp
          (try with_reducible rfl)
        (try simp only [Act.put, List.setIfInBounds_toArray, List.set_cons_zero, List.set_cons_succ])
        refine wpAnyZ_take (i := 12) (oi := ⟨_, _, _, _, _, _⟩) (v := ?_) rfl (by kernel_rfl) (by kernel_rfl) (by kernel_rfl) (by kernel_rfl) (by kernel_rfl) (fun _ _ _ h => h) (Or.inl ⟨by rfl, ?_⟩) (by assumption) ?_
        rotate_left
        · intro W hSw
          (try dsimp only at hSw)
          go_simp
          (try with_reducible rfl)
        (try simp only [Act.put, List.setIfInBounds_toArray, List.set_cons_zero, List.set_cons_succ])
        refine wpAnyZ_ready (rs := [1]) (by kernel_rfl) (by simp) ?_
        refine AllReadyZ.cons (o := ⟨_, _, _, _, _, _⟩) rfl (fun C hC => ?_) AllReadyZ.nil
        go_simp
        obtain ⟨x1, hx1⟩ : ∃ u, u = x0.alloc (.cells #[] 5) := ⟨_, rfl⟩
        have hbb : Below x0.heap.size x0 x1 := by rw [hx1]; exact (Below.refl _ _).alloc (Nat.le_refl _) _
        have HX1 := Lib.hid (HX0.out.trans (hbb.mono HX0.out.size))
        obtain ⟨g1, hg1⟩ : ∃ G, G = x0.heap.size := ⟨_, rfl⟩
        have HY1 : Hid (OwnRow byteK x1 wa.heap.size (.slice (some ⟨g1, 0, none⟩) 0 0) []) := by show OwnRow _ _ _ _ _; rw [hx1, hg1]; exact ownRow_lit byteK_ok x0 _ [] HX0.out.size (by simp) _ rfl 0 rfl
        rw [← hx1, ← hg1]
        clear hx1 hg1 hbb
        have hHeld : (fun (W : World) => W.cell? ⟨g, i * 3 + 1, none⟩ = some (.slice m.ad m.f.b.length m.cap) ∧ W.cell? ⟨g, i * 3 + 2, none⟩ = some (.int .i64 (m.f.lasts : Int))) x1 := KS7.out _ HX1.out
        refine hC.out _ _ (fun _ => hHeld) (fun _ => ?_)
        clear hC C
        (try simp only [Act.put, List.setIfInBounds_toArray, List.set_cons_zero, List.set_cons_succ])
        refine wpAnyZ_ready (rs := [13]) (by kernel_rfl) (by simp) ?_
        refine AllReadyZ.cons (o := ⟨_, _, _, _, _, _⟩) rfl (fun C hC => ?_) AllReadyZ.nil
        refine held_row (by rfl) byteK_ok (.tmp 45) (.tmp 56) rfl wa.heap.size [] (m.f.b.take nn) _ rfl HY1.out HX1.out.size m.ad nn m.cap rfl (HUR.out.keep HX1.out) (by rw [List.length_nil]; omega) ?_
        rintro v2 x2 hap
        have hltk : (m.f.b.take nn).length = nn := by rw [List.length_take]; omega
        obtain ⟨ad1, cap1, hvx, hr1, hat1⟩ := OwnRow.row2 byteK_ok hap.1 hltk
        subst hvx
        have HX2 : Hid (Below wa.heap.size wa x2) := HX1.out.grown hap.2.1 HX1.out.size fun q hq => (HY1.out.lt q hq).1
        have HY2 : Hid (OwnRow byteK x2 wa.heap.size (.slice ad1 nn cap1) (m.f.b.take nn)) := hap.1
        have HRW : Hid (RowAt byteK x2 ad1 nn cap1 (m.f.b.take nn)) := hr1
        have HAD : Hid (∀ a, ad1 = some a → wa.heap.size ≤ a.block ∧ a.block < x2.heap.size) := hat1
        have hadx : ∃ gb, ad1 = some ⟨gb, 0, none⟩ := by
          rcases hap.1.2 with ⟨e, _⟩ | ⟨gb, c, cur, e, _⟩
          · exact absurd e (hap.2.2.1 (by intro e0; have e1 : (Value.slice (some ⟨g1, 0, none⟩) 0 0) = .slice none 0 0 := e0; cases e1))
          · injection e with h1 h2 h3
            exact ⟨_, h1⟩
        have HADX := Lib.hid hadx
        clear hap hr1 hat1 hadx
        have hHeld : (fun (W : World) => W.cell? ⟨g, i * 3 + 1, none⟩ = some (.slice m.ad m.f.b.length m.cap) ∧ W.cell? ⟨g, i * 3 + 2, none⟩ = some (.int .i64 (m.f.lasts : Int))) x2 := KS7.out _ HX2.out
        refine hC.out _ _ (fun _ => hHeld) (fun _ => ?_)
        clear hC C
        (try simp only [Act.put, List.setIfInBounds_toArray, List.set_cons_zero, List.set_cons_succ])
        refine wpAnyZ_take (i := 14) (oi := ⟨_, _, _, _, _, _⟩) (v := ?_) rfl (by kernel_rfl) (by kernel_rfl) (by kernel_rfl) (by kernel_rfl) (by kernel_rfl) (fun _ _ _ h => h) (Or.inl ⟨by rfl, ?_⟩) (by assumption) ?_
        rotate_left
        · intro W hSw
          (try dsimp only at hSw)
          go_simp
          (try with_reducible rfl)
        (try simp only [Act.put, List.setIfInBounds_toArray, List.set_cons_zero, List.set_cons_succ])
        refine wpAnyZ_take (i := 15) (oi := ⟨_, _, _, _, _, _⟩) (v := ?_) rfl (by kernel_rfl) (by kernel_rfl) (by kernel_rfl) (by kernel_rfl) (by kernel_rfl) (fun _ _ _ h => h) (Or.inl ⟨by rfl, ?_⟩) (by assumption) ?_
        rotate_left
        · intro W hSw
          (try dsimp only at hSw)
          go_simp
          (try with_reducible rfl)
        (try simp only [Act.put, List.setIfInBounds_toArray, List.set_cons_zero, List.set_cons_succ])
        have t0 := ((HOKA.out.keep HX2.out).cells HM.out).2.2.2.2.1
        have t1 := ((HOKA.out.keep HX2.out).cells HM.out).2.2.2.2.2.2 (i * 3 + 1)
        refine wpAnyZ_ready (rs := [16]) (by kernel_rfl) (by simp) ?_
        refine AllReadyZ.cons (o := ⟨_, _, _, _, _, _⟩) rfl (fun C hC => ?_) AllReadyZ.nil
        go_simp
        refine hC.out _ _ (zfree_no (by kernel_rfl)) (fun _ => ?_)
        clear hC C
        (try simp only [Act.put, List.setIfInBounds_toArray, List.set_cons_zero, List.set_cons_succ])
        refine wpAnyZ_done (by kernel_rfl) ?_ _
        refine NoPanic.normal ?_
        obtain ⟨wz, hwz⟩ : ∃ wz, wz = x2.setCell ⟨g, i * 3 + 1, none⟩ (.slice ad1 nn cap1) := ⟨_, rfl⟩
        have H3 := HOKA.out.keep HX2.out
        have hgwa : g < wa.heap.size := Nat.lt_of_lt_of_le hgw HU.out.size
        have hkfw := HOKA.out.box.lt
        have HZ : Hid (FsOk wz kf (.slice (some ⟨g, 0, none⟩) len2 cap) left done (msi.set i ⟨{ m.f with b := m.f.b.take nn }, ad1, cap1⟩)) := by
          show FsOk _ _ _ _ _ _
          rw [hwz]
          exact H3.stored HM.out 1 _ (by omega) (by simp [flK, hltk]) (by rw [hltk]; exact HRW.out) (take_all (HOKA.out.ins m (List.mem_of_getElem? HM.out)).2 nn) fun a ha => ⟨by have := (HAD.out a ha).1; omega, (HAD.out a ha).2, fun e => by have := (HAD.out a ha).1; omega⟩
        have HKZ : Hid (KeptFs wo wz kf (.slice (some ⟨g, 0, none⟩) len2 cap)) := by
          show KeptFs _ _ _ _
          rw [hwz]
          exact (kept_grown (grow_below (grow_below (grow_refl wo _) HU.out) HX2.out)).trans (newOr_refl _ _) (kept_store x2 kf g len2 cap _ _)
        have HYZ : Hid (OwnRow byteK wz wa.heap.size (.slice ad1 nn cap1) (m.f.b.take nn)) := by show OwnRow _ _ _ _ _; rw [hwz]; exact HY2.out.off hgwa _ _
        have HOTH : Hid (∀ (j : Nat) x, j ≠ i → (msi.set i ⟨{ m.f with b := m.f.b.take nn }, ad1, cap1⟩)[j]? = some x → ∀ a, x.ad = some a → a.block < wa.heap.size) := by
          intro j x hji hx a ha
          rw [List.getElem?_set_ne (fun e => hji e.symm)] at hx
          exact (HOKA.out.apart x (List.mem_of_getElem? hx) a ha).2.1
        try rw [← hwz]
        clear hwz t0 t1 hHeld H3 hup KS7 HUR HRW HX2 HY2 HX1 HY1 HX0 c0 c1 c2 b0 b9
        have hbw : (m.f.b.take nn).length = nn := hltk
        by_cases hig : i < glen
        · have hdg : decide ((i : Int) < (glen : Int)) = true := decide_eq_true (by omega)
          obtain ⟨gb, hgb0⟩ := HADX.out
          subst hgb0
          obtain ⟨gbk, goff, gx, hgad, hgbkw, hgx, cg⟩ := byte_get HGA.out hig
          subst hgad
          have hgx8 := hga gx (List.mem_of_getElem? hgx)
          have cgz : wz.cell? ⟨gbk, goff + i, none⟩ = some (.int .u8 (gx : Int)) := (cell_same (HKZ.out.block gbk hgbkw (hgb _ rfl (by omega)).1 (by rw [← hv2]; exact (hgb _ rfl (by omega)).2))).trans cg
          have hgbwa : wa.heap.size ≤ gb := (HAD.out _ rfl).1
          have hgne : g ≠ gb := by omega
          have hgkne : gbk ≠ gb := by have := HU.out.size; omega
          have HC := HZ.out.cells (m := ⟨{ m.f with b := m.f.b.take nn }, some ⟨gb, 0, none⟩, cap1⟩) (i := i) (List.getElem?_set_self (by omega))
          have d1 := HC.2.2.2.2.1
          have d2 := HC.2.2.2.2.2.1
          have hgwz := HC.2.2.1
          simp only [hbw] at d1
          simp only at d2
          have HD1 := Lib.hid d1
          have HCG := Lib.hid cgz
          have hgkz : gbk < wz.heap.size := World.block_lt_of_cell? _ _ cgz
          have KS9 : Hid (∀ W, Below wz.heap.size wz W → (fun (W : World) => W.cell? ⟨g, i * 3 + 1, none⟩ = some (.slice (some ⟨gb, 0, none⟩) nn cap1) ∧ W.cell? ⟨g, i * 3 + 2, none⟩ = some (.int .i64 (m.f.lasts : Int))) W) := fun W hW => ⟨(hW.cell (p := ⟨g, i * 3 + 1, none⟩) hgwz).trans d1, (hW.cell (p := ⟨g, i * 3 + 2, none⟩) hgwz).trans d2⟩
          have hdrw : Below wz.heap.size wz wz.drew := (Below.refl _ wz).drew
          have hw3 : IntKind.i64.wrap ((nn : Int) - 64) = (nn : Int) - 64 := IntWalk.i64_in _ (by omega)
          have b9 := HZ.out.box.c0
          have hlnn : m.f.lasts ≤ nn := by have := HNN.out; omega
          clear HC cg
          go_upto_region 0 with fail
          refine wp_region_noPanic ?_
          refine wp_region_z [] (fun (W : World) => W.cell? ⟨g, i * 3 + 1, none⟩ = some (.slice (some ⟨gb, 0, none⟩) nn cap1) ∧ W.cell? ⟨g, i * 3 + 2, none⟩ = some (.int .i64 (m.f.lasts : Int))) (by kernel_rfl) ?_
          have hHeld : (fun (W : World) => W.cell? ⟨g, i * 3 + 1, none⟩ = some (.slice (some ⟨gb, 0, none⟩) nn cap1) ∧ W.cell? ⟨g, i * 3 + 2, none⟩ = some (.int .i64 (m.f.lasts : Int))) _ := KS9.out _ hdrw
          obtain ⟨y0, hy0⟩ : ∃ u, u = wz.drew := ⟨_, rfl⟩
          rw [← hy0] at hHeld hdrw
          rw [← hy0]
          clear hy0
          have HU9 := Lib.hid hdrw
          clear hdrw
          refine wpAnyZ_take (i := 0) (oi := ⟨_, _, _, _, _, _⟩) (v := ?_) rfl (by kernel_rfl) (by kernel_rfl) (by kernel_rfl) (by kernel_rfl) (by kernel_rfl) (fun _ _ _ h => h) (Or.inl ⟨by rfl, ?_⟩) (by assumption) ?_
          rotate_left
          · intro W hSw
            (try dsimp only at hSw)
            go_simp
            (try with_reducible rfl)
          (try simp only [Act.put, List.setIfInBounds_toArray, List.set_cons_zero, List.set_cons_succ])
          refine wpAnyZ_take (i := 1) (oi := ⟨_, _, _, _, _, _⟩) (v := ?_) rfl (by kernel_rfl) (by kernel_rfl) (by kernel_rfl) (by kernel_rfl) (by kernel_rfl) (fun _ _ _ h => h) (Or.inl ⟨by rfl, ?_⟩) (by assumption) ?_
          rotate_left
          · intro W hSw
            (try dsimp only at hSw)
            go_simp
            (try with_reducible rfl)
          (try simp only [Act.put, List.setIfInBounds_toArray, List.set_cons_zero, List.set_cons_succ])
          refine wpAnyZ_take (i := 2) (oi := ⟨_, _, _, _, _, _⟩) (v := ?_) rfl (by kernel_rfl) (by kernel_rfl) (by kernel_rfl) (by kernel_rfl) (by kernel_rfl) (fun _ _ _ h => h) (Or.inl ⟨by rfl, ?_⟩) (by assumption) ?_
          rotate_left
          · intro W hSw
            (try dsimp only at hSw)
            go_simp
            (try with_reducible rfl)
          (try simp only [Act.put, List.setIfInBounds_toArray, List.set_cons_zero, List.set_cons_succ])
          refine wpAnyZ_take (i := 3) (oi := ⟨_, _, _, _, _, _⟩) (v := ?_) rfl (by kernel_rfl) (by kernel_rfl) (by kernel_rfl) (by kernel_rfl) (by kernel_rfl) (fun _ _ _ h => h) (Or.inl ⟨by rfl, ?_⟩) (by assumption) ?_
          rotate_left
          · intro W hSw
            (try dsimp only at hSw)
            go_simp
            (try with_reducible rfl)
          (try simp only [Act.put, List.setIfInBounds_toArray, List.set_cons_zero, List.set_cons_succ])
          refine wpAnyZ_take (i := 4) (oi := ⟨_, _, _, _, _, _⟩) (v := ?_) rfl (by kernel_rfl) (by kernel_rfl) (by kernel_rfl) (by kernel_rfl) (by kernel_rfl) (fun _ _ _ h => h) (Or.inl ⟨by rfl, ?_⟩) (by assumption) ?_
          rotate_left
          · intro W hSw
            (try dsimp only at hSw)
            go_simp
            (try with_reducible rfl)
          (try simp only [Act.put, List.setIfInBounds_toArray, List.set_cons_zero, List.set_cons_succ])
          refine wpAnyZ_take (i := 5) (oi := ⟨_, _, _, _, _, _⟩) (v := ?_) rfl (by kernel_rfl) (by kernel_rfl) (by kernel_rfl) (by kernel_rfl) (by kernel_rfl) (fun _ _ _ h => h) (Or.inl ⟨by rfl, ?_⟩) (by assumption) ?_
          rotate_left
          · intro W hSw
            (try dsimp only at hSw)
            go_simp
            (try with_reducible rfl)
          (try simp only [Act.put, List.setIfInBounds_toArray, List.set_cons_zero, List.set_cons_succ])
          refine wpAnyZ_take (i := 6) (oi := ⟨_, _, _, _, _, _⟩) (v := ?_) rfl (by kernel_rfl) (by kernel_rfl) (by kernel_rfl) (by kernel_rfl) (by kernel_rfl) (fun _ _ _ h => h) (Or.inl ⟨by rfl, ?_⟩) (by assumption) ?_
          rotate_left
          · intro W hSw
            (try dsimp only at hSw)
            go_simp
            (try with_reducible rfl)
          (try simp only [Act.put, List.setIfInBounds_toArray, List.set_cons_zero, List.set_cons_succ])
          refine wpAnyZ_take (i := 7) (oi := ⟨_, _, _, _, _, _⟩) (v := ?_) rfl (by kernel_rfl) (by kernel_rfl) (by kernel_rfl) (by kernel_rfl) (by kernel_rfl) (fun _ _ _ h => h) (Or.inl ⟨by rfl, ?_⟩) (by assumption) ?_
          rotate_left
          · intro W hSw
            (try dsimp only at hSw)
            go_simp
            (try with_reducible rfl)
          (try simp only [Act.put, List.setIfInBounds_toArray, List.set_cons_zero, List.set_cons_succ])
          refine wpAnyZ_take (i := 8) (oi := ⟨_, _, _, _, _, _⟩) (v := ?_) rfl (by kernel_rfl) (by kernel_rfl) (by kernel_rfl) (by kernel_rfl) (by kernel_rfl) (fun _ _ _ h => h) (Or.inl ⟨by rfl, ?_⟩) (by assumption) ?_
          rotate_left
          · intro W hSw
            (try dsimp only at hSw)
            go_simp
            (try with_reducible rfl)
          (try simp only [Act.put, List.setIfInBounds_toArray, List.set_cons_zero, List.set_cons_succ])
          refine wpAnyZ_take (i := 9) (oi := ⟨_, _, _, _, _, _⟩) (v := ?_) rfl (by kernel_rfl) (by kernel_rfl) (by kernel_rfl) (by kernel_rfl) (by kernel_rfl) (fun _ _ _ h => h) (Or.inl ⟨by rfl, ?_⟩) (by assumption) ?_
          rotate_left
          · intro W hSw
            (try dsimp only at hSw)
            go_simp
            (try with_reducible rfl)
          (try simp only [Act.put, List.setIfInBounds_toArray, List.set_cons_zero, List.set_cons_succ])
          refine wpAnyZ_take (i := 10) (oi := ⟨_, _, _, _, _, _⟩) (v := ?_) rfl (by kernel_rfl) (by kernel_rfl) (by kernel_rfl) (by kernel_rfl) (by kernel_rfl) (fun _ _ _ h => h) (Or.inl ⟨by rfl, ?_⟩) (by assumption) ?_
          rotate_left
          · intro W hSw
            (try dsimp only at hSw)
            go_simp
            (try with_reducible rfl)
          (try simp only [Act.put, List.setIfInBounds_toArray, List.set_cons_zero, List.set_cons_succ])
          refine wpAnyZ_take (i := 11) (oi := ⟨_, _, _, _, _, _⟩) (v := ?_) rfl (by kernel_rfl) (by kernel_rfl) (by kernel_rfl) (by kernel_rfl) (by kernel_rfl) (fun _ _ _ h => h) (Or.inl ⟨by rfl, ?_⟩) (by assumption) ?_
          rotate_left
          · intro W hSw
            (try dsimp only at hSw)
            go_simp
            (try with_reducible rfl)
          (try simp only [Act.put, List.setIfInBounds_toArray, List.set_cons_zero, List.set_cons_succ])
          refine wpAnyZ_done (by kernel_rfl) ?_ _
          refine NoPanic.normal ?_
          clear hHeld
          obtain ⟨s0, hs0⟩ : ∃ x, x = max m.f.lasts (nn - 64) := ⟨_, rfl⟩
          have hse : (if (m.f.lasts : Int) < (nn : Int) - 64 then (nn : Int) - 64 else (m.f.lasts : Int)) = (s0 : Int) := by
            rw [hs0]
            split <;> omega
          rw [hse]
          have hs0n : s0 ≤ nn := by omega
          have HS0 := Lib.hid hs0
          obtain ⟨b1, hb1⟩ : ∃ x, x = m.f.b.take nn := ⟨_, rfl⟩
          have hb1l : b1.length = nn := by rw [hb1]; exact hbw
          have hb1a : AllB b1 := by rw [hb1]; exact take_all (HOKA.out.ins m (List.mem_of_getElem? HM.out)).2 nn
          rw [← hb1] at HYZ HOTH HZ
          have HB1 := Lib.hid hb1
          clear hse hs0 hb1 hbw d1 d2 cgz KS9 b9 hw3 hltk
          go_wp2
          go_loopw [9] (fun v9 wr => ∃ j : Nat, v9 = .int .i64 (j : Int) ∧ s0 ≤ j ∧ j ≤ nn ∧ Hid (OwnRow byteK wr wa.heap.size (.slice (some ⟨gb, 0, none⟩) nn cap1) (xorTo b1 s0 j gx)) ∧ Hid (wz.grownBy wr (some gb))) (fun v9 _ => nn - (intOf v9).toNat)
          case atStart => exact ⟨s0, rfl, Nat.le_refl _, hs0n, by show OwnRow _ _ _ _ _; rw [xorTo_start]; exact HYZ.out.on (HU9.out), grow_below (grow_refl wz _) HU9.out⟩
          case round =>
            obtain ⟨j, rfl, hj0, hj1, HYJ, HGJ⟩ := hrel
            obtain ⟨wi, hwi2⟩ : ∃ wi : World, wi = wr := ⟨_, rfl⟩
            subst hwi2
            have d1 : wi.cell? ⟨g, i * 3 + 1, none⟩ = some (.slice (some ⟨gb, 0, none⟩) nn cap1) := HGJ.out.cell HD1.out (fun e => hgne (Option.some.inj e))
            have hxl : (xorTo b1 s0 j gx).length = nn := by rw [xorTo_len]; exact hb1l
            by_cases hjlt : j < nn
            · have hdj : decide ((j : Int) < (nn : Int)) = true := decide_eq_true (by omega)
              have hjl2 : (j : Int) < (nn : Int) := by omega
              obtain ⟨ax, cx, ex, hrx, _⟩ := OwnRow.row2 byteK_ok HYJ.out hxl
              cases ex
              obtain ⟨bk, ok, x, ex2, hbk, hxj, cx⟩ := byte_get hrx hjlt
              cases ex2
              rw [Nat.zero_add] at cx
              obtain ⟨gq, cq, curq, eq, hhq, _, _⟩ := own_block2 HYJ.out hxl (by omega)
              cases eq
              have hgwi : g < wi.heap.size := Nat.lt_of_lt_of_le hgwz HGJ.out.size
              have hgki : gbk < wi.heap.size := Nat.lt_of_lt_of_le hgkz HGJ.out.size
              have cg2 : wi.cell? ⟨gbk, goff + i, none⟩ = some (.int .u8 (gx : Int)) := HGJ.out.cell HCG.out (fun e => hgkne (Option.some.inj e))
              have KS12 : Hid (∀ W, Below wi.heap.size wi W → (fun (W : World) => W.cell? ⟨g, i * 3 + 1, none⟩ = some (.slice (some ⟨gb, 0, none⟩) nn cap1) ∧ W.cell? ⟨gb, j, none⟩ = some (.int .u8 (x : Int)) ∧ W.cell? ⟨gbk, goff + i, none⟩ = some (.int .u8 (gx : Int))) W) := fun W hW => ⟨(hW.cell (p := ⟨g, i * 3 + 1, none⟩) hgwi).trans d1, (hW.cell (p := ⟨gb, j, none⟩) hbk).trans cx, (hW.cell (p := ⟨gbk, goff + i, none⟩) hgki).trans cg2⟩
              have KF12 : Hid (∀ W, Below wi.heap.size wi W → W.frozen? ⟨gb, j, none⟩ = false) := fun W hW => frozen_of_row W gb j _ _ ((hW.block gb hbk).trans hhq)
              have hdrw : Below wi.heap.size wi wi.drew := (Below.refl _ wi).drew
              have hig3 : (i : Int) < (glen : Int) := by omega
              have hxo : x < 256 := by
                have h1 : (xorTo b1 s0 j gx)[j]? = some x := hxj
                exact xorTo_all hb1a hgx8 x (List.mem_of_getElem? h1)
              have hb1x : b1[j]? = some x := by
                have h1 : (xorTo b1 s0 j gx)[j]? = some x := hxj
                rw [xorTo_get] at h1
                cases hy : b1[j]? with
                | none => rw [hy] at h1; cases h1
                | some y =>
                  rw [hy] at h1
                  simp only [Option.map_some] at h1
                  rw [if_neg (by omega)] at h1
                  exact h1
              have HBX := Lib.hid hb1x
              clear hrx hhq hxj hb1x
              go_upto_region 0 with fail
              refine wp_region_noPanic ?_
              refine wp_region_z [18] (fun (W : World) => W.cell? ⟨g, i * 3 + 1, none⟩ = some (.slice (some ⟨gb, 0, none⟩) nn cap1) ∧ W.cell? ⟨gb, j, none⟩ = some (.int .u8 (x : Int)) ∧ W.cell? ⟨gbk, goff + i, none⟩ = some (.int .u8 (gx : Int))) (by kernel_rfl) ?_
              have hHeld : (fun (W : World) => W.cell? ⟨g, i * 3 + 1, none⟩ = some (.slice (some ⟨gb, 0, none⟩) nn cap1) ∧ W.cell? ⟨gb, j, none⟩ = some (.int .u8 (x : Int)) ∧ W.cell? ⟨gbk, goff + i, none⟩ = some (.int .u8 (gx : Int))) _ := KS12.out _ hdrw
              obtain ⟨z0, hz0⟩ : ∃ u, u = wi.drew := ⟨_, rfl⟩
              rw [← hz0] at hHeld hdrw
              rw [← hz0]
              clear hz0
              have HZ0 := Lib.hid hdrw
              clear hdrw
              refine wpAnyZ_take (i := 0) (oi := ⟨_, _, _, _, _, _⟩) (v := ?_) rfl (by kernel_rfl) (by kernel_rfl) (by kernel_rfl) (by kernel_rfl) (by kernel_rfl) (fun _ _ _ h => h) (Or.inl ⟨by rfl, ?_⟩) (by assumption) ?_
              rotate_left
              · intro W hSw
                (try dsimp only at hSw)
                go_simp
                (try with_reducible rfl)
              (try simp only [Act.put, List.setIfInBounds_toArray, List.set_cons_zero, List.set_cons_succ])
              refine wpAnyZ_take (i := 1) (oi := ⟨_, _, _, _, _, _⟩) (v := ?_) rfl (by kernel_rfl) (by kernel_rfl) (by kernel_rfl) (by kernel_rfl) (by kernel_rfl) (fun _ _ _ h => h) (Or.inl ⟨by rfl, ?_⟩) (by assumption) ?_
              rotate_left
              · intro W hSw
                (try dsimp only at hSw)
                go_simp
                (try with_reducible rfl)
              (try simp only [Act.put, List.setIfInBounds_toArray, List.set_cons_zero, List.set_cons_succ])
              refine wpAnyZ_take (i := 2) (oi := ⟨_, _, _, _, _, _⟩) (v := ?_) rfl (by kernel_rfl) (by kernel_rfl) (by kernel_rfl) (by kernel_rfl) (by kernel_rfl) (fun _ _ _ h => h) (Or.inl ⟨by rfl, ?_⟩) (by assumption) ?_
              rotate_left
              · intro W hSw
                (try dsimp only at hSw)
                go_simp
                (try with_reducible rfl)
              (try simp only [Act.put, List.setIfInBounds_toArray, List.set_cons_zero, List.set_cons_succ])
              refine wpAnyZ_take (i := 3) (oi := ⟨_, _, _, _, _, _⟩) (v := ?_) rfl (by kernel_rfl) (by kernel_rfl) (by kernel_rfl) (by kernel_rfl) (by kernel_rfl) (fun _ _ _ h => h) (Or.inl ⟨by rfl, ?_⟩) (by assumption) ?_
              rotate_left
              · intro W hSw
                (try dsimp only at hSw)
                go_simp
                (try with_reducible rfl)
              (try simp only [Act.put, List.setIfInBounds_toArray, List.set_cons_zero, List.set_cons_succ])
              refine wpAnyZ_take (i := 4) (oi := ⟨_, _, _, _, _, _⟩) (v := ?_) rfl (by kernel_rfl) (by kernel_rfl) (by kernel_rfl) (by kernel_rfl) (by kernel_rfl) (fun _ _ _ h => h) (Or.inl ⟨by rfl, ?_⟩) (by assumption) ?_
              rotate_left
              · intro W hSw
                (try dsimp only at hSw)
                go_simp
                (try with_reducible rfl)
              (try simp only [Act.put, List.setIfInBounds_toArray, List.set_cons_zero, List.set_cons_succ])
              refine wpAnyZ_take (i := 5) (oi := ⟨_, _, _, _, _, _⟩) (v := ?_) rfl (by kernel_rfl) (by kernel_rfl) (by kernel_rfl) (by kernel_rfl) (by kernel_rfl) (fun _ _ _ h => h) (Or.inl ⟨by rfl, ?_⟩) (by assumption) ?_
              rotate_left
              · intro W hSw
                (try dsimp only at hSw)
                go_simp
                (try with_reducible rfl)
              (try simp only [Act.put, List.setIfInBounds_toArray, List.set_cons_zero, List.set_cons_succ])
              refine wpAnyZ_take (i := 6) (oi := ⟨_, _, _, _, _, _⟩) (v := ?_) rfl (by kernel_rfl) (by kernel_rfl) (by kernel_rfl) (by kernel_rfl) (by kernel_rfl) (fun _ _ _ h => h) (Or.inl ⟨by rfl, ?_⟩) (by assumption) ?_
              rotate_left
              · intro W hSw
                (try dsimp only at hSw)
                go_simp
                (try with_reducible rfl)
              (try simp only [Act.put, List.setIfInBounds_toArray, List.set_cons_zero, List.set_cons_succ])
              refine wpAnyZ_take (i := 7) (oi := ⟨_, _, _, _, _, _⟩) (v := ?_) rfl (by kernel_rfl) (by kernel_rfl) (by kernel_rfl) (by kernel_rfl) (by kernel_rfl) (fun _ _ _ h => h) (Or.inl ⟨by rfl, ?_⟩) (by assumption) ?_
              rotate_left
              · intro W hSw
                (try dsimp only at hSw)
                go_simp
                (try with_reducible rfl)
              (try simp only [Act.put, List.setIfInBounds_toArray, List.set_cons_zero, List.set_cons_succ])
              refine wpAnyZ_take (i := 8) (oi := ⟨_, _, _, _, _, _⟩) (v := ?_) rfl (by kernel_rfl) (by kernel_rfl) (by kernel_rfl) (by kernel_rfl) (by kernel_rfl) (fun _ _ _ h => h) (Or.inl ⟨by rfl, ?_⟩) (by assumption) ?_
              rotate_left
              · intro W hSw
                (try dsimp only at hSw)
                go_simp
                (try with_reducible rfl)
              (try simp only [Act.put, List.setIfInBounds_toArray, List.set_cons_zero, List.set_cons_succ])
              refine wpAnyZ_take (i := 9) (oi := ⟨_, _, _, _, _, _⟩) (v := ?_) rfl (by kernel_rfl) (by kernel_rfl) (by kernel_rfl) (by kernel_rfl) (by kernel_rfl) (fun _ _ _ h => h) (Or.inl ⟨by rfl, ?_⟩) (by assumption) ?_
              rotate_left
              · intro W hSw
                (try dsimp only at hSw)
                go_simp
                (try with_reducible rfl)
              (try simp only [Act.put, List.setIfInBounds_toArray, List.set_cons_zero, List.set_cons_succ])
              refine wpAnyZ_take (i := 10) (oi := ⟨_, _, _, _, _, _⟩) (v := ?_) rfl (by kernel_rfl) (by kernel_rfl) (by kernel_rfl) (by kernel_rfl) (by kernel_rfl) (fun _ _ _ h => h) (Or.inl ⟨by rfl, ?_⟩) (by assumption) ?_
              rotate_left
              · intro W hSw
                (try dsimp only at hSw)
                go_simp
                (try with_reducible rfl)
              (try simp only [Act.put, List.setIfInBounds_toArray, List.set_cons_zero, List.set_cons_succ])
              refine wpAnyZ_take (i := 11) (oi := ⟨_, _, _, _, _, _⟩) (v := ?_) rfl (by kernel_rfl) (by kernel_rfl) (by kernel_rfl) (by kernel_rfl) (by kernel_rfl) (fun _ _ _ h => h) (Or.inl ⟨by rfl, ?_⟩) (by assumption) ?_
              rotate_left
              · intro W hSw
                (try dsimp only at hSw)
                go_simp
                (try with_reducible rfl)
              (try simp only [Act.put, List.setIfInBounds_toArray, List.set_cons_zero, List.set_cons_succ])
              refine wpAnyZ_take (i := 12) (oi := ⟨_, _, _, _, _, _⟩) (v := ?_) rfl (by kernel_rfl) (by kernel_rfl) (by kernel_rfl) (by kernel_rfl) (by kernel_rfl) (fun _ _ _ h => h) (Or.inl ⟨by rfl, ?_⟩) (by assumption) ?_
              rotate_left
              · intro W hSw
                (try dsimp only at hSw)
                go_simp
                (try with_reducible rfl)
              (try simp only [Act.put, List.setIfInBounds_toArray, List.set_cons_zero, List.set_cons_succ])
              refine wpAnyZ_take (i := 13) (oi := ⟨_, _, _, _, _, _⟩) (v := ?_) rfl (by kernel_rfl) (by kernel_rfl) (by kernel_rfl) (by kernel_rfl) (by kernel_rfl) (fun _ _ _ h => h) (Or.inl ⟨by rfl, ?_⟩) (by assumption) ?_
              rotate_left
              · intro W hSw
                (try dsimp only at hSw)
                go_simp
                (try with_reducible rfl)
              (try simp only [Act.put, List.setIfInBounds_toArray, List.set_cons_zero, List.set_cons_succ])
              refine wpAnyZ_take (i := 14) (oi := ⟨_, _, _, _, _, _⟩) (v := ?_) rfl (by kernel_rfl) (by kernel_rfl) (by kernel_rfl) (by kernel_rfl) (by kernel_rfl) (fun _ _ _ h => h) (Or.inl ⟨by rfl, ?_⟩) (by assumption) ?_
              rotate_left
              · intro W hSw
                (try dsimp only at hSw)
                go_simp
                (try with_reducible rfl)
              (try simp only [Act.put, List.setIfInBounds_toArray, List.set_cons_zero, List.set_cons_succ])
              refine wpAnyZ_take (i := 15) (oi := ⟨_, _, _, _, _, _⟩) (v := ?_) rfl (by kernel_rfl) (by kernel_rfl) (by kernel_rfl) (by kernel_rfl) (by kernel_rfl) (fun _ _ _ h => h) (Or.inl ⟨by rfl, ?_⟩) (by assumption) ?_
              rotate_left
              · intro W hSw
                (try dsimp only at hSw)
                go_simp
                (try with_reducible rfl)
              (try simp only [Act.put, List.setIfInBounds_toArray, List.set_cons_zero, List.set_cons_succ])
              refine wpAnyZ_take (i := 16) (oi := ⟨_, _, _, _, _, _⟩) (v := ?_) rfl (by kernel_rfl) (by kernel_rfl) (by kernel_rfl) (by kernel_rfl) (by kernel_rfl) (fun _ _ _ h => h) (Or.inl ⟨by rfl, ?_⟩) (by assumption) ?_
              rotate_left
              · intro W hSw
                (try dsimp only at hSw)
                go_simp
                (try with_reducible rfl)
              (try simp only [Act.put, List.setIfInBounds_toArray, List.set_cons_zero, List.set_cons_succ])
              refine wpAnyZ_take (i := 17) (oi := ⟨_, _, _, _, _, _⟩) (v := ?_) rfl (by kernel_rfl) (by kernel_rfl) (by kernel_rfl) (by kernel_rfl) (by kernel_rfl) (fun _ _ _ h => h) (Or.inl ⟨by rfl, ?_⟩) (by assumption) ?_
              rotate_left
              · intro W hSw
                (try dsimp only at hSw)
                go_simp
                (try with_reducible rfl)
              (try simp only [Act.put, List.setIfInBounds_toArray, List.set_cons_zero, List.set_cons_succ])
              have t0 := (KS12.out _ HZ0.out).2.1
              have t1 := KF12.out _ HZ0.out
              refine wpAnyZ_ready (rs := [18]) (by kernel_rfl) (by simp) ?_
              refine AllReadyZ.cons (o := ⟨_, _, _, _, _, _⟩) rfl (fun C hC => ?_) AllReadyZ.nil
              go_simp
              refine hC.out _ _ (zfree_no (by kernel_rfl)) (fun _ => ?_)
              clear hC C
              (try simp only [Act.put, List.setIfInBounds_toArray, List.set_cons_zero, List.set_cons_succ])
              refine wpAnyZ_done (by kernel_rfl) ?_ _
              refine NoPanic.normal ?_
              have hxo2 : bits BinOp.xor IntKind.u8 (x : Int) (gx : Int) = ((x ^^^ gx : Nat) : Int) := u8_xor_nat x gx hxo hgx8
              obtain ⟨wy, hwy⟩ : ∃ wy, wy = z0.setCell ⟨gb, j, none⟩ (.int .u8 (bits BinOp.xor IntKind.u8 (x : Int) (gx : Int))) := ⟨_, rfl⟩
              have HYN : Hid (OwnRow byteK wy wa.heap.size (.slice (some ⟨gb, 0, none⟩) nn cap1) (xorTo b1 s0 (j + 1) gx)) := by
                show OwnRow _ _ _ _ _
                have h1 := own_bytes.1 (HYJ.out.on HZ0.out)
                rw [hxl] at h1
                have h2 := own_turned (k := j) (y := x ^^^ gx) h1 hxo2
                rw [hwy]
                have e : (xorTo b1 s0 j gx).set j (x ^^^ gx) = xorTo b1 s0 (j + 1) gx := xorTo_step HBX.out hj0
                rw [e] at h2
                refine own_bytes.2 ?_
                rw [xorTo_len, hb1l]
                exact h2
              have HGN : Hid (wz.grownBy wy (some gb)) := by show World.grownBy _ _ _; rw [hwy]; exact grow_set (grow_below HGJ.out HZ0.out) j _
              try rw [← hwy]
              clear hwy t0 t1 hHeld hxo2
              go_wp2
              go_roundw
              case rel => exact ⟨j + 1, by go_num, by omega, by omega, HYN.out, HGN.out⟩
              case measure => simp [intOf]; omega
            · have hdj : decide ((j : Int) < (nn : Int)) = false := decide_eq_false (by omega)
              obtain ⟨bq, hbq⟩ : ∃ x, x = xorTo b1 s0 j gx := ⟨_, rfl⟩
              have hbl2 : bq.length = nn := by rw [hbq]; exact hxl
              have HCO : Hid (({ m.f with b := bq, lasts := nn } : Fl) = crashOne m.f (ks[i]?.getD 0) gs[i]?) := by
                show _ = _
                rw [hgx]
                unfold crashOne
                simp only
                rw [← HNN.out, ← HB1.out, hb1l, ← HS0.out, ← xorTo_end b1 s0 j gx (by omega), ← hbq, hbl2]
              have HQ : Hid (FsOk wi kf (.slice (some ⟨g, 0, none⟩) len2 cap) left done (msi.set i ⟨{ m.f with b := bq }, some ⟨gb, 0, none⟩, cap1⟩)) := by
                show FsOk _ _ _ _ _ _
                have h5 := HZ.out.reborn (m := ⟨{ m.f with b := b1 }, some ⟨gb, 0, none⟩, cap1⟩) (i := i) (List.getElem?_set_self (by omega)) rfl rfl hb1l hxl HGJ.out HYJ.out (xorTo_all hb1a hgx8) fun j2 x hj2 hx a ha e => by
                  have := HOTH.out j2 x hj2 hx a ha
                  omega
                rw [List.set_set, ← hbq] at h5
                exact h5
              have HKQ : Hid (KeptFs wo wi kf (.slice (some ⟨g, 0, none⟩) len2 cap)) := by
                show KeptFs _ _ _ _
                refine ⟨HGJ.out.os.trans HKZ.out.os, HGJ.out.tape.trans HKZ.out.tape, HGJ.out.output.trans HKZ.out.output, Nat.le_trans HKZ.out.size HGJ.out.size, fun q hq1 hq2 hq3 => ?_⟩
                refine (HGJ.out.block q (Nat.lt_of_lt_of_le hq1 HKZ.out.size) fun e => ?_).trans (HKZ.out.block q hq1 hq2 hq3)
                have := Option.some.inj e
                have := HU.out.size
                omega
              obtain ⟨wq, hwq⟩ : ∃ x : World, x = wi := ⟨_, rfl⟩
              subst hwq
              clear hbq HYZ HOTH HYJ HGJ d1
              have HC := HQ.out.cells (m := ⟨{ m.f with b := bq }, (some ⟨gb, 0, none⟩), cap1⟩) (i := i) (List.getElem?_set_self (by omega))
              have s0 := HC.2.2.2.2.1
              have s1 := HC.2.2.2.2.2.1
              have s2 := HC.2.2.2.2.2.2 (i * 3 + 2)
              have s3 := HQ.out.box.c0
              simp only [hbl2] at s0
              obtain ⟨w4, hw4⟩ : ∃ w4, w4 = wq.setCell ⟨g, i * 3 + 2, none⟩ (.int .i64 (nn : Int)) := ⟨_, rfl⟩
              have HO4 : Hid (FsOk w4 kf (.slice (some ⟨g, 0, none⟩) len2 cap) left done (msi.set i ⟨{ m.f with b := bq, lasts := nn }, (some ⟨gb, 0, none⟩), cap1⟩)) := by
                show FsOk _ _ _ _ _ _
                rw [hw4]
                have h5 := HQ.out.stored (m := ⟨{ m.f with b := bq }, (some ⟨gb, 0, none⟩), cap1⟩) (m' := ⟨{ m.f with b := bq, lasts := nn }, (some ⟨gb, 0, none⟩), cap1⟩) (i := i) (List.getElem?_set_self (by omega)) 2 (.int .i64 (nn : Int)) (by omega) rfl
                  (HQ.out.ins _ (List.mem_of_getElem? (i := i) (List.getElem?_set_self (by omega)))).1 (HQ.out.ins _ (List.mem_of_getElem? (i := i) (List.getElem?_set_self (by omega)))).2 fun a ha => by
                    have h6 := HQ.out.apart _ (List.mem_of_getElem? (i := i) (List.getElem?_set_self (a := (⟨{ m.f with b := bq }, (some ⟨gb, 0, none⟩), cap1⟩ : FM)) (by omega))) a ha
                    exact ⟨h6.1, h6.2.1, fun e => h6.2.2 (by rw [e]; rfl)⟩
                rwa [List.set_set] at h5
              have HK4 : Hid (KeptFs wo w4 kf (.slice (some ⟨g, 0, none⟩) len2 cap)) := by
                show KeptFs _ _ _ _
                rw [hw4]
                exact HKQ.out.trans (newOr_refl _ _) (kept_store wq kf g len2 cap _ _)
              clear HC
              go_wp2
              (try rw [← hw4])
              clear hw4
              go_roundw
              case rel =>
                refine ⟨i + 1, msi.set i ⟨{ m.f with b := bq, lasts := nn }, (some ⟨gb, 0, none⟩), cap1⟩, by go_num, by omega, ?_⟩
                show CrashAt _ _ _ _ _ _ _ _ _ _ _
                refine ⟨by rw [hv2]; exact HO4.out, ?_, ?_, ?_⟩
                · rw [fls_set, HCA.out.fl]
                  show (crashTo (fls ms) ks gs i).set i { m.f with b := bq, lasts := nn } = _
                  rw [HCO.out]
                  exact crashTo_step HFI.out
                · have h9 := HCA.out.kept
                  rw [hv2] at h9 ⊢
                  exact h9.trans (newOr_refl _ _) HK4.out
                · exact lists_next HCA.out.lists fun a ha => by cases ha; exact Nat.le_trans HCA.out.kept.size (Nat.le_trans HU.out.size hgbwa)
              case measure => simp [intOf]; omega
        · have hdg : decide ((i : Int) < (glen : Int)) = false := decide_eq_false (by omega)
          obtain ⟨bq, hbq⟩ : ∃ x, x = m.f.b.take nn := ⟨_, rfl⟩
          have hgn : gs[i]? = none := List.getElem?_eq_none (by omega)
          have HCO : Hid (({ m.f with b := bq, lasts := nn } : Fl) = crashOne m.f (ks[i]?.getD 0) gs[i]?) := by
            show _ = _
            rw [hgn]
            unfold crashOne
            simp only
            rw [← HNN.out, ← hbq, hbq, hbw]
          rw [← hbq] at HZ
          have hbl2 : bq.length = nn := by rw [hbq]; exact hbw
          have HQ := HZ
          have HKQ := HKZ
          obtain ⟨wq, hwq⟩ : ∃ x : World, x = wz := ⟨_, rfl⟩
          subst hwq
          clear hbq hgn hbw HYZ HOTH
          have HC := HQ.out.cells (m := ⟨{ m.f with b := bq }, ad1, cap1⟩) (i := i) (List.getElem?_set_self (by omega))
          have s0 := HC.2.2.2.2.1
          have s1 := HC.2.2.2.2.2.1
          have s2 := HC.2.2.2.2.2.2 (i * 3 + 2)
          have s3 := HQ.out.box.c0
          simp only [hbl2] at s0
          obtain ⟨w4, hw4⟩ : ∃ w4, w4 = wq.setCell ⟨g, i * 3 + 2, none⟩ (.int .i64 (nn : Int)) := ⟨_, rfl⟩
          have HO4 : Hid (FsOk w4 kf (.slice (some ⟨g, 0, none⟩) len2 cap) left done (msi.set i ⟨{ m.f with b := bq, lasts := nn }, ad1, cap1⟩)) := by
            show FsOk _ _ _ _ _ _
            rw [hw4]
            have h5 := HQ.out.stored (m := ⟨{ m.f with b := bq }, ad1, cap1⟩) (m' := ⟨{ m.f with b := bq, lasts := nn }, ad1, cap1⟩) (i := i) (List.getElem?_set_self (by omega)) 2 (.int .i64 (nn : Int)) (by omega) rfl
              (HQ.out.ins _ (List.mem_of_getElem? (i := i) (List.getElem?_set_self (by omega)))).1 (HQ.out.ins _ (List.mem_of_getElem? (i := i) (List.getElem?_set_self (by omega)))).2 fun a ha => by
                have h6 := HQ.out.apart _ (List.mem_of_getElem? (i := i) (List.getElem?_set_self (a := (⟨{ m.f with b := bq }, ad1, cap1⟩ : FM)) (by omega))) a ha
                exact ⟨h6.1, h6.2.1, fun e => h6.2.2 (by rw [e]; rfl)⟩
            rwa [List.set_set] at h5
          have HK4 : Hid (KeptFs wo w4 kf (.slice (some ⟨g, 0, none⟩) len2 cap)) := by
            show KeptFs _ _ _ _
            rw [hw4]
            exact HKQ.out.trans (newOr_refl _ _) (kept_store wq kf g len2 cap _ _)
          clear HC
          go_wp2
          (try rw [← hw4])
          clear hw4
          go_roundw
          case rel =>
            refine ⟨i + 1, msi.set i ⟨{ m.f with b := bq, lasts := nn }, ad1, cap1⟩, by go_num, by omega, ?_⟩
            show CrashAt _ _ _ _ _ _ _ _ _ _ _
            refine ⟨by rw [hv2]; exact HO4.out, ?_, ?_, ?_⟩
            · rw [fls_set, HCA.out.fl]
              show (crashTo (fls ms) ks gs i).set i { m.f with b := bq, lasts := nn } = _
              rw [HCO.out]
              exact crashTo_step HFI.out
            · have h9 := HCA.out.kept
              rw [hv2] at h9 ⊢
              exact h9.trans (newOr_refl _ _) HK4.out
            · exact lists_next HCA.out.lists fun a ha => Nat.le_trans HCA.out.kept.size (Nat.le_trans HU.out.size (HAD.out a ha).1)
          case measure => simp [intOf]; omega
      · have hdk : decide ((i : Int) < (klen : Int)) = false := decide_eq_false (by omega)
        have hkn : ks[i]? = none := List.getElem?_eq_none (by omega)
        have HNN : Hid (m.f.lasts = m.f.lasts + keepN m.f (ks[i]?.getD 0)) := by
          show _ = _
          rw [hkn]
          unfold keepN
          simp only [Option.getD_none]
          omega
        have hnle := hll
        obtain ⟨wa, hwa⟩ : ∃ x : World, x = wo := ⟨_, rfl⟩
        have HU : Hid (Below wo.heap.size wo wa) := by show Below _ _ _; rw [hwa]; exact Below.refl _ _
        rw [← hwa]
        clear hwa hkn
        have hw2 : IntKind.i64.wrap (m.f.lasts : Int) = (m.f.lasts : Int) := IntWalk.i64_in _ (by omega)
        have KS7 : Hid (∀ W, Below wa.heap.size wa W → (fun (W : World) => W.cell? ⟨g, i * 3 + 1, none⟩ = some (.slice m.ad m.f.b.length m.cap) ∧ W.cell? ⟨g, i * 3 + 2, none⟩ = some (.int .i64 (m.f.lasts : Int))) W) := fun W hW => by
          have h2 := HU.out.trans (hW.mono HU.out.size)
          exact ⟨(h2.cell (p := ⟨g, i * 3 + 1, none⟩) hgw).trans c1, (h2.cell (p := ⟨g, i * 3 + 2, none⟩) hgw).trans c2⟩
        have hdrw : Below wa.heap.size wa wa.drew := (Below.refl _ wa).drew
        have HOKA := Lib.hid (HCA.out.ok.keep HU.out)
        rw [hv2] at HOKA
        have b9 := HOKA.out.box.c0
        have HUR := Lib.hid ((HOKA.out.ins m (List.mem_of_getElem? HM.out)).1.take m.f.lasts hnle)
        have hcapm := (HOKA.out.ins m (List.mem_of_getElem? HM.out)).1.fits
        have hup : ∀ W, (Instr.slice 23 (.slice m.ad m.f.b.length m.cap) none (some (.int .i64 ((m.f.lasts : Int)))) none).run Tryd.prog W = .ok (.slice m.ad m.f.lasts m.cap) W := row_upto byteK_ok m.ad m.f.b.length m.cap m.f.lasts (by omega)
        go_upto_region 0 with fail
        refine wp_region_noPanic ?_
        refine wp_region_z [16] (fun (W : World) => W.cell? ⟨g, i * 3 + 1, none⟩ = some (.slice m.ad m.f.b.length m.cap) ∧ W.cell? ⟨g, i * 3 + 2, none⟩ = some (.int .i64 (m.f.lasts : Int))) (by kernel_rfl) ?_
        have hHeld : (fun (W : World) => W.cell? ⟨g, i * 3 + 1, none⟩ = some (.slice m.ad m.f.b.length m.cap) ∧ W.cell? ⟨g, i * 3 + 2, none⟩ = some (.int .i64 (m.f.lasts : Int))) _ := KS7.out _ hdrw
        obtain ⟨x0, hx0⟩ : ∃ u, u = wa.drew := ⟨_, rfl⟩
        rw [← hx0] at hHeld hdrw
        rw [← hx0]
        clear hx0
        have HX0 := Lib.hid hdrw
        clear hdrw
        refine wpAnyZ_take (i := 0) (oi := ⟨_, _, _, _, _, _⟩) (v := ?_) rfl (by kernel_rfl) (by kernel_rfl) (by kernel_rfl) (by kernel_rfl) (by kernel_rfl) (fun _ _ _ h => h) (Or.inl ⟨by rfl, ?_⟩) (by assumption) ?_
        rotate_left
        · intro W hSw
          (try dsimp only at hSw)
          go_simp
          (try with_reducible rfl)
        (try simp only [Act.put, List.setIfInBounds_toArray, List.set_cons_zero, List.set_cons_succ])
        refine wpAnyZ_take (i := 2) (oi := ⟨_, _, _, _, _, _⟩) (v := ?_) rfl (by kernel_rfl) (by kernel_rfl) (by kernel_rfl) (by kernel_rfl) (by kernel_rfl) (fun _ _ _ h => h) (Or.inl ⟨by rfl, ?_⟩) (by assumption) ?_
        rotate_left
        · intro W hSw
          (try dsimp only at hSw)
          go_simp
          (try with_reducible rfl)
        (try simp only [Act.put, List.setIfInBounds_toArray, List.set_cons_zero, List.set_cons_succ])
        refine wpAnyZ_take (i := 3) (oi := ⟨_, _, _, _, _, _⟩) (v := ?_) rfl (by kernel_rfl) (by kernel_rfl) (by kernel_rfl) (by kernel_rfl) (by kernel_rfl) (fun _ _ _ h => h) (Or.inl ⟨by rfl, ?_⟩) (by assumption) ?_
        rotate_left
        · intro W hSw
          (try dsimp only at hSw)
          go_simp
          (try with_reducible rfl)
        (try simp only [Act.put, List.setIfInBounds_toArray, List.set_cons_zero, List.set_cons_succ])
        refine wpAnyZ_take (i := 4) (oi := ⟨_, _, _, _, _, _⟩) (v := ?_) rfl (by kernel_rfl) (by kernel_rfl) (by kernel_rfl) (by kernel_rfl) (by kernel_rfl) (fun _ _ _ h => h) (Or.inl ⟨by rfl, ?_⟩) (by assumption) ?_
        rotate_left
        · intro W hSw
          (try dsimp only at hSw)
          go_simp
          (try with_reducible rfl)
        (try simp only [Act.put, List.setIfInBounds_toArray, List.set_cons_zero, List.set_cons_succ])
        refine wpAnyZ_take (i := 5) (oi := ⟨_, _, _, _, _, _⟩) (v := ?_) rfl (by kernel_rfl) (by kernel_rfl) (by kernel_rfl) (by kernel_rfl) (by kernel_rfl) (fun _ _ _ h => h) (Or.inl ⟨by rfl, ?_⟩) (by assumption) ?_
        rotate_left
        · intro W hSw
          (try dsimp only at hSw)
          go_simp
          (try with_reducible rfl)
        (try simp only [Act.put, List.setIfInBounds_toArray, List.set_cons_zero, List.set_cons_succ])
        refine wpAnyZ_take (i := 6) (oi := ⟨_, _, _, _, _, _⟩) (v := ?_) rfl (by kernel_rfl) (by kernel_rfl) (by kernel_rfl) (by kernel_rfl) (by kernel_rfl) (fun _ _ _ h => h) (Or.inl ⟨by rfl, ?_⟩) (by assumption) ?_
        rotate_left
        · intro W hSw
          (try dsimp only at hSw)
          go_simp
          (try with_reducible rfl)
        (try simp only [Act.put, List.setIfInBounds_toArray, List.set_cons_zero, List.set_cons_succ])
        refine wpAnyZ_take (i := 7) (oi := ⟨_, _, _, _, _, _⟩) (v := ?_) rfl (by kernel_rfl) (by kernel_rfl) (by kernel_rfl) (by kernel_rfl) (by kernel_rfl) (fun _ _ _ h => h) (Or.inl ⟨by rfl, ?_⟩) (by assumption) ?_
        rotate_left
        · intro W hSw
          (try dsimp only at hSw)
          go_simp
          (try with_reducible rfl)
        (try simp only [Act.put, List.setIfInBounds_toArray, List.set_cons_zero, List.set_cons_succ])
        refine wpAnyZ_take (i := 8) (oi := ⟨_, _, _, _, _, _⟩) (v := ?_) rfl (by kernel_rfl) (by kernel_rfl) (by kernel_rfl) (by kernel_rfl) (by kernel_rfl) (fun _ _ _ h => h) (Or.inl ⟨by rfl, ?_⟩) (by assumption) ?_
        rotate_left
        · intro W hSw
          (try dsimp only at hSw)
          go_simp
          (try with_reducible rfl)
        (try simp only [Act.put, List.setIfInBounds_toArray, List.set_cons_zero, List.set_cons_succ])
        refine wpAnyZ_take (i := 9) (oi := ⟨_, _, _, _, _, _⟩) (v := ?_) rfl (by kernel_rfl) (by kernel_rfl) (by kernel_rfl) (by kernel_rfl) (by kernel_rfl) (fun _ _ _ h => h) (Or.inl ⟨by rfl, ?_⟩) (by assumption) ?_
        rotate_left
        · intro W hSw
          (try dsimp only at hSw)
          go_simp
          (try with_reducible rfl)
        (try simp only [Act.put, List.setIfInBounds_toArray, List.set_cons_zero, List.set_cons_succ])
        refine wpAnyZ_take (i := 10) (oi := ⟨_, _, _, _, _, _⟩) (v := ?_) rfl (by kernel_rfl) (by kernel_rfl) (by kernel_rfl) (by kernel_rfl) (by kernel_rfl) (fun _ _ _ h => h) (Or.inl ⟨by rfl, ?_⟩) (by assumption) ?_
        rotate_left
        · intro W hSw
          (try dsimp only at hSw)
          go_simp
          (try with_reducible rfl)
        (try simp only [Act.put, List.setIfInBounds_toArray, List.set_cons_zero, List.set_cons_succ])
        refine wpAnyZ_take (i := 11) (oi := ⟨_, _, _, _, _, _⟩) (v := ?_) rfl (by kernel_rfl) (by kernel_rfl) (by kernel_rfl) (by kernel_rfl) (by kernel_rfl) (fun _ _ _ h => h) (Or.inl ⟨by rfl, ?_⟩) (by assumption) ?_
        rotate_left
        · intro W hSw
          (try dsimp only at hSw)
          go_simp
          (try with_reducible rfl)
        (try simp only [Act.put, List.setIfInBounds_toArray, List.set_cons_zero, List.set_cons_succ])
        refine wpAnyZ_take (i := 12) (oi := ⟨_, _, _, _, _, _⟩) (v := ?_) rfl (by kernel_rfl) (by kernel_rfl) (by kernel_rfl) (by kernel_rfl) (by kernel_rfl) (fun _ _ _ h => h) (Or.inl ⟨by rfl, ?_⟩) (by assumption) ?_
        rotate_left
        · intro W hSw
          (try dsimp only at hSw)
          go_simp
          (try with_reducible rfl)
        (try simp only [Act.put, List.setIfInBounds_toArray, List.set_cons_zero, List.set_cons_succ])
        refine wpAnyZ_ready (rs := [1]) (by kernel_rfl) (by simp) ?_
        refine AllReadyZ.cons (o := ⟨_, _, _, _, _, _⟩) rfl (fun C hC => ?_) AllReadyZ.nil
        go_simp
        obtain ⟨x1, hx1⟩ : ∃ u, u = x0.alloc (.cells #[] 5) := ⟨_, rfl⟩
        have hbb : Below x0.heap.size x0 x1 := by rw [hx1]; exact (Below.refl _ _).alloc (Nat.le_refl _) _
        have HX1 := Lib.hid (HX0.out.trans (hbb.mono HX0.out.size))
        obtain ⟨g1, hg1⟩ : ∃ G, G = x0.heap.size := ⟨_, rfl⟩
        have HY1 : Hid (OwnRow byteK x1 wa.heap.size (.slice (some ⟨g1, 0, none⟩) 0 0) []) := by show OwnRow _ _ _ _ _; rw [hx1, hg1]; exact ownRow_lit byteK_ok x0 _ [] HX0.out.size (by simp) _ rfl 0 rfl
        rw [← hx1, ← hg1]
        clear hx1 hg1 hbb
        have hHeld : (fun (W : World) => W.cell? ⟨g, i * 3 + 1, none⟩ = some (.slice m.ad m.f.b.length m.cap) ∧ W.cell? ⟨g, i * 3 + 2, none⟩ = some (.int .i64 (m.f.lasts : Int))) x1 := KS7.out _ HX1.out
        refine hC.out _ _ (fun _ => hHeld) (fun _ => ?_)
        clear hC C
        (try simp only [Act.put, List.setIfInBounds_toArray, List.set_cons_zero, List.set_cons_succ])
        refine wpAnyZ_ready (rs := [13]) (by kernel_rfl) (by simp) ?_
        refine AllReadyZ.cons (o := ⟨_, _, _, _, _, _⟩) rfl (fun C hC => ?_) AllReadyZ.nil
        refine held_row (by rfl) byteK_ok (.tmp 45) (.tmp 56) rfl wa.heap.size [] (m.f.b.take m.f.lasts) _ rfl HY1.out HX1.out.size m.ad m.f.lasts m.cap rfl (HUR.out.keep HX1.out) (by rw [List.length_nil]; omega) ?_
        rintro v2 x2 hap
        have hltk : (m.f.b.take m.f.lasts).length = m.f.lasts := by rw [List.length_take]; omega
        obtain ⟨ad1, cap1, hvx, hr1, hat1⟩ := OwnRow.row2 byteK_ok hap.1 hltk
        subst hvx
        have HX2 : Hid (Below wa.heap.size wa x2) := HX1.out.grown hap.2.1 HX1.out.size fun q hq => (HY1.out.lt q hq).1
        have HY2 : Hid (OwnRow byteK x2 wa.heap.size (.slice ad1 m.f.lasts cap1) (m.f.b.take m.f.lasts)) := hap.1
        have HRW : Hid (RowAt byteK x2 ad1 m.f.lasts cap1 (m.f.b.take m.f.lasts)) := hr1
        have HAD : Hid (∀ a, ad1 = some a → wa.heap.size ≤ a.block ∧ a.block < x2.heap.size) := hat1
        have hadx : ∃ gb, ad1 = some ⟨gb, 0, none⟩ := by
          rcases hap.1.2 with ⟨e, _⟩ | ⟨gb, c, cur, e, _⟩
          · exact absurd e (hap.2.2.1 (by intro e0; have e1 : (Value.slice (some ⟨g1, 0, none⟩) 0 0) = .slice none 0 0 := e0; cases e1))
          · injection e with h1 h2 h3
            exact ⟨_, h1⟩
        have HADX := Lib.hid hadx
        clear hap hr1 hat1 hadx
        have hHeld : (fun (W : World) => W.cell? ⟨g, i * 3 + 1, none⟩ = some (.slice m.ad m.f.b.length m.cap) ∧ W.cell? ⟨g, i * 3 + 2, none⟩ = some (.int .i64 (m.f.lasts : Int))) x2 := KS7.out _ HX2.out
        refine hC.out _ _ (fun _ => hHeld) (fun _ => ?_)
        clear hC C
        (try simp only [Act.put, List.setIfInBounds_toArray, List.set_cons_zero, List.set_cons_succ])
        refine wpAnyZ_take (i := 14) (oi := ⟨_, _, _, _, _, _⟩) (v := ?_) rfl (by kernel_rfl) (by kernel_rfl) (by kernel_rfl) (by kernel_rfl) (by kernel_rfl) (fun _ _ _ h => h) (Or.inl ⟨by rfl, ?_⟩) (by assumption) ?_
        rotate_left
        · intro W hSw
          (try dsimp only at hSw)
          go_simp
          (try with_reducible rfl)
        (try simp only [Act.put, List.setIfInBounds_toArray, List.set_cons_zero, List.set_cons_succ])
        refine wpAnyZ_take (i := 15) (oi := ⟨_, _, _, _, _, _⟩) (v := ?_) rfl (by kernel_rfl) (by kernel_rfl) (by kernel_rfl) (by kernel_rfl) (by kernel_rfl) (fun _ _ _ h => h) (Or.inl ⟨by rfl, ?_⟩) (by assumption) ?_
        rotate_left
        · intro W hSw
          (try dsimp only at hSw)
          go_simp
          (try with_reducible rfl)
        (try simp only [Act.put, List.setIfInBounds_toArray, List.set_cons_zero, List.set_cons_succ])
        have t0 := ((HOKA.out.keep HX2.out).cells HM.out).2.2.2.2.1
        have t1 := ((HOKA.out.keep HX2.out).cells HM.out).2.2.2.2.2.2 (i * 3 + 1)
        refine wpAnyZ_ready (rs := [16]) (by kernel_rfl) (by simp) ?_
        refine AllReadyZ.cons (o := ⟨_, _, _, _, _, _⟩) rfl (fun C hC => ?_) AllReadyZ.nil
        go_simp
        refine hC.out _ _ (zfree_no (by kernel_rfl)) (fun _ => ?_)
        clear hC C
        (try simp only [Act.put, List.setIfInBounds_toArray, List.set_cons_zero, List.set_cons_succ])
        refine wpAnyZ_done (by kernel_rfl) ?_ _
        refine NoPanic.normal ?_
        obtain ⟨wz, hwz⟩ : ∃ wz, wz = x2.setCell ⟨g, i * 3 + 1, none⟩ (.slice ad1 m.f.lasts cap1) := ⟨_, rfl⟩
        have H3 := HOKA.out.keep HX2.out
        have hgwa : g < wa.heap.size := Nat.lt_of_lt_of_le hgw HU.out.size
        have hkfw := HOKA.out.box.lt
        have HZ : Hid (FsOk wz kf (.slice (some ⟨g, 0, none⟩) len2 cap) left done (msi.set i ⟨{ m.f with b := m.f.b.take m.f.lasts }, ad1, cap1⟩)) := by
          show FsOk _ _ _ _ _ _
          rw [hwz]
          exact H3.stored HM.out 1 _ (by omega) (by simp [flK, hltk]) (by rw [hltk]; exact HRW.out) (take_all (HOKA.out.ins m (List.mem_of_getElem? HM.out)).2 m.f.lasts) fun a ha => ⟨by have := (HAD.out a ha).1; omega, (HAD.out a ha).2, fun e => by have := (HAD.out a ha).1; omega⟩
        have HKZ : Hid (KeptFs wo wz kf (.slice (some ⟨g, 0, none⟩) len2 cap)) := by
          show KeptFs _ _ _ _
          rw [hwz]
          exact (kept_grown (grow_below (grow_below (grow_refl wo _) HU.out) HX2.out)).trans (newOr_refl _ _) (kept_store x2 kf g len2 cap _ _)
        have HYZ : Hid (OwnRow byteK wz wa.heap.size (.slice ad1 m.f.lasts cap1) (m.f.b.take m.f.lasts)) := by show OwnRow _ _ _ _ _; rw [hwz]; exact HY2.out.off hgwa _ _
        have HOTH : Hid (∀ (j : Nat) x, j ≠ i → (msi.set i ⟨{ m.f with b := m.f.b.take m.f.lasts }, ad1, cap1⟩)[j]? = some x → ∀ a, x.ad = some a → a.block < wa.heap.size) := by
          intro j x hji hx a ha
          rw [List.getElem?_set_ne (fun e => hji e.symm)] at hx
          exact (HOKA.out.apart x (List.mem_of_getElem? hx) a ha).2.1
        try rw [← hwz]
        clear hwz t0 t1 hHeld H3 hup KS7 HUR HRW HX2 HY2 HX1 HY1 HX0 c0 c1 c2 b0 b9
        have hbw : (m.f.b.take m.f.lasts).length = m.f.lasts := hltk
        by_cases hig : i < glen
        · have hdg : decide ((i : Int) < (glen : Int)) = true := decide_eq_true (by omega)
          obtain ⟨gb, hgb0⟩ := HADX.out
          subst hgb0
          obtain ⟨gbk, goff, gx, hgad, hgbkw, hgx, cg⟩ := byte_get HGA.out hig
          subst hgad
          have hgx8 := hga gx (List.mem_of_getElem? hgx)
          have cgz : wz.cell? ⟨gbk, goff + i, none⟩ = some (.int .u8 (gx : Int)) := (cell_same (HKZ.out.block gbk hgbkw (hgb _ rfl (by omega)).1 (by rw [← hv2]; exact (hgb _ rfl (by omega)).2))).trans cg
          have hgbwa : wa.heap.size ≤ gb := (HAD.out _ rfl).1
          have hgne : g ≠ gb := by omega
          have hgkne : gbk ≠ gb := by have := HU.out.size; omega
          have HC := HZ.out.cells (m := ⟨{ m.f with b := m.f.b.take m.f.lasts }, some ⟨gb, 0, none⟩, cap1⟩) (i := i) (List.getElem?_set_self (by omega))
          have d1 := HC.2.2.2.2.1
          have d2 := HC.2.2.2.2.2.1
          have hgwz := HC.2.2.1
          simp only [hbw] at d1
          simp only at d2
          have HD1 := Lib.hid d1
          have HCG := Lib.hid cgz
          have hgkz : gbk < wz.heap.size := World.block_lt_of_cell? _ _ cgz
          have KS9 : Hid (∀ W, Below wz.heap.size wz W → (fun (W : World) => W.cell? ⟨g, i * 3 + 1, none⟩ = some (.slice (some ⟨gb, 0, none⟩) m.f.lasts cap1) ∧ W.cell? ⟨g, i * 3 + 2, none⟩ = some (.int .i64 (m.f.lasts : Int))) W) := fun W hW => ⟨(hW.cell (p := ⟨g, i * 3 + 1, none⟩) hgwz).trans d1, (hW.cell (p := ⟨g, i * 3 + 2, none⟩) hgwz).trans d2⟩
          have hdrw : Below wz.heap.size wz wz.drew := (Below.refl _ wz).drew
          have hw3 : IntKind.i64.wrap ((m.f.lasts : Int) - 64) = (m.f.lasts : Int) - 64 := IntWalk.i64_in _ (by omega)
          have b9 := HZ.out.box.c0
          have hlnn : m.f.lasts ≤ m.f.lasts := by have := HNN.out; omega
          clear HC cg
          go_upto_region 0 with fail
          refine wp_region_noPanic ?_
          refine wp_region_z [] (fun (W : World) => W.cell? ⟨g, i * 3 + 1, none⟩ = some (.slice (some ⟨gb, 0, none⟩) m.f.lasts cap1) ∧ W.cell? ⟨g, i * 3 + 2, none⟩ = some (.int .i64 (m.f.lasts : Int))) (by kernel_rfl) ?_
          have hHeld : (fun (W : World) => W.cell? ⟨g, i * 3 + 1, none⟩ = some (.slice (some ⟨gb, 0, none⟩) m.f.lasts cap1) ∧ W.cell? ⟨g, i * 3 + 2, none⟩ = some (.int .i64 (m.f.lasts : Int))) _ := KS9.out _ hdrw
          obtain ⟨y0, hy0⟩ : ∃ u, u = wz.drew := ⟨_, rfl⟩
          rw [← hy0] at hHeld hdrw
          rw [← hy0]
          clear hy0
          have HU9 := Lib.hid hdrw
          clear hdrw
          refine wpAnyZ_take (i := 0) (oi := ⟨_, _, _, _, _, _⟩) (v := ?_) rfl (by kernel_rfl) (by kernel_rfl) (by kernel_rfl) (by kernel_rfl) (by kernel_rfl) (fun _ _ _ h => h) (Or.inl ⟨by rfl, ?_⟩) (by assumption) ?_
          rotate_left
          · intro W hSw
            (try dsimp only at hSw)
            go_simp
            (try with_reducible rfl)
          (try simp only [Act.put, List.setIfInBounds_toArray, List.set_cons_zero, List.set_cons_succ])
          refine wpAnyZ_take (i := 1) (oi := ⟨_, _, _, _, _, _⟩) (v := ?_) rfl (by kernel_rfl) (by kernel_rfl) (by kernel_rfl) (by kernel_rfl) (by kernel_rfl) (fun _ _ _ h => h) (Or.inl ⟨by rfl, ?_⟩) (by assumption) ?_
          rotate_left
          · intro W hSw
            (try dsimp only at hSw)
            go_simp
            (try with_reducible rfl)
          (try simp only [Act.put, List.setIfInBounds_toArray, List.set_cons_zero, List.set_cons_succ])
          refine wpAnyZ_take (i := 2) (oi := ⟨_, _, _, _, _, _⟩) (v := ?_) rfl (by kernel_rfl) (by kernel_rfl) (by kernel_rfl) (by kernel_rfl) (by kernel_rfl) (fun _ _ _ h => h) (Or.inl ⟨by rfl, ?_⟩) (by assumption) ?_
          rotate_left
          · intro W hSw
            (try dsimp only at hSw)
            go_simp
            (try with_reducible rfl)
          (try simp only [Act.put, List.setIfInBounds_toArray, List.set_cons_zero, List.set_cons_succ])
          refine wpAnyZ_take (i := 3) (oi := ⟨_, _, _, _, _, _⟩) (v := ?_) rfl (by kernel_rfl) (by kernel_rfl) (by kernel_rfl) (by kernel_rfl) (by kernel_rfl) (fun _ _ _ h => h) (Or.inl ⟨by rfl, ?_⟩) (by assumption) ?_
          rotate_left
          · intro W hSw
            (try dsimp only at hSw)
            go_simp
            (try with_reducible rfl)
          (try simp only [Act.put, List.setIfInBounds_toArray, List.set_cons_zero, List.set_cons_succ])
          refine wpAnyZ_take (i := 4) (oi := ⟨_, _, _, _, _, _⟩) (v := ?_) rfl (by kernel_rfl) (by kernel_rfl) (by kernel_rfl) (by kernel_rfl) (by kernel_rfl) (fun _ _ _ h => h) (Or.inl ⟨by rfl, ?_⟩) (by assumption) ?_
          rotate_left
          · intro W hSw
            (try dsimp only at hSw)
            go_simp
            (try with_reducible rfl)
          (try simp only [Act.put, List.setIfInBounds_toArray, List.set_cons_zero, List.set_cons_succ])
          refine wpAnyZ_take (i := 5) (oi := ⟨_, _, _, _, _, _⟩) (v := ?_) rfl (by kernel_rfl) (by kernel_rfl) (by kernel_rfl) (by kernel_rfl) (by kernel_rfl) (fun _ _ _ h => h) (Or.inl ⟨by rfl, ?_⟩) (by assumption) ?_
          rotate_left
          · intro W hSw
            (try dsimp only at hSw)
            go_simp
            (try with_reducible rfl)
          (try simp only [Act.put, List.setIfInBounds_toArray, List.set_cons_zero, List.set_cons_succ])
          refine wpAnyZ_take (i := 6) (oi := ⟨_, _, _, _, _, _⟩) (v := ?_) rfl (by kernel_rfl) (by kernel_rfl) (by kernel_rfl) (by kernel_rfl) (by kernel_rfl) (fun _ _ _ h => h) (Or.inl ⟨by rfl, ?_⟩) (by assumption) ?_
          rotate_left
          · intro W hSw
            (try dsimp only at hSw)
            go_simp
            (try with_reducible rfl)
          (try simp only [Act.put, List.setIfInBounds_toArray, List.set_cons_zero, List.set_cons_succ])
          refine wpAnyZ_take (i := 7) (oi := ⟨_, _, _, _, _, _⟩) (v := ?_) rfl (by kernel_rfl) (by kernel_rfl) (by kernel_rfl) (by kernel_rfl) (by kernel_rfl) (fun _ _ _ h => h) (Or.inl ⟨by rfl, ?_⟩) (by assumption) ?_
          rotate_left
          · intro W hSw
            (try dsimp only at hSw)
            go_simp
            (try with_reducible rfl)
          (try simp only [Act.put, List.setIfInBounds_toArray, List.set_cons_zero, List.set_cons_succ])
          refine wpAnyZ_take (i := 8) (oi := ⟨_, _, _, _, _, _⟩) (v := ?_) rfl (by kernel_rfl) (by kernel_rfl) (by kernel_rfl) (by kernel_rfl) (by kernel_rfl) (fun _ _ _ h => h) (Or.inl ⟨by rfl, ?_⟩) (by assumption) ?_
          rotate_left
          · intro W hSw
            (try dsimp only at hSw)
            go_simp
            (try with_reducible rfl)
          (try simp only [Act.put, List.setIfInBounds_toArray, List.set_cons_zero, List.set_cons_succ])
          refine wpAnyZ_take (i := 9) (oi := ⟨_, _, _, _, _, _⟩) (v := ?_) rfl (by kernel_rfl) (by kernel_rfl) (by kernel_rfl) (by kernel_rfl) (by kernel_rfl) (fun _ _ _ h => h) (Or.inl ⟨by rfl, ?_⟩) (by assumption) ?_
          rotate_left
          · intro W hSw
            (try dsimp only at hSw)
            go_simp
            (try with_reducible rfl)
          (try simp only [Act.put, List.setIfInBounds_toArray, List.set_cons_zero, List.set_cons_succ])
          refine wpAnyZ_take (i := 10) (oi := ⟨_, _, _, _, _, _⟩) (v := ?_) rfl (by kernel_rfl) (by kernel_rfl) (by kernel_rfl) (by kernel_rfl) (by kernel_rfl) (fun _ _ _ h => h) (Or.inl ⟨by rfl, ?_⟩) (by assumption) ?_
          rotate_left
          · intro W hSw
            (try dsimp only at hSw)
            go_simp
            (try with_reducible rfl)
          (try simp only [Act.put, List.setIfInBounds_toArray, List.set_cons_zero, List.set_cons_succ])
          refine wpAnyZ_take (i := 11) (oi := ⟨_, _, _, _, _, _⟩) (v := ?_) rfl (by kernel_rfl) (by kernel_rfl) (by kernel_rfl) (by kernel_rfl) (by kernel_rfl) (fun _ _ _ h => h) (Or.inl ⟨by rfl, ?_⟩) (by assumption) ?_
          rotate_left
          · intro W hSw
            (try dsimp only at hSw)
            go_simp
            (try with_reducible rfl)
          (try simp only [Act.put, List.setIfInBounds_toArray, List.set_cons_zero, List.set_cons_succ])
          refine wpAnyZ_done (by kernel_rfl) ?_ _
          refine NoPanic.normal ?_
          clear hHeld
          obtain ⟨s0, hs0⟩ : ∃ x, x = max m.f.lasts (m.f.lasts - 64) := ⟨_, rfl⟩
          have hse : (if (m.f.lasts : Int) < (m.f.lasts : Int) - 64 then (m.f.lasts : Int) - 64 else (m.f.lasts : Int)) = (s0 : Int) := by
            rw [hs0]
            split <;> omega
          rw [hse]
          have hs0n : s0 ≤ m.f.lasts := by omega
          have HS0 := Lib.hid hs0
          obtain ⟨b1, hb1⟩ : ∃ x, x = m.f.b.take m.f.lasts := ⟨_, rfl⟩
          have hb1l : b1.length = m.f.lasts := by rw [hb1]; exact hbw
          have hb1a : AllB b1 := by rw [hb1]; exact take_all (HOKA.out.ins m (List.mem_of_getElem? HM.out)).2 m.f.lasts
          rw [← hb1] at HYZ HOTH HZ
          have HB1 := Lib.hid hb1
          clear hse hs0 hb1 hbw d1 d2 cgz KS9 b9 hw3 hltk
          go_wp2
          go_loopw [9] (fun v9 wr => ∃ j : Nat, v9 = .int .i64 (j : Int) ∧ s0 ≤ j ∧ j ≤ m.f.lasts ∧ Hid (OwnRow byteK wr wa.heap.size (.slice (some ⟨gb, 0, none⟩) m.f.lasts cap1) (xorTo b1 s0 j gx)) ∧ Hid (wz.grownBy wr (some gb))) (fun v9 _ => m.f.lasts - (intOf v9).toNat)
          case atStart => exact ⟨s0, rfl, Nat.le_refl _, hs0n, by show OwnRow _ _ _ _ _; rw [xorTo_start]; exact HYZ.out.on (HU9.out), grow_below (grow_refl wz _) HU9.out⟩
          case round =>
            obtain ⟨j, rfl, hj0, hj1, HYJ, HGJ⟩ := hrel
            obtain ⟨wi, hwi2⟩ : ∃ wi : World, wi = wr := ⟨_, rfl⟩
            subst hwi2
            have d1 : wi.cell? ⟨g, i * 3 + 1, none⟩ = some (.slice (some ⟨gb, 0, none⟩) m.f.lasts cap1) := HGJ.out.cell HD1.out (fun e => hgne (Option.some.inj e))
            have hxl : (xorTo b1 s0 j gx).length = m.f.lasts := by rw [xorTo_len]; exact hb1l
            by_cases hjlt : j < m.f.lasts
            · have hdj : decide ((j : Int) < (m.f.lasts : Int)) = true := decide_eq_true (by omega)
              have hjl2 : (j : Int) < (m.f.lasts : Int) := by omega
              obtain ⟨ax, cx, ex, hrx, _⟩ := OwnRow.row2 byteK_ok HYJ.out hxl
              cases ex
              obtain ⟨bk, ok, x, ex2, hbk, hxj, cx⟩ := byte_get hrx hjlt
              cases ex2
              rw [Nat.zero_add] at cx
              obtain ⟨gq, cq, curq, eq, hhq, _, _⟩ := own_block2 HYJ.out hxl (by omega)
              cases eq
              have hgwi : g < wi.heap.size := Nat.lt_of_lt_of_le hgwz HGJ.out.size
              have hgki : gbk < wi.heap.size := Nat.lt_of_lt_of_le hgkz HGJ.out.size
              have cg2 : wi.cell? ⟨gbk, goff + i, none⟩ = some (.int .u8 (gx : Int)) := HGJ.out.cell HCG.out (fun e => hgkne (Option.some.inj e))
              have KS12 : Hid (∀ W, Below wi.heap.size wi W → (fun (W : World) => W.cell? ⟨g, i * 3 + 1, none⟩ = some (.slice (some ⟨gb, 0, none⟩) m.f.lasts cap1) ∧ W.cell? ⟨gb, j, none⟩ = some (.int .u8 (x : Int)) ∧ W.cell? ⟨gbk, goff + i, none⟩ = some (.int .u8 (gx : Int))) W) := fun W hW => ⟨(hW.cell (p := ⟨g, i * 3 + 1, none⟩) hgwi).trans d1, (hW.cell (p := ⟨gb, j, none⟩) hbk).trans cx, (hW.cell (p := ⟨gbk, goff + i, none⟩) hgki).trans cg2⟩
              have KF12 : Hid (∀ W, Below wi.heap.size wi W → W.frozen? ⟨gb, j, none⟩ = false) := fun W hW => frozen_of_row W gb j _ _ ((hW.block gb hbk).trans hhq)
              have hdrw : Below wi.heap.size wi wi.drew := (Below.refl _ wi).drew
              have hig3 : (i : Int) < (glen : Int) := by omega
              have hxo : x < 256 := by
                have h1 : (xorTo b1 s0 j gx)[j]? = some x := hxj
                exact xorTo_all hb1a hgx8 x (List.mem_of_getElem? h1)
              have hb1x : b1[j]? = some x := by
                have h1 : (xorTo b1 s0 j gx)[j]? = some x := hxj
                rw [xorTo_get] at h1
                cases hy : b1[j]? with
                | none => rw [hy] at h1; cases h1
                | some y =>
                  rw [hy] at h1
                  simp only [Option.map_some] at h1
                  rw [if_neg (by omega)] at h1
                  exact h1
              have HBX := Lib.hid hb1x
              clear hrx hhq hxj hb1x
              go_upto_region 0 with fail
              refine wp_region_noPanic ?_
              refine wp_region_z [18] (fun (W : World) => W.cell? ⟨g, i * 3 + 1, none⟩ = some (.slice (some ⟨gb, 0, none⟩) m.f.lasts cap1) ∧ W.cell? ⟨gb, j, none⟩ = some (.int .u8 (x : Int)) ∧ W.cell? ⟨gbk, goff + i, none⟩ = some (.int .u8 (gx : Int))) (by kernel_rfl) ?_
              have hHeld : (fun (W : World) => W.cell? ⟨g, i * 3 + 1, none⟩ = some (.slice (some ⟨gb, 0, none⟩) m.f.lasts cap1) ∧ W.cell? ⟨gb, j, none⟩ = some (.int .u8 (x : Int)) ∧ W.cell? ⟨gbk, goff + i, none⟩ = some (.int .u8 (gx : Int))) _ := KS12.out _ hdrw
              obtain ⟨z0, hz0⟩ : ∃ u, u = wi.drew := ⟨_, rfl⟩
              rw [← hz0] at hHeld hdrw
              rw [← hz0]
              clear hz0
              have HZ0 := Lib.hid hdrw
              clear hdrw
              refine wpAnyZ_take (i := 0) (oi := ⟨_, _, _, _, _, _⟩) (v := ?_) rfl (by kernel_rfl) (by kernel_rfl) (by kernel_rfl) (by kernel_rfl) (by kernel_rfl) (fun _ _ _ h => h) (Or.inl ⟨by rfl, ?_⟩) (by assumption) ?_
              rotate_left
              · intro W hSw
                (try dsimp only at hSw)
                go_simp
                (try with_reducible rfl)
              (try simp only [Act.put, List.setIfInBounds_toArray, List.set_cons_zero, List.set_cons_succ])
              refine wpAnyZ_take (i := 1) (oi := ⟨_, _, _, _, _, _⟩) (v := ?_) rfl (by kernel_rfl) (by kernel_rfl) (by kernel_rfl) (by kernel_rfl) (by kernel_rfl) (fun _ _ _ h => h) (Or.inl ⟨by rfl, ?_⟩) (by assumption) ?_
              rotate_left
              · intro W hSw
                (try dsimp only at hSw)
                go_simp
                (try with_reducible rfl)
              (try simp only [Act.put, List.setIfInBounds_toArray, List.set_cons_zero, List.set_cons_succ])
              refine wpAnyZ_take (i := 2) (oi := ⟨_, _, _, _, _, _⟩) (v := ?_) rfl (by kernel_rfl) (by kernel_rfl) (by kernel_rfl) (by kernel_rfl) (by kernel_rfl) (fun _ _ _ h => h) (Or.inl ⟨by rfl, ?_⟩) (by assumption) ?_
              rotate_left
              · intro W hSw
                (try dsimp only at hSw)
                go_simp
                (try with_reducible rfl)
              (try simp only [Act.put, List.setIfInBounds_toArray, List.set_cons_zero, List.set_cons_succ])
              refine wpAnyZ_take (i := 3) (oi := ⟨_, _, _, _, _, _⟩) (v := ?_) rfl (by kernel_rfl) (by kernel_rfl) (by kernel_rfl) (by kernel_rfl) (by kernel_rfl) (fun _ _ _ h => h) (Or.inl ⟨by rfl, ?_⟩) (by assumption) ?_
              rotate_left
              · intro W hSw
                (try dsimp only at hSw)
                go_simp
                (try with_reducible rfl)
              (try simp only [Act.put, List.setIfInBounds_toArray, List.set_cons_zero, List.set_cons_succ])
              refine wpAnyZ_take (i := 4) (oi := ⟨_, _, _, _, _, _⟩) (v := ?_) rfl (by kernel_rfl) (by kernel_rfl) (by kernel_rfl) (by kernel_rfl) (by kernel_rfl) (fun _ _ _ h => h) (Or.inl ⟨by rfl, ?_⟩) (by assumption) ?_
              rotate_left
              · intro W hSw
                (try dsimp only at hSw)
                go_simp
                (try with_reducible rfl)
              (try simp only [Act.put, List.setIfInBounds_toArray, List.set_cons_zero, List.set_cons_succ])
              refine wpAnyZ_take (i := 5) (oi := ⟨_, _, _, _, _, _⟩) (v := ?_) rfl (by kernel_rfl) (by kernel_rfl) (by kernel_rfl) (by kernel_rfl) (by kernel_rfl) (fun _ _ _ h => h) (Or.inl ⟨by rfl, ?_⟩) (by assumption) ?_
              rotate_left
              · intro W hSw
                (try dsimp only at hSw)
                go_simp
                (try with_reducible rfl)
              (try simp only [Act.put, List.setIfInBounds_toArray, List.set_cons_zero, List.set_cons_succ])
              refine wpAnyZ_take (i := 6) (oi := ⟨_, _, _, _, _, _⟩) (v := ?_) rfl (by kernel_rfl) (by kernel_rfl) (by kernel_rfl) (by kernel_rfl) (by kernel_rfl) (fun _ _ _ h => h) (Or.inl ⟨by rfl, ?_⟩) (by assumption) ?_
              rotate_left
              · intro W hSw
                (try dsimp only at hSw)
                go_simp
                (try with_reducible rfl)
              (try simp only [Act.put, List.setIfInBounds_toArray, List.set_cons_zero, List.set_cons_succ])
              refine wpAnyZ_take (i := 7) (oi := ⟨_, _, _, _, _, _⟩) (v := ?_) rfl (by kernel_rfl) (by kernel_rfl) (by kernel_rfl) (by kernel_rfl) (by kernel_rfl) (fun _ _ _ h => h) (Or.inl ⟨by rfl, ?_⟩) (by assumption) ?_
              rotate_left
              · intro W hSw
                (try dsimp only at hSw)
                go_simp
                (try with_reducible rfl)
              (try simp only [Act.put, List.setIfInBounds_toArray, List.set_cons_zero, List.set_cons_succ])
              refine wpAnyZ_take (i := 8) (oi := ⟨_, _, _, _, _, _⟩) (v := ?_) rfl (by kernel_rfl) (by kernel_rfl) (by kernel_rfl) (by kernel_rfl) (by kernel_rfl) (fun _ _ _ h => h) (Or.inl ⟨by rfl, ?_⟩) (by assumption) ?_
              rotate_left
              · intro W hSw
                (try dsimp only at hSw)
                go_simp
                (try with_reducible rfl)
              (try simp only [Act.put, List.setIfInBounds_toArray, List.set_cons_zero, List.set_cons_succ])
              refine wpAnyZ_take (i := 9) (oi := ⟨_, _, _, _, _, _⟩) (v := ?_) rfl (by kernel_rfl) (by kernel_rfl) (by kernel_rfl) (by kernel_rfl) (by kernel_rfl) (fun _ _ _ h => h) (Or.inl ⟨by rfl, ?_⟩) (by assumption) ?_
              rotate_left
              · intro W hSw
                (try dsimp only at hSw)
                go_simp
                (try with_reducible rfl)
              (try simp only [Act.put, List.setIfInBounds_toArray, List.set_cons_zero, List.set_cons_succ])
              refine wpAnyZ_take (i := 10) (oi := ⟨_, _, _, _, _, _⟩) (v := ?_) rfl (by kernel_rfl) (by kernel_rfl) (by kernel_rfl) (by kernel_rfl) (by kernel_rfl) (fun _ _ _ h => h) (Or.inl ⟨by rfl, ?_⟩) (by assumption) ?_
              rotate_left
              · intro W hSw
                (try dsimp only at hSw)
                go_simp
                (try with_reducible rfl)
              (try simp only [Act.put, List.setIfInBounds_toArray, List.set_cons_zero, List.set_cons_succ])
              refine wpAnyZ_take (i := 11) (oi := ⟨_, _, _, _, _, _⟩) (v := ?_) rfl (by kernel_rfl) (by kernel_rfl) (by kernel_rfl) (by kernel_rfl) (by kernel_rfl) (fun _ _ _ h => h) (Or.inl ⟨by rfl, ?_⟩) (by assumption) ?_
              rotate_left
              · intro W hSw
                (try dsimp only at hSw)
                go_simp
                (try with_reducible rfl)
              (try simp only [Act.put, List.setIfInBounds_toArray, List.set_cons_zero, List.set_cons_succ])
              refine wpAnyZ_take (i := 12) (oi := ⟨_, _, _, _, _, _⟩) (v := ?_) rfl (by kernel_rfl) (by kernel_rfl) (by kernel_rfl) (by kernel_rfl) (by kernel_rfl) (fun _ _ _ h => h) (Or.inl ⟨by rfl, ?_⟩) (by assumption) ?_
              rotate_left
              · intro W hSw
                (try dsimp only at hSw)
                go_simp
                (try with_reducible rfl)
              (try simp only [Act.put, List.setIfInBounds_toArray, List.set_cons_zero, List.set_cons_succ])
              refine wpAnyZ_take (i := 13) (oi := ⟨_, _, _, _, _, _⟩) (v := ?_) rfl (by kernel_rfl) (by kernel_rfl) (by kernel_rfl) (by kernel_rfl) (by kernel_rfl) (fun _ _ _ h => h) (Or.inl ⟨by rfl, ?_⟩) (by assumption) ?_
              rotate_left
              · intro W hSw
                (try dsimp only at hSw)
                go_simp
                (try with_reducible rfl)
              (try simp only [Act.put, List.setIfInBounds_toArray, List.set_cons_zero, List.set_cons_succ])
              refine wpAnyZ_take (i := 14) (oi := ⟨_, _, _, _, _, _⟩) (v := ?_) rfl (by kernel_rfl) (by kernel_rfl) (by kernel_rfl) (by kernel_rfl) (by kernel_rfl) (fun _ _ _ h => h) (Or.inl ⟨by rfl, ?_⟩) (by assumption) ?_
              rotate_left
              · intro W hSw
                (try dsimp only at hSw)
                go_simp
                (try with_reducible rfl)
              (try simp only [Act.put, List.setIfInBounds_toArray, List.set_cons_zero, List.set_cons_succ])
              refine wpAnyZ_take (i := 15) (oi := ⟨_, _, _, _, _, _⟩) (v := ?_) rfl (by kernel_rfl) (by kernel_rfl) (by kernel_rfl) (by kernel_rfl) (by kernel_rfl) (fun _ _ _ h => h) (Or.inl ⟨by rfl, ?_⟩) (by assumption) ?_
              rotate_left
              · intro W hSw
                (try dsimp only at hSw)
                go_simp
                (try with_reducible rfl)
              (try simp only [Act.put, List.setIfInBounds_toArray, List.set_cons_zero, List.set_cons_succ])
              refine wpAnyZ_take (i := 16) (oi := ⟨_, _, _, _, _, _⟩) (v := ?_) rfl (by kernel_rfl) (by kernel_rfl) (by kernel_rfl) (by kernel_rfl) (by kernel_rfl) (fun _ _ _ h => h) (Or.inl ⟨by rfl, ?_⟩) (by assumption) ?_
              rotate_left
              · intro W hSw
                (try dsimp only at hSw)
                go_simp
                (try with_reducible rfl)
              (try simp only [Act.put, List.setIfInBounds_toArray, List.set_cons_zero, List.set_cons_succ])
              refine wpAnyZ_take (i := 17) (oi := ⟨_, _, _, _, _, _⟩) (v := ?_) rfl (by kernel_rfl) (by kernel_rfl) (by kernel_rfl) (by kernel_rfl) (by kernel_rfl) (fun _ _ _ h => h) (Or.inl ⟨by rfl, ?_⟩) (by assumption) ?_
              rotate_left
              · intro W hSw
                (try dsimp only at hSw)
                go_simp
                (try with_reducible rfl)
              (try simp only [Act.put, List.setIfInBounds_toArray, List.set_cons_zero, List.set_cons_succ])
              have t0 := (KS12.out _ HZ0.out).2.1
              have t1 := KF12.out _ HZ0.out
              refine wpAnyZ_ready (rs := [18]) (by kernel_rfl) (by simp) ?_
              refine AllReadyZ.cons (o := ⟨_, _, _, _, _, _⟩) rfl (fun C hC => ?_) AllReadyZ.nil
              go_simp
              refine hC.out _ _ (zfree_no (by kernel_rfl)) (fun _ => ?_)
              clear hC C
              (try simp only [Act.put, List.setIfInBounds_toArray, List.set_cons_zero, List.set_cons_succ])
              refine wpAnyZ_done (by kernel_rfl) ?_ _
              refine NoPanic.normal ?_
              have hxo2 : bits BinOp.xor IntKind.u8 (x : Int) (gx : Int) = ((x ^^^ gx : Nat) : Int) := u8_xor_nat x gx hxo hgx8
              obtain ⟨wy, hwy⟩ : ∃ wy, wy = z0.setCell ⟨gb, j, none⟩ (.int .u8 (bits BinOp.xor IntKind.u8 (x : Int) (gx : Int))) := ⟨_, rfl⟩
              have HYN : Hid (OwnRow byteK wy wa.heap.size (.slice (some ⟨gb, 0, none⟩) m.f.lasts cap1) (xorTo b1 s0 (j + 1) gx)) := by
                show OwnRow _ _ _ _ _
                have h1 := own_bytes.1 (HYJ.out.on HZ0.out)
                rw [hxl] at h1
                have h2 := own_turned (k := j) (y := x ^^^ gx) h1 hxo2
                rw [hwy]
                have e : (xorTo b1 s0 j gx).set j (x ^^^ gx) = xorTo b1 s0 (j + 1) gx := xorTo_step HBX.out hj0
                rw [e] at h2
                refine own_bytes.2 ?_
                rw [xorTo_len, hb1l]
                exact h2
              have HGN : Hid (wz.grownBy wy (some gb)) := by show World.grownBy _ _ _; rw [hwy]; exact grow_set (grow_below HGJ.out HZ0.out) j _
              try rw [← hwy]
              clear hwy t0 t1 hHeld hxo2
              go_wp2
              go_roundw
              case rel => exact ⟨j + 1, by go_num, by omega, by omega, HYN.out, HGN.out⟩
              case measure => simp [intOf]; omega
            · have hdj : decide ((j : Int) < (m.f.lasts : Int)) = false := decide_eq_false (by omega)
              obtain ⟨bq, hbq⟩ : ∃ x, x = xorTo b1 s0 j gx := ⟨_, rfl⟩
              have hbl2 : bq.length = m.f.lasts := by rw [hbq]; exact hxl
              have HCO : Hid (({ m.f with b := bq, lasts := m.f.lasts } : Fl) = crashOne m.f (ks[i]?.getD 0) gs[i]?) := by
                show _ = _
                rw [hgx]
                unfold crashOne
                simp only
                rw [← HNN.out, ← HB1.out, hb1l, ← HS0.out, ← xorTo_end b1 s0 j gx (by omega), ← hbq, hbl2]
              have HQ : Hid (FsOk wi kf (.slice (some ⟨g, 0, none⟩) len2 cap) left done (msi.set i ⟨{ m.f with b := bq }, some ⟨gb, 0, none⟩, cap1⟩)) := by
                show FsOk _ _ _ _ _ _
                have h5 := HZ.out.reborn (m := ⟨{ m.f with b := b1 }, some ⟨gb, 0, none⟩, cap1⟩) (i := i) (List.getElem?_set_self (by omega)) rfl rfl hb1l hxl HGJ.out HYJ.out (xorTo_all hb1a hgx8) fun j2 x hj2 hx a ha e => by
                  have := HOTH.out j2 x hj2 hx a ha
                  omega
                rw [List.set_set, ← hbq] at h5
                exact h5
              have HKQ : Hid (KeptFs wo wi kf (.slice (some ⟨g, 0, none⟩) len2 cap)) := by
                show KeptFs _ _ _ _
                refine ⟨HGJ.out.os.trans HKZ.out.os, HGJ.out.tape.trans HKZ.out.tape, HGJ.out.output.trans HKZ.out.output, Nat.le_trans HKZ.out.size HGJ.out.size, fun q hq1 hq2 hq3 => ?_⟩
                refine (HGJ.out.block q (Nat.lt_of_lt_of_le hq1 HKZ.out.size) fun e => ?_).trans (HKZ.out.block q hq1 hq2 hq3)
                have := Option.some.inj e
                have := HU.out.size
                omega
              obtain ⟨wq, hwq⟩ : ∃ x : World, x = wi := ⟨_, rfl⟩
              subst hwq
              clear hbq HYZ HOTH HYJ HGJ d1
              have HC := HQ.out.cells (m := ⟨{ m.f with b := bq }, (some ⟨gb, 0, none⟩), cap1⟩) (i := i) (List.getElem?_set_self (by omega))
              have s0 := HC.2.2.2.2.1
              have s1 := HC.2.2.2.2.2.1
              have s2 := HC.2.2.2.2.2.2 (i * 3 + 2)
              have s3 := HQ.out.box.c0
              simp only [hbl2] at s0
              obtain ⟨w4, hw4⟩ : ∃ w4, w4 = wq.setCell ⟨g, i * 3 + 2, none⟩ (.int .i64 (m.f.lasts : Int)) := ⟨_, rfl⟩
              have HO4 : Hid (FsOk w4 kf (.slice (some ⟨g, 0, none⟩) len2 cap) left done (msi.set i ⟨{ m.f with b := bq, lasts := m.f.lasts }, (some ⟨gb, 0, none⟩), cap1⟩)) := by
                show FsOk _ _ _ _ _ _
                rw [hw4]
                have h5 := HQ.out.stored (m := ⟨{ m.f with b := bq }, (some ⟨gb, 0, none⟩), cap1⟩) (m' := ⟨{ m.f with b := bq, lasts := m.f.lasts }, (some ⟨gb, 0, none⟩), cap1⟩) (i := i) (List.getElem?_set_self (by omega)) 2 (.int .i64 (m.f.lasts : Int)) (by omega) rfl
                  (HQ.out.ins _ (List.mem_of_getElem? (i := i) (List.getElem?_set_self (by omega)))).1 (HQ.out.ins _ (List.mem_of_getElem? (i := i) (List.getElem?_set_self (by omega)))).2 fun a ha => by
                    have h6 := HQ.out.apart _ (List.mem_of_getElem? (i := i) (List.getElem?_set_self (a := (⟨{ m.f with b := bq }, (some ⟨gb, 0, none⟩), cap1⟩ : FM)) (by omega))) a ha
                    exact ⟨h6.1, h6.2.1, fun e => h6.2.2 (by rw [e]; rfl)⟩
                rwa [List.set_set] at h5
              have HK4 : Hid (KeptFs wo w4 kf (.slice (some ⟨g, 0, none⟩) len2 cap)) := by
                show KeptFs _ _ _ _
                rw [hw4]
                exact HKQ.out.trans (newOr_refl _ _) (kept_store wq kf g len2 cap _ _)
              clear HC
              go_wp2
              (try rw [← hw4])
              clear hw4
              go_roundw
              case rel =>
                refine ⟨i + 1, msi.set i ⟨{ m.f with b := bq, lasts := m.f.lasts }, (some ⟨gb, 0, none⟩), cap1⟩, by go_num, by omega, ?_⟩
                show CrashAt _ _ _ _ _ _ _ _ _ _ _
                refine ⟨by rw [hv2]; exact HO4.out, ?_, ?_, ?_⟩
                · rw [fls_set, HCA.out.fl]
                  show (crashTo (fls ms) ks gs i).set i { m.f with b := bq, lasts := m.f.lasts } = _
                  rw [HCO.out]
                  exact crashTo_step HFI.out
                · have h9 := HCA.out.kept
                  rw [hv2] at h9 ⊢
                  exact h9.trans (newOr_refl _ _) HK4.out
                · exact lists_next HCA.out.lists fun a ha => by cases ha; exact Nat.le_trans HCA.out.kept.size (Nat.le_trans HU.out.size hgbwa)
              case measure => simp [intOf]; omega
        · have hdg : decide ((i : Int) < (glen : Int)) = false := decide_eq_false (by omega)
          obtain ⟨bq, hbq⟩ : ∃ x, x = m.f.b.take m.f.lasts := ⟨_, rfl⟩
          have hgn : gs[i]? = none := List.getElem?_eq_none (by omega)
          have HCO : Hid (({ m.f with b := bq, lasts := m.f.lasts } : Fl) = crashOne m.f (ks[i]?.getD 0) gs[i]?) := by
            show _ = _
            rw [hgn]
            unfold crashOne
            simp only
            rw [← HNN.out, ← hbq, hbq, hbw]
          rw [← hbq] at HZ
          have hbl2 : bq.length = m.f.lasts := by rw [hbq]; exact hbw
          have HQ := HZ
          have HKQ := HKZ
          obtain ⟨wq, hwq⟩ : ∃ x : World, x = wz := ⟨_, rfl⟩
          subst hwq
          clear hbq hgn hbw HYZ HOTH
          have HC := HQ.out.cells (m := ⟨{ m.f with b := bq }, ad1, cap1⟩) (i := i) (List.getElem?_set_self (by omega))
          have s0 := HC.2.2.2.2.1
          have s1 := HC.2.2.2.2.2.1
          have s2 := HC.2.2.2.2.2.2 (i * 3 + 2)
          have s3 := HQ.out.box.c0
          simp only [hbl2] at s0
          obtain ⟨w4, hw4⟩ : ∃ w4, w4 = wq.setCell ⟨g, i * 3 + 2, none⟩ (.int .i64 (m.f.lasts : Int)) := ⟨_, rfl⟩
          have HO4 : Hid (FsOk w4 kf (.slice (some ⟨g, 0, none⟩) len2 cap) left done (msi.set i ⟨{ m.f with b := bq, lasts := m.f.lasts }, ad1, cap1⟩)) := by
            show FsOk _ _ _ _ _ _
            rw [hw4]
            have h5 := HQ.out.stored (m := ⟨{ m.f with b := bq }, ad1, cap1⟩) (m' := ⟨{ m.f with b := bq, lasts := m.f.lasts }, ad1, cap1⟩) (i := i) (List.getElem?_set_self (by omega)) 2 (.int .i64 (m.f.lasts : Int)) (by omega) rfl
              (HQ.out.ins _ (List.mem_of_getElem? (i := i) (List.getElem?_set_self (by omega)))).1 (HQ.out.ins _ (List.mem_of_getElem? (i := i) (List.getElem?_set_self (by omega)))).2 fun a ha => by
                have h6 := HQ.out.apart _ (List.mem_of_getElem? (i := i) (List.getElem?_set_self (a := (⟨{ m.f with b := bq }, ad1, cap1⟩ : FM)) (by omega))) a ha
                exact ⟨h6.1, h6.2.1, fun e => h6.2.2 (by rw [e]; rfl)⟩
            rwa [List.set_set] at h5
          have HK4 : Hid (KeptFs wo w4 kf (.slice (some ⟨g, 0, none⟩) len2 cap)) := by
            show KeptFs _ _ _ _
            rw [hw4]
            exact HKQ.out.trans (newOr_refl _ _) (kept_store wq kf g len2 cap _ _)
          clear HC
          go_wp2
          (try rw [← hw4])
          clear hw4
          go_roundw
          case rel =>
            refine ⟨i + 1, msi.set i ⟨{ m.f with b := bq, lasts := m.f.lasts }, ad1, cap1⟩, by go_num, by omega, ?_⟩
            show CrashAt _ _ _ _ _ _ _ _ _ _ _
            refine ⟨by rw [hv2]; exact HO4.out, ?_, ?_, ?_⟩
            · rw [fls_set, HCA.out.fl]
              show (crashTo (fls ms) ks gs i).set i { m.f with b := bq, lasts := m.f.lasts } = _
              rw [HCO.out]
              exact crashTo_step HFI.out
            · have h9 := HCA.out.kept
              rw [hv2] at h9 ⊢
              exact h9.trans (newOr_refl _ _) HK4.out
            · exact lists_next HCA.out.lists fun a ha => Nat.le_trans HCA.out.kept.size (Nat.le_trans HU.out.size (HAD.out a ha).1)
          case measure => simp [intOf]; omega
    · have hie : i = len := by omega
      have hd : decide (i < len) = false := decide_eq_false hlt
      have b1 := HCA.out.ok.box.c1
      have b2 := HCA.out.ok.box.free 1
      have HLS5 := Lib.hid HCA.out.lists
      have HB5 : Hid (FsOk (wo.setCell ⟨kf, 1, none⟩ (.int .i64 (-1))) kf v (-1) done msi) := HCA.out.ok.turned (grow_one wo kf 1 _) (HCA.out.ok.box.s1 (-1))
      have HK5 : Hid (KeptFs w (wo.setCell ⟨kf, 1, none⟩ (.int .i64 (-1))) kf v) := HCA.out.kept.trans (newOr_refl _ _) (kept_grown (grow_one wo kf 1 _))
      obtain ⟨w9, hw9⟩ : ∃ x, x = wo.setCell ⟨kf, 1, none⟩ (.int .i64 (-1)) := ⟨_, rfl⟩
      rw [← hw9] at HB5 HK5
      go_wp2
      (try rw [← hw9])
      go_end0
      exact ⟨rfl, msi, HB5.out, by rw [HCA.out.fl]; exact crashTo_end _ _ _ _ (by unfold fls; rw [List.length_map]; omega), HK5.out, HLS5.out⟩
end Go.Proofs.YtjocfkkcnkpjdaaDoor
