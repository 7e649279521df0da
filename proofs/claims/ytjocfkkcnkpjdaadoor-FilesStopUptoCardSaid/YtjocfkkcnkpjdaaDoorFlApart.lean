/- FilesApart. -/
import Derived.Test.YtjocfkkcnkpjdaaDoorFlKeep
import Derived.Test.YtjocfkkcnkpjdaaDoorFlAsk
import Derived.Deep.CutBlock
namespace Go.Proofs.YtjocfkkcnkpjdaaDoor
open Go.RowKit
open Go.RuneMath
open Go.FsMath
set_option linter.unusedVariables false

theorem ka1 (A : List Nat) : appendF ⟨[], -1, 0⟩ nZ A = (0, ⟨[⟨nZ, A, 0⟩], -1, 1⟩) := by kernel_rfl
theorem ka2 (A : List Nat) {L : Nat} (h : A.length = L) : syncF ⟨[⟨nZ, A, 0⟩], -1, 1⟩ nZ = (0, ⟨[⟨nZ, A, L⟩], -1, 2⟩) := by subst h; kernel_rfl
theorem read_of {l : List Fl} (h : SortedF l) {f : Fl} (hf : f ∈ l) : readF l f.name = some f.b := by
  unfold readF
  rw [read_mem h hf]
  simp
theorem len_of {l : List Fl} (h : SortedF l) {f : Fl} (hf : f ∈ l) : lenF l f.name = f.b.length := by
  unfold lenF
  rw [read_mem h hf]
  simp
/-- Before ask i. -/
structure ApAt (W wr : World) (X : Nat → Prop) (w1 : World) (kf : Nat) (s : Fs) (i : Nat) (A : List Nat) : Prop where
  one : One W X w1 wr kf s
  sm : Sm s (i + 1) (1048576 * (i + 1)) (2 * i + 2)
  z : (⟨nZ, A, A.length⟩ : Fl) ∈ s.l
theorem ApAt.big {W wr : World} {X : Nat → Prop} {w1 : World} {kf : Nat} {s : Fs} {i : Nat} {A : List Nat} (h : ApAt W wr X w1 kf s i A) (hi : i ≤ 100) : (∀ f ∈ s.l, f.b.length + 1048576 ≤ 140737488355328) ∧ s.l.length ≤ 10000 ∧ FsNum s.left s.done := by
  refine ⟨fun f hf => ?_, ?_, Sm.fsnum h.sm (by omega)⟩
  · have := h.sm.b f hf
    omega
  · have := h.sm.n
    omega
set_option maxRecDepth 100000 in
set_option maxHeartbeats 16000000 in
theorem apart_any (W : World) (aad : Option Addr) (alen acap : Nat) (A : List Nat) (ha : RowAt byteK W aad alen acap A) (haa : AllB A) (hal : alen ≤ 1048576) (bad : Option Addr) (blen bcap : Nat) (B : List Nat) (hb : RowAt byteK W bad blen bcap B) (hba : AllB B) (hbl : blen ≤ 1048576)
    (lad : Option Addr) (len cap : Nat) (l : List Ak) (hl : RowAt askK W lad len cap l) (hin : ∀ x ∈ l, AskIn W x) (hT : Tabs W) (h2 : 2 ≤ W.heap.size) :
    Calls Tryd.prog 8 #[.slice aad alen acap, .slice bad blen bcap, .slice lad len cap] W fun e w' => e = .returned (.bool true) ∧ Below W.heap.size W w' := by
  have HRA := Lib.hid ha
  have HRB := Lib.hid hb
  have HAA := Lib.hid haa
  have HBA := Lib.hid hba
  have HLA : Hid (A.length = alen) := ha.length
  have HLB : Hid (B.length = blen) := hb.length
  have HRL := Lib.hid hl
  have HIN := Lib.hid hin
  have HT := Lib.hid hT
  have HLT : Hid (∀ a, aad = some a → 0 < alen → a.block < W.heap.size) := fun a e h0 => HRA.out.lt h0 a e
  have HLTB : Hid (∀ a, bad = some a → 0 < blen → a.block < W.heap.size) := fun a e h0 => HRB.out.lt h0 a e
  clear ha hb haa hba hT hl hin
  go_enter Tryd.func8, Tryd.ntmps8
  go_wp2_with fail
  refine (oneNew W (Below.refl _ W)).mono ?_
  rintro e w1 ⟨kf, rfl, H1⟩
  go_wp2_with fail
  refine (oneAppend H1.out (num_ok (by decide) (by decide) (by decide) (by decide)) (by decide) nZ (by decide) (Below.refl _ _) aad alen acap A (HRA.out.keep H1.out.below) HAA.out (fun a e h0 => .inl (HLT.out a e h0)) (fun f hf => by cases hf) (by omega)).mono ?_
  rintro e w2 ⟨rfl, H2⟩
  rw [ka1] at H2
  rw [ka1]
  clear H1
  go_wp2_with fail
  refine (oneSync H2.out (num_ok (by dsimp only; omega) (by dsimp only; omega) (by dsimp only; omega) (by dsimp only; omega)) nZ (by decide)).mono ?_
  rintro e w3 ⟨rfl, H3⟩
  rw [ka2 A HLA.out] at H3
  rw [ka2 A HLA.out]
  clear H2
  have HAP : Hid (ApAt W w3 (fun j => j < W.heap.size) W kf ⟨[⟨nZ, A, alen⟩], -1, 2⟩ 0 A) := ⟨H3.out, ⟨by show (1 : Nat) ≤ _; omega, fun f hf => by
    obtain rfl := List.mem_singleton.1 hf
    show A.length ≤ _
    have := HLA.out
    omega, by show (0 : Int) ≤ 2; omega, by show (2 : Int) ≤ _; omega, by show (-1 : Int) ≤ -1; omega, by show (-1 : Int) ≤ _; omega⟩, by rw [HLA.out]; exact List.mem_singleton.2 rfl⟩
  clear H3
  go_wp2_with fail
  go_loopw [8] (fun v8 wr => ∃ (i : Nat) (s : Fs), v8 = .int .i64 (i : Int) ∧ i ≤ 60 ∧ i ≤ len ∧ Hid (ApAt W wr (fun j => j < W.heap.size) W kf s i A)) (fun v8 _ => 60 - (intOf v8).toNat)
  case atStart => exact ⟨0, _, rfl, by omega, by omega, HAP.out⟩
  case round =>
    obtain ⟨i, s, rfl, hi60, hil, HS⟩ := hrel
    obtain ⟨wo, hwo⟩ : ∃ wo : World, wo = wr := ⟨_, rfl⟩
    subst hwo
    clear HAP
    obtain ⟨sA, hsA⟩ : ∃ sA, sA = str A := ⟨_, rfl⟩
    have HSA := Lib.hid hsA
    clear hsA
    by_cases hlt : i < len ∧ i < 60
    · obtain ⟨hlt1, hlt2⟩ := hlt
      have hd1 : decide (i < len) = true := decide_eq_true hlt1
      have hd2 : decide (i < 60) = true := decide_eq_true hlt2
      have hij : (i : Int) < (len : Int) := by omega
      obtain ⟨bl, ol, x, el, hbl2, hx, hat⟩ := ask_get HRL.out hlt1
      have HX := Lib.hid (HIN.out x (List.mem_of_getElem? hx))
      have HAT : Hid (∀ V, Below W.heap.size W V → AskAt V bl (ol + i * 7) x) := fun V hV => hat.on hV hbl2
      have hka0 := HX.out.a0
      have hkb0 := HX.out.b0
      have hkk0 := HX.out.kind0
      subst el
      clear hx hat
      obtain ⟨kd, xa, xb, xn, pad, plen, pcap, ps, kad, klen, kcap, ks, gad, glen, gcap, gs⟩ := x
      simp only at hka0 hkb0 hkk0
      have KS : Hid (∀ V, Below W.heap.size W V → (fun (V : World) => V.cell? ⟨bl, ol + i * 7 + 1, none⟩ = some (.int .i64 xa)) V) := fun V hV => (HAT.out V hV).c1
      have hdrw : Below wo.heap.size wo wo.drew := (Below.refl _ wo).drew
      go_upto_region 7 with fail
      refine wp_region_noPanic ?_
      refine wp_region_z [] (fun (V : World) => V.cell? ⟨bl, ol + i * 7 + 1, none⟩ = some (.int .i64 xa)) (by kernel_rfl) ?_
      have hHeld : (fun (V : World) => V.cell? ⟨bl, ol + i * 7 + 1, none⟩ = some (.int .i64 xa)) _ := KS.out _ (HS.out.one.below.trans (hdrw.mono HS.out.one.below.size))
      obtain ⟨u0, hu0⟩ : ∃ u, u = wo.drew := ⟨_, rfl⟩
      rw [← hu0] at hHeld hdrw
      rw [← hu0]
      clear hu0
      have HO0 : Hid (One W (fun j => j < W.heap.size) W u0 kf s) := HS.out.one.on hdrw
      clear hdrw
      refine wpAnyZ_take (i := 1) (oi := ⟨_, _, _, _, _, _⟩) (v := ?_) rfl (by kernel_rfl) (by kernel_rfl) (by kernel_rfl) (by kernel_rfl) (by kernel_rfl) (fun _ _ _ h => h) (Or.inl ⟨by rfl, ?_⟩) (by assumption) ?_
      rotate_left
      · intro W hSw
        (try dsimp only at hSw)
        go_simp
        (try with_reducible rfl)
      (try simp only [Act.put, List.setIfInBounds_toArray, List.set_cons_zero, List.set_cons_succ])
      refine wpAnyZ_take (i := 2) (oi := ⟨_, _, _, _, _, _⟩) (v := ?_) rfl (by kernel_rfl) (by kernel_rfl) (by kernel_rfl) (by kernel_rfl) (by kernel_rfl) (fun _ _ _ h => h) (Or.inl ⟨by rfl, ?_⟩) (by assumption) ?_
      rotate_left
      · intro W hSw
        (try dsimp only at hSw)
        go_simp
        (try with_reducible rfl)
      (try simp only [Act.put, List.setIfInBounds_toArray, List.set_cons_zero, List.set_cons_succ])
      refine wpAnyZ_take (i := 3) (oi := ⟨_, _, _, _, _, _⟩) (v := ?_) rfl (by kernel_rfl) (by kernel_rfl) (by kernel_rfl) (by kernel_rfl) (by kernel_rfl) (fun _ _ _ h => h) (Or.inl ⟨by rfl, ?_⟩) (by assumption) ?_
      rotate_left
      · intro W hSw
        (try dsimp only at hSw)
        go_simp
        (try with_reducible rfl)
      (try simp only [Act.put, List.setIfInBounds_toArray, List.set_cons_zero, List.set_cons_succ])
      refine wpAnyZ_take (i := 4) (oi := ⟨_, _, _, _, _, _⟩) (v := ?_) rfl (by kernel_rfl) (by kernel_rfl) (by kernel_rfl) (by kernel_rfl) (by kernel_rfl) (fun _ _ _ h => h) (Or.inl ⟨by rfl, ?_⟩) (by assumption) ?_
      rotate_left
      · intro W hSw
        (try dsimp only at hSw)
        go_simp
        (try with_reducible rfl)
      (try simp only [Act.put, List.setIfInBounds_toArray, List.set_cons_zero, List.set_cons_succ])
      refine wpAnyZ_take (i := 5) (oi := ⟨_, _, _, _, _, _⟩) (v := ?_) rfl (by kernel_rfl) (by kernel_rfl) (by kernel_rfl) (by kernel_rfl) (by kernel_rfl) (fun _ _ _ h => h) (Or.inl ⟨by rfl, ?_⟩) (by assumption) ?_
      rotate_left
      · intro W hSw
        (try dsimp only at hSw)
        go_simp
        (try with_reducible rfl)
      (try simp only [Act.put, List.setIfInBounds_toArray, List.set_cons_zero, List.set_cons_succ])
      refine wpAnyZ_ready (rs := [0]) (by kernel_rfl) (by simp) ?_
      refine AllReadyZ.cons (o := ⟨_, _, _, _, _, _⟩) rfl (fun C hC => ?_) AllReadyZ.nil
      go_simp
      refine (names_any u0).mono ?_
      rintro e u1 ⟨gn, rfl, HNM, HNB⟩
      have HO1 : Hid (One W (fun j => j < W.heap.size) W u1 kf s) := HO0.out.on HNB.out.1
      have hHeld : (fun (V : World) => V.cell? ⟨bl, ol + i * 7 + 1, none⟩ = some (.int .i64 xa)) u1 := KS.out _ HO1.out.below
      refine hC.out _ _ (fun _ => hHeld) (fun _ => ?_)
      clear hC C
      (try simp only [Act.put, List.setIfInBounds_toArray, List.set_cons_zero, List.set_cons_succ])
      refine wpAnyZ_ready (rs := [6]) (by kernel_rfl) (by simp) ?_
      refine AllReadyZ.cons (o := ⟨_, _, _, _, _, _⟩) rfl (fun C hC => ?_) AllReadyZ.nil
      go_simp
      refine (within_any xa 3 u1 hka0 (by omega)).mono ?_
      rintro e u2 ⟨kn, rfl, hkn, rfl⟩
      obtain ⟨sn, hsn, hsz, hne⟩ := nm_at (k := kn) (by omega)
      have hc : u1.cell? ⟨gn, kn, none⟩ = some (.string sn) := HNM.out kn sn hsn
      have HNE : Hid (nZ ≠ sn) := hne (by omega)
      have hkn7 : (kn : Int) < 7 := by omega
      have hHeld : (fun (V : World) => V.cell? ⟨bl, ol + i * 7 + 1, none⟩ = some (.int .i64 xa)) u1 := hHeld
      refine hC.out _ _ (fun _ => hHeld) (fun _ => ?_)
      clear hC C
      (try simp only [Act.put, List.setIfInBounds_toArray, List.set_cons_zero, List.set_cons_succ])
      refine wpAnyZ_strengthen (S' := (fun (V : World) => V.cell? ⟨bl, ol + i * 7 + 1, none⟩ = some (.int .i64 xa) ∧ V.cell? ⟨gn, kn, none⟩ = some (.string sn))) (fun V h => h.1) _ _ _ _ ?_
      clear hHeld
      have hHeld : (fun (V : World) => V.cell? ⟨bl, ol + i * 7 + 1, none⟩ = some (.int .i64 xa) ∧ V.cell? ⟨gn, kn, none⟩ = some (.string sn)) u1 := ⟨KS.out _ HO1.out.below, hc⟩
      refine wpAnyZ_take (i := 7) (oi := ⟨_, _, _, _, _, _⟩) (v := ?_) rfl (by kernel_rfl) (by kernel_rfl) (by kernel_rfl) (by kernel_rfl) (by kernel_rfl) (fun _ _ _ h => h) (Or.inl ⟨by rfl, ?_⟩) (by assumption) ?_
      rotate_left
      · intro W hSw
        (try dsimp only at hSw)
        go_simp
        (try with_reducible rfl)
      (try simp only [Act.put, List.setIfInBounds_toArray, List.set_cons_zero, List.set_cons_succ])
      refine wpAnyZ_take (i := 8) (oi := ⟨_, _, _, _, _, _⟩) (v := ?_) rfl (by kernel_rfl) (by kernel_rfl) (by kernel_rfl) (by kernel_rfl) (by kernel_rfl) (fun _ _ _ h => h) (Or.inl ⟨by rfl, ?_⟩) (by assumption) ?_
      rotate_left
      · intro W hSw
        (try dsimp only at hSw)
        go_simp
        (try with_reducible rfl)
      (try simp only [Act.put, List.setIfInBounds_toArray, List.set_cons_zero, List.set_cons_succ])
      refine wpAnyZ_take (i := 9) (oi := ⟨_, _, _, _, _, _⟩) (v := ?_) rfl (by kernel_rfl) (by kernel_rfl) (by kernel_rfl) (by kernel_rfl) (by kernel_rfl) (fun _ _ _ h => h) (Or.inl ⟨by rfl, ?_⟩) (by assumption) ?_
      rotate_left
      · intro W hSw
        (try dsimp only at hSw)
        go_simp
        (try with_reducible rfl)
      (try simp only [Act.put, List.setIfInBounds_toArray, List.set_cons_zero, List.set_cons_succ])
      refine wpAnyZ_done (by kernel_rfl) ?_ _
      refine NoPanic.normal ?_
      clear hHeld hc HNM HNB HO0 hsn hne
      obtain ⟨u2, hu2⟩ : ∃ u, u = u1 := ⟨_, rfl⟩
      subst hu2
      have HB2 : Hid (Below W.heap.size W u2) := HO1.out.below
      go_upto_region 8 with fail
      have t0 := (HAT.out u2 HB2.out).c0
      go_wp2_with fail
      refine (within_any kd 5 u2 hkk0 (by omega)).mono ?_
      rintro e u3 ⟨kk, rfl, hkk, rfl⟩
      clear t0
      have HS2 : Hid (ApAt W u2 (fun j => j < W.heap.size) W kf s i A) := ⟨HO1.out, HS.out.sm, HS.out.z⟩
      clear HS HO1 KS
      go_upto_block 2 with fail
      go_cut [] from 26 to 112 (fun wx => ∃ s2, Hid (ApAt W wx (fun j => j < W.heap.size) W kf s2 (i + 1) A))
      case first =>
        have hk6 : kk = 0 ∨ kk = 1 ∨ kk = 2 ∨ kk = 3 ∨ kk = 4 ∨ kk = 5 := by omega
        obtain ⟨hbig, hlen, hnum⟩ := HS2.out.big (by omega)
        have HBIG := Lib.hid hbig
        clear hbig
        rcases hk6 with rfl | rfl | rfl | rfl | rfl | rfl
        · have t3 := (HAT.out u2 HB2.out).c3
          go_wp2_with fail
          refine (oneTruncate HS2.out.one hnum sn hsz _).mono ?_
          rintro e u3 ⟨rfl, H3⟩
          go_wp2
          go_meet
          case rel => exact ⟨_, H3.out, (HS2.out.sm.trunc sn _).more (by omega) (by omega) (by omega), stay_trunc HS2.out.z HNE.out⟩
        · have KS2 : Hid (∀ V, Below W.heap.size W V → (fun (V : World) => V.cell? ⟨bl, ol + i * 7 + 2, none⟩ = some (.int .i64 xb)) V) := fun V hV => (HAT.out V hV).c2
          have hdrw : Below u2.heap.size u2 u2.drew := (Below.refl _ u2).drew
          go_upto_region 13 with fail
          refine wp_region_noPanic ?_
          refine wp_region_z [] (fun (V : World) => V.cell? ⟨bl, ol + i * 7 + 2, none⟩ = some (.int .i64 xb)) (by kernel_rfl) ?_
          have hHeld : (fun (V : World) => V.cell? ⟨bl, ol + i * 7 + 2, none⟩ = some (.int .i64 xb)) _ := KS2.out _ (HB2.out.trans (hdrw.mono HB2.out.size))
          obtain ⟨u0, hu0⟩ : ∃ u, u = u2.drew := ⟨_, rfl⟩
          rw [← hu0] at hHeld hdrw
          rw [← hu0]
          clear hu0
          have HO0 : Hid (One W (fun j => j < W.heap.size) W u0 kf s) := HS2.out.one.on hdrw
          clear hdrw
          refine wpAnyZ_take (i := 0) (oi := ⟨_, _, _, _, _, _⟩) (v := ?_) rfl (by kernel_rfl) (by kernel_rfl) (by kernel_rfl) (by kernel_rfl) (by kernel_rfl) (fun _ _ _ h => h) (Or.inl ⟨by rfl, ?_⟩) (by assumption) ?_
          rotate_left
          · intro W hSw
            (try dsimp only at hSw)
            go_simp
            (try with_reducible rfl)
          (try simp only [Act.put, List.setIfInBounds_toArray, List.set_cons_zero, List.set_cons_succ])
          refine wpAnyZ_take (i := 1) (oi := ⟨_, _, _, _, _, _⟩) (v := ?_) rfl (by kernel_rfl) (by kernel_rfl) (by kernel_rfl) (by kernel_rfl) (by kernel_rfl) (fun _ _ _ h => h) (Or.inl ⟨by rfl, ?_⟩) (by assumption) ?_
          rotate_left
          · intro W hSw
            (try dsimp only at hSw)
            go_simp
            (try with_reducible rfl)
          (try simp only [Act.put, List.setIfInBounds_toArray, List.set_cons_zero, List.set_cons_succ])
          refine wpAnyZ_take (i := 3) (oi := ⟨_, _, _, _, _, _⟩) (v := ?_) rfl (by kernel_rfl) (by kernel_rfl) (by kernel_rfl) (by kernel_rfl) (by kernel_rfl) (fun _ _ _ h => h) (Or.inl ⟨by rfl, ?_⟩) (by assumption) ?_
          rotate_left
          · intro W hSw
            (try dsimp only at hSw)
            go_simp
            (try with_reducible rfl)
          (try simp only [Act.put, List.setIfInBounds_toArray, List.set_cons_zero, List.set_cons_succ])
          refine wpAnyZ_take (i := 4) (oi := ⟨_, _, _, _, _, _⟩) (v := ?_) rfl (by kernel_rfl) (by kernel_rfl) (by kernel_rfl) (by kernel_rfl) (by kernel_rfl) (fun _ _ _ h => h) (Or.inl ⟨by rfl, ?_⟩) (by assumption) ?_
          rotate_left
          · intro W hSw
            (try dsimp only at hSw)
            go_simp
            (try with_reducible rfl)
          (try simp only [Act.put, List.setIfInBounds_toArray, List.set_cons_zero, List.set_cons_succ])
          refine wpAnyZ_take (i := 5) (oi := ⟨_, _, _, _, _, _⟩) (v := ?_) rfl (by kernel_rfl) (by kernel_rfl) (by kernel_rfl) (by kernel_rfl) (by kernel_rfl) (fun _ _ _ h => h) (Or.inl ⟨by rfl, ?_⟩) (by assumption) ?_
          rotate_left
          · intro W hSw
            (try dsimp only at hSw)
            go_simp
            (try with_reducible rfl)
          (try simp only [Act.put, List.setIfInBounds_toArray, List.set_cons_zero, List.set_cons_succ])
          refine wpAnyZ_take (i := 6) (oi := ⟨_, _, _, _, _, _⟩) (v := ?_) rfl (by kernel_rfl) (by kernel_rfl) (by kernel_rfl) (by kernel_rfl) (by kernel_rfl) (fun _ _ _ h => h) (Or.inl ⟨by rfl, ?_⟩) (by assumption) ?_
          rotate_left
          · intro W hSw
            (try dsimp only at hSw)
            go_simp
            (try with_reducible rfl)
          (try simp only [Act.put, List.setIfInBounds_toArray, List.set_cons_zero, List.set_cons_succ])
          refine wpAnyZ_take (i := 7) (oi := ⟨_, _, _, _, _, _⟩) (v := ?_) rfl (by kernel_rfl) (by kernel_rfl) (by kernel_rfl) (by kernel_rfl) (by kernel_rfl) (fun _ _ _ h => h) (Or.inl ⟨by rfl, ?_⟩) (by assumption) ?_
          rotate_left
          · intro W hSw
            (try dsimp only at hSw)
            go_simp
            (try with_reducible rfl)
          (try simp only [Act.put, List.setIfInBounds_toArray, List.set_cons_zero, List.set_cons_succ])
          refine wpAnyZ_ready (rs := [2]) (by kernel_rfl) (by simp) ?_
          refine AllReadyZ.cons (o := ⟨_, _, _, _, _, _⟩) rfl (fun C hC => ?_) AllReadyZ.nil
          go_simp
          refine (names_any u0).mono ?_
          rintro e u3 ⟨gm, rfl, HNM, HNB⟩
          have HO3 : Hid (One W (fun j => j < W.heap.size) W u3 kf s) := HO0.out.on HNB.out.1
          obtain ⟨Y, hy, _, hyn⟩ := HO0.out.held HNB.out.1
          have HY := Lib.hid hy
          have HYG : Hid (Y gm) := hyn gm HNB.out.2.1 HNB.out.2.2
          clear hy hyn
          have hHeld : (fun (V : World) => V.cell? ⟨bl, ol + i * 7 + 2, none⟩ = some (.int .i64 xb)) u3 := KS2.out _ HO3.out.below
          refine hC.out _ _ (fun _ => hHeld) (fun _ => ?_)
          clear hC C
          (try simp only [Act.put, List.setIfInBounds_toArray, List.set_cons_zero, List.set_cons_succ])
          refine wpAnyZ_ready (rs := [8]) (by kernel_rfl) (by simp) ?_
          refine AllReadyZ.cons (o := ⟨_, _, _, _, _, _⟩) rfl (fun C hC => ?_) AllReadyZ.nil
          go_simp
          refine (within_any xb 3 u3 hkb0 (by omega)).mono ?_
          rintro e u4 ⟨km, rfl, hkm, rfl⟩
          obtain ⟨sm, hsm, hsmz, hne2⟩ := nm_at (k := km) (by omega)
          have hc : u3.cell? ⟨gm, km, none⟩ = some (.string sm) := HNM.out km sm hsm
          have HNE2 : Hid (nZ ≠ sm) := hne2 (by omega)
          have hkm7 : (km : Int) < 7 := by omega
          have hHeld : (fun (V : World) => V.cell? ⟨bl, ol + i * 7 + 2, none⟩ = some (.int .i64 xb)) u3 := hHeld
          refine hC.out _ _ (fun _ => hHeld) (fun _ => ?_)
          clear hC C
          (try simp only [Act.put, List.setIfInBounds_toArray, List.set_cons_zero, List.set_cons_succ])
          refine wpAnyZ_strengthen (S' := (fun (V : World) => V.cell? ⟨bl, ol + i * 7 + 2, none⟩ = some (.int .i64 xb) ∧ V.cell? ⟨gm, km, none⟩ = some (.string sm))) (fun V h => h.1) _ _ _ _ ?_
          clear hHeld
          have hHeld : (fun (V : World) => V.cell? ⟨bl, ol + i * 7 + 2, none⟩ = some (.int .i64 xb) ∧ V.cell? ⟨gm, km, none⟩ = some (.string sm)) u3 := ⟨KS2.out _ HO3.out.below, hc⟩
          refine wpAnyZ_take (i := 9) (oi := ⟨_, _, _, _, _, _⟩) (v := ?_) rfl (by kernel_rfl) (by kernel_rfl) (by kernel_rfl) (by kernel_rfl) (by kernel_rfl) (fun _ _ _ h => h) (Or.inl ⟨by rfl, ?_⟩) (by assumption) ?_
          rotate_left
          · intro W hSw
            (try dsimp only at hSw)
            go_simp
            (try with_reducible rfl)
          (try simp only [Act.put, List.setIfInBounds_toArray, List.set_cons_zero, List.set_cons_succ])
          refine wpAnyZ_take (i := 10) (oi := ⟨_, _, _, _, _, _⟩) (v := ?_) rfl (by kernel_rfl) (by kernel_rfl) (by kernel_rfl) (by kernel_rfl) (by kernel_rfl) (fun _ _ _ h => h) (Or.inl ⟨by rfl, ?_⟩) (by assumption) ?_
          rotate_left
          · intro W hSw
            (try dsimp only at hSw)
            go_simp
            (try with_reducible rfl)
          (try simp only [Act.put, List.setIfInBounds_toArray, List.set_cons_zero, List.set_cons_succ])
          refine wpAnyZ_ready (rs := [11]) (by kernel_rfl) (by simp) ?_
          refine AllReadyZ.cons (o := ⟨_, _, _, _, _, _⟩) rfl (fun C hC => ?_) AllReadyZ.nil
          go_simp
          refine (oneRename HY.out hnum hlen sn hsz sm hsmz).mono ?_
          rintro e u5 ⟨rfl, H5⟩
          have hc5 : u5.cell? ⟨gm, km, none⟩ = some (.string sm) := H5.out.cell HYG.out hc
          have hHeld : (fun (V : World) => V.cell? ⟨bl, ol + i * 7 + 2, none⟩ = some (.int .i64 xb) ∧ V.cell? ⟨gm, km, none⟩ = some (.string sm)) u5 := ⟨KS2.out _ H5.out.below, hc5⟩
          refine hC.out _ _ (fun _ => hHeld) (fun _ => ?_)
          clear hC C
          (try simp only [Act.put, List.setIfInBounds_toArray, List.set_cons_zero, List.set_cons_succ])
          refine wpAnyZ_done (by kernel_rfl) ?_ _
          refine NoPanic.normal ?_
          go_wp2
          go_meet
          case rel => exact ⟨_, H5.out.reset, (HS2.out.sm.rename sn _).more (by omega) (by omega) (by omega), stay_rename HS2.out.z HNE.out HNE2.out⟩
        · go_wp2_with fail
          refine (oneRemove HS2.out.one hnum sn hsz).mono ?_
          rintro e u3 ⟨rfl, H3⟩
          go_wp2
          go_meet
          case rel => exact ⟨_, H3.out, (HS2.out.sm.remove sn).more (by omega) (by omega) (by omega), stay_remove HS2.out.z HNE.out⟩
        · have KS2 : Hid (∀ V, Below W.heap.size W V → (fun (V : World) => V.cell? ⟨bl, ol + i * 7 + 5, none⟩ = some (.slice kad klen kcap) ∧ V.cell? ⟨bl, ol + i * 7 + 6, none⟩ = some (.slice gad glen gcap)) V) := fun V hV => ⟨(HAT.out V hV).c5, (HAT.out V hV).c6⟩
          have hdrw : Below u2.heap.size u2 u2.drew := (Below.refl _ u2).drew
          go_upto_region 17 with fail
          refine wp_region_noPanic ?_
          refine wp_region_z [] (fun (V : World) => V.cell? ⟨bl, ol + i * 7 + 5, none⟩ = some (.slice kad klen kcap) ∧ V.cell? ⟨bl, ol + i * 7 + 6, none⟩ = some (.slice gad glen gcap)) (by kernel_rfl) ?_
          have hHeld : (fun (V : World) => V.cell? ⟨bl, ol + i * 7 + 5, none⟩ = some (.slice kad klen kcap) ∧ V.cell? ⟨bl, ol + i * 7 + 6, none⟩ = some (.slice gad glen gcap)) _ := KS2.out _ (HB2.out.trans (hdrw.mono HB2.out.size))
          obtain ⟨u0, hu0⟩ : ∃ u, u = u2.drew := ⟨_, rfl⟩
          rw [← hu0] at hHeld hdrw
          rw [← hu0]
          clear hu0
          have HO0 : Hid (One W (fun j => j < W.heap.size) W u0 kf s) := HS2.out.one.on hdrw
          clear hdrw
          refine wpAnyZ_take (i := 0) (oi := ⟨_, _, _, _, _, _⟩) (v := ?_) rfl (by kernel_rfl) (by kernel_rfl) (by kernel_rfl) (by kernel_rfl) (by kernel_rfl) (fun _ _ _ h => h) (Or.inl ⟨by rfl, ?_⟩) (by assumption) ?_
          rotate_left
          · intro W hSw
            (try dsimp only at hSw)
            go_simp
            (try with_reducible rfl)
          (try simp only [Act.put, List.setIfInBounds_toArray, List.set_cons_zero, List.set_cons_succ])
          refine wpAnyZ_take (i := 1) (oi := ⟨_, _, _, _, _, _⟩) (v := ?_) rfl (by kernel_rfl) (by kernel_rfl) (by kernel_rfl) (by kernel_rfl) (by kernel_rfl) (fun _ _ _ h => h) (Or.inl ⟨by rfl, ?_⟩) (by assumption) ?_
          rotate_left
          · intro W hSw
            (try dsimp only at hSw)
            go_simp
            (try with_reducible rfl)
          (try simp only [Act.put, List.setIfInBounds_toArray, List.set_cons_zero, List.set_cons_succ])
          refine wpAnyZ_take (i := 2) (oi := ⟨_, _, _, _, _, _⟩) (v := ?_) rfl (by kernel_rfl) (by kernel_rfl) (by kernel_rfl) (by kernel_rfl) (by kernel_rfl) (fun _ _ _ h => h) (Or.inl ⟨by rfl, ?_⟩) (by assumption) ?_
          rotate_left
          · intro W hSw
            (try dsimp only at hSw)
            go_simp
            (try with_reducible rfl)
          (try simp only [Act.put, List.setIfInBounds_toArray, List.set_cons_zero, List.set_cons_succ])
          refine wpAnyZ_take (i := 3) (oi := ⟨_, _, _, _, _, _⟩) (v := ?_) rfl (by kernel_rfl) (by kernel_rfl) (by kernel_rfl) (by kernel_rfl) (by kernel_rfl) (fun _ _ _ h => h) (Or.inl ⟨by rfl, ?_⟩) (by assumption) ?_
          rotate_left
          · intro W hSw
            (try dsimp only at hSw)
            go_simp
            (try with_reducible rfl)
          (try simp only [Act.put, List.setIfInBounds_toArray, List.set_cons_zero, List.set_cons_succ])
          refine wpAnyZ_take (i := 4) (oi := ⟨_, _, _, _, _, _⟩) (v := ?_) rfl (by kernel_rfl) (by kernel_rfl) (by kernel_rfl) (by kernel_rfl) (by kernel_rfl) (fun _ _ _ h => h) (Or.inl ⟨by rfl, ?_⟩) (by assumption) ?_
          rotate_left
          · intro W hSw
            (try dsimp only at hSw)
            go_simp
            (try with_reducible rfl)
          (try simp only [Act.put, List.setIfInBounds_toArray, List.set_cons_zero, List.set_cons_succ])
          refine wpAnyZ_take (i := 5) (oi := ⟨_, _, _, _, _, _⟩) (v := ?_) rfl (by kernel_rfl) (by kernel_rfl) (by kernel_rfl) (by kernel_rfl) (by kernel_rfl) (fun _ _ _ h => h) (Or.inl ⟨by rfl, ?_⟩) (by assumption) ?_
          rotate_left
          · intro W hSw
            (try dsimp only at hSw)
            go_simp
            (try with_reducible rfl)
          (try simp only [Act.put, List.setIfInBounds_toArray, List.set_cons_zero, List.set_cons_succ])
          refine wpAnyZ_take (i := 6) (oi := ⟨_, _, _, _, _, _⟩) (v := ?_) rfl (by kernel_rfl) (by kernel_rfl) (by kernel_rfl) (by kernel_rfl) (by kernel_rfl) (fun _ _ _ h => h) (Or.inl ⟨by rfl, ?_⟩) (by assumption) ?_
          rotate_left
          · intro W hSw
            (try dsimp only at hSw)
            go_simp
            (try with_reducible rfl)
          (try simp only [Act.put, List.setIfInBounds_toArray, List.set_cons_zero, List.set_cons_succ])
          refine wpAnyZ_take (i := 7) (oi := ⟨_, _, _, _, _, _⟩) (v := ?_) rfl (by kernel_rfl) (by kernel_rfl) (by kernel_rfl) (by kernel_rfl) (by kernel_rfl) (fun _ _ _ h => h) (Or.inl ⟨by rfl, ?_⟩) (by assumption) ?_
          rotate_left
          · intro W hSw
            (try dsimp only at hSw)
            go_simp
            (try with_reducible rfl)
          (try simp only [Act.put, List.setIfInBounds_toArray, List.set_cons_zero, List.set_cons_succ])
          refine wpAnyZ_take (i := 8) (oi := ⟨_, _, _, _, _, _⟩) (v := ?_) rfl (by kernel_rfl) (by kernel_rfl) (by kernel_rfl) (by kernel_rfl) (by kernel_rfl) (fun _ _ _ h => h) (Or.inl ⟨by rfl, ?_⟩) (by assumption) ?_
          rotate_left
          · intro W hSw
            (try dsimp only at hSw)
            go_simp
            (try with_reducible rfl)
          (try simp only [Act.put, List.setIfInBounds_toArray, List.set_cons_zero, List.set_cons_succ])
          refine wpAnyZ_take (i := 9) (oi := ⟨_, _, _, _, _, _⟩) (v := ?_) rfl (by kernel_rfl) (by kernel_rfl) (by kernel_rfl) (by kernel_rfl) (by kernel_rfl) (fun _ _ _ h => h) (Or.inl ⟨by rfl, ?_⟩) (by assumption) ?_
          rotate_left
          · intro W hSw
            (try dsimp only at hSw)
            go_simp
            (try with_reducible rfl)
          (try simp only [Act.put, List.setIfInBounds_toArray, List.set_cons_zero, List.set_cons_succ])
          refine wpAnyZ_take (i := 10) (oi := ⟨_, _, _, _, _, _⟩) (v := ?_) rfl (by kernel_rfl) (by kernel_rfl) (by kernel_rfl) (by kernel_rfl) (by kernel_rfl) (fun _ _ _ h => h) (Or.inl ⟨by rfl, ?_⟩) (by assumption) ?_
          rotate_left
          · intro W hSw
            (try dsimp only at hSw)
            go_simp
            (try with_reducible rfl)
          (try simp only [Act.put, List.setIfInBounds_toArray, List.set_cons_zero, List.set_cons_succ])
          refine wpAnyZ_ready (rs := [11]) (by kernel_rfl) (by simp) ?_
          refine AllReadyZ.cons (o := ⟨_, _, _, _, _, _⟩) rfl (fun C hC => ?_) AllReadyZ.nil
          go_simp
          refine (oneCrash HO0.out hlen HT.out h2 (fun f hf => by have := HBIG.out f hf; omega) (Below.refl _ _) kad klen kcap ks (HX.out.k.keep HO0.out.below) (fun a e h0 => .inl (HX.out.k.lt h0 a e)) HX.out.ki gad glen gcap gs (HX.out.g.keep HO0.out.below) (fun a e h0 => .inl (HX.out.g.lt h0 a e)) HX.out.ga).mono ?_
          rintro e u5 ⟨rfl, H5⟩
          have hHeld : (fun (V : World) => V.cell? ⟨bl, ol + i * 7 + 5, none⟩ = some (.slice kad klen kcap) ∧ V.cell? ⟨bl, ol + i * 7 + 6, none⟩ = some (.slice gad glen gcap)) u5 := KS2.out _ H5.out.below
          refine hC.out _ _ (fun _ => hHeld) (fun _ => ?_)
          clear hC C
          (try simp only [Act.put, List.setIfInBounds_toArray, List.set_cons_zero, List.set_cons_succ])
          refine wpAnyZ_done (by kernel_rfl) ?_ _
          refine NoPanic.normal ?_
          go_wp2
          go_meet
          case rel => exact ⟨_, H5.out, (HS2.out.sm.crash _ _).more (by omega) (by omega) (by omega), stay_crash HS2.out.z rfl _ _⟩
        · go_wp2_with fail
          refine (oneAppend HS2.out.one hnum hlen sn hsz (Below.refl _ _) bad blen bcap B (HRB.out.keep HB2.out) HBA.out (fun a e h0 => .inl (HLTB.out a e h0)) (fun f hf _ => by have := HBIG.out f hf; omega) (by omega)).mono ?_
          rintro e u3 ⟨rfl, H3⟩
          go_wp2
          go_meet
          case rel => exact ⟨_, H3.out, (HS2.out.sm.append sn _).more (by omega) (by have := HLB.out; omega) (by omega), stay_append HS2.out.z HNE.out⟩
        · go_wp2_with fail
          refine (oneAppend HS2.out.one hnum hlen sn hsz (Below.refl _ _) bad blen bcap B (HRB.out.keep HB2.out) HBA.out (fun a e h0 => .inl (HLTB.out a e h0)) (fun f hf _ => by have := HBIG.out f hf; omega) (by omega)).mono ?_
          rintro e u3 ⟨rfl, H3⟩
          go_wp2
          go_meet
          case rel => exact ⟨_, H3.out, (HS2.out.sm.append sn _).more (by omega) (by have := HLB.out; omega) (by omega), stay_append HS2.out.z HNE.out⟩
      case rest =>
        obtain ⟨s2, HS3⟩ := hcut
        clear HS2 HB2 HNE
        obtain ⟨hbig, hlen, hnum⟩ := HS3.out.big (by omega)
        have hrd0 := read_of HS3.out.one.sorted HS3.out.z
        have HRD : Hid (readF s2.l nZ = some A) := hrd0
        clear hrd0
        go_wp2_with fail
        refine (oneRead HS3.out.one nZ (by decide) (fun f hf => by have := hbig f hf; omega)).mono ?_
        rintro e w5 hrd
        rw [HRD.out] at hrd
        obtain ⟨hb5, cad, ccap, rfl, hr5⟩ := hrd
        have H5 : Hid (ApAt W w5 (fun j => j < W.heap.size) W kf s2 (i + 1) A) := ⟨HS3.out.one.on hb5.out, HS3.out.sm, HS3.out.z⟩
        have hc1 : (convert 23 9 (.slice cad A.length ccap)).run Tryd.prog w5 = .ok (.string sA) w5 := str_row hr5.out.1 HAA.out HSA.out
        have hc2 : (convert 23 9 (.slice aad alen acap)).run Tryd.prog w5 = .ok (.string sA) w5 := str_row (HRA.out.keep H5.out.one.below) HAA.out HSA.out
        clear HS3 hb5 hr5 hbig hlen hnum
        go_wp2
        go_roundw
        case rel => exact ⟨i + 1, s2, by go_num, by omega, by omega, H5.out⟩
        case measure => simp [intOf]; omega
    · have HE : Hid (¬ (i < len ∧ i < 60)) := hlt
      have hln := len_of HS.out.one.sorted HS.out.z
      have HLN : Hid (lenF s.l nZ = alen) := by show _ = _; rw [← HLA.out]; exact hln
      clear hln
      have hrest : ∀ (q : Bool), True := fun _ => trivial
      by_cases hd : i < len
      · have hd1 : decide (i < len) = true := decide_eq_true hd
        obtain rfl : i = 60 := by have := HE.out; omega
        clear hlt
        go_wp2_with fail
        refine (oneLen HS.out.one nZ (by decide)).mono ?_
        rintro e w5 ⟨rfl, rfl⟩
        rw [HLN.out]
        go_wp2_with fail
        refine (known_any wo (HT.out.keep HS.out.one.below) (Nat.le_trans h2 HS.out.one.below.size)).mono ?_
        rintro e w9 ⟨rfl, hb9⟩
        have HB9 := Lib.hid (HS.out.one.below.trans (hb9.mono HS.out.one.below.size))
        clear hb9
        go_wp2
        go_ret
        exact ⟨rfl, HB9.out⟩
      · have hd1 : decide (i < len) = false := decide_eq_false hd
        clear hlt
        go_wp2_with fail
        refine (oneLen HS.out.one nZ (by decide)).mono ?_
        rintro e w5 ⟨rfl, rfl⟩
        rw [HLN.out]
        go_wp2_with fail
        refine (known_any wo (HT.out.keep HS.out.one.below) (Nat.le_trans h2 HS.out.one.below.size)).mono ?_
        rintro e w9 ⟨rfl, hb9⟩
        have HB9 := Lib.hid (HS.out.one.below.trans (hb9.mono HS.out.one.below.size))
        clear hb9
        go_wp2
        go_ret
        exact ⟨rfl, HB9.out⟩
end Go.Proofs.YtjocfkkcnkpjdaaDoor
