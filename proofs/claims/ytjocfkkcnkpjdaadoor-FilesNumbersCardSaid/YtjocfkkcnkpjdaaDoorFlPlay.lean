/- The law's play: the code's files and the document's own, asked the same. -/
import Derived.Test.YtjocfkkcnkpjdaaDoorFlMix
namespace Go.Proofs.YtjocfkkcnkpjdaaDoor
open Go.RowKit
open Go.RuneMath
open Go.FsMath
set_option linter.unusedVariables false

/-- Before ask i. -/
structure PlAt (W wr : World) (kf kw : Nat) (s : Fs) (i : Nat) : Prop where
  mix : Mix W (fun _ => False) wr wr kf s kw s
  sm : Sm s (i + 1) (1048576 * (i + 1)) (i + 1)
theorem Mix.ask {W w1 w : World} {E : Nat → Prop} {kf kw b o : Nat} {sf sg : Fs} {x : Ak} (h : Mix W E w1 w kf sf kw sg) (hb : E b) (ha : AskAt w1 b o x) : AskAt w b o x :=
  ⟨h.cell hb ha.c0, h.cell hb ha.c1, h.cell hb ha.c2, h.cell hb ha.c3, h.cell hb ha.c4, h.cell hb ha.c5, h.cell hb ha.c6⟩
theorem box_ask (w : World) (kd xa xb xn : Int) (pad : Option Addr) (plen pcap : Nat) (ps : List Nat) (kad : Option Addr) (klen kcap : Nat) (ks : List Int) (gad : Option Addr) (glen gcap : Nat) (gs : List Nat) :
    AskAt (w.alloc (.cells #[.int .i64 kd, .int .i64 xa, .int .i64 xb, .int .i64 xn, .slice pad plen pcap, .slice kad klen kcap, .slice gad glen gcap] 26)) w.heap.size 0 ⟨kd, xa, xb, xn, pad, plen, pcap, ps, kad, klen, kcap, ks, gad, glen, gcap, gs⟩ := by
  have h := heap_alloc_new w (.cells #[.int .i64 kd, .int .i64 xa, .int .i64 xb, .int .i64 xn, .slice pad plen pcap, .slice kad klen kcap, .slice gad glen gcap] 26)
  exact ⟨by rw [cell_of_row _ _ 0 _ _ _ h]; rfl, by rw [cell_of_row _ _ 1 _ _ _ h]; rfl, by rw [cell_of_row _ _ 2 _ _ _ h]; rfl, by rw [cell_of_row _ _ 3 _ _ _ h]; rfl, by rw [cell_of_row _ _ 4 _ _ _ h]; rfl, by rw [cell_of_row _ _ 5 _ _ _ h]; rfl, by rw [cell_of_row _ _ 6 _ _ _ h]; rfl⟩
set_option maxRecDepth 100000 in
set_option maxHeartbeats 16000000 in
theorem play_any (W : World) (lad : Option Addr) (len cap : Nat) (l : List Ak) (hl : RowAt askK W lad len cap l) (hin : ∀ x ∈ l, AskIn W x) (hT : Tabs W) (h2 : 2 ≤ W.heap.size) :
    Calls Tryd.prog 9 #[.slice lad len cap] W fun e w' => e = .returned (.bool true) ∧ Below W.heap.size W w' := by
  have HRL := Lib.hid hl
  have HIN := Lib.hid hin
  have HT := Lib.hid hT
  have kc := fun (w : World) (C : Array Value) (n c : Nat) => Lib.run_convert_bytes_const (P := Tryd.prog) w 23 5 C n c Tryd.underlying23 Tryd.underlying5
  clear hT hl hin
  go_enter Tryd.func9, Tryd.ntmps9
  go_wp2_with fail
  refine (oneNew W (Below.refl _ W)).mono ?_
  rintro e w1 ⟨kf, rfl, H1⟩
  go_wp2_with fail
  refine (fsNew_any w1).mono ?_
  rintro e w2 ⟨kw, rfl, hkw, hok2, hb2⟩
  have HST : Hid (PlAt W w2 kf kw ⟨[], -1, 0⟩ 0) := ⟨mix_new H1.out hok2 hkw hb2, ⟨Nat.zero_le _, fun f hf => (by cases hf), by show (0 : Int) ≤ 0; omega, by show (0 : Int) ≤ _; omega, by show (-1 : Int) ≤ -1; omega, by show (-1 : Int) ≤ _; omega⟩⟩
  clear H1 hkw hok2 hb2
  go_wp2_with fail
  go_loopw [5] (fun v5 wr => ∃ (i : Nat) (s : Fs), v5 = .int .i64 (i : Int) ∧ i ≤ 120 ∧ i ≤ len ∧ Hid (PlAt W wr kf kw s i)) (fun v5 _ => 120 - (intOf v5).toNat)
  case atStart => exact ⟨0, _, rfl, by omega, by omega, HST.out⟩
  case round =>
    obtain ⟨i, s, rfl, hi120, hil, HS⟩ := hrel
    obtain ⟨wo, hwo⟩ : ∃ wo : World, wo = wr := ⟨_, rfl⟩
    subst hwo
    clear HST
    by_cases hlt : i < len ∧ i < 120
    · obtain ⟨hlt1, hlt2⟩ := hlt
      have hd1 : decide (i < len) = true := decide_eq_true hlt1
      have hd2 : decide (i < 120) = true := decide_eq_true hlt2
      have hij : (i : Int) < (len : Int) := by omega
      obtain ⟨bl, ol, x, el, hbl2, hx, hat⟩ := ask_get HRL.out hlt1
      have HX := Lib.hid (HIN.out x (List.mem_of_getElem? hx))
      have hat := hat.on HS.out.mix.below hbl2
      have hka0 := HX.out.a0
      have hkb0 := HX.out.b0
      subst el
      clear hx
      obtain ⟨kd, xa, xb, xn, pad, plen, pcap, ps, kad, klen, kcap, ks, gad, glen, gcap, gs⟩ := x
      have a0 := hat.c0
      have a1 := hat.c1
      have a2 := hat.c2
      have a3 := hat.c3
      have a4 := hat.c4
      have a5 := hat.c5
      have a6 := hat.c6
      simp only at hka0 hkb0 a0 a1 a2 a3 a4 a5 a6
      clear hat
      go_upto_region 8 with fail
      obtain ⟨x, hx⟩ : ∃ x : Ak, x = ⟨kd, xa, xb, xn, pad, plen, pcap, ps, kad, klen, kcap, ks, gad, glen, gcap, gs⟩ := ⟨_, rfl⟩
      obtain ⟨wa, hwa⟩ : ∃ z, z = wo.alloc (.cells #[.int .i64 kd, .int .i64 xa, .int .i64 xb, .int .i64 xn, .slice pad plen pcap, .slice kad klen kcap, .slice gad glen gcap] 26) := ⟨_, rfl⟩
      obtain ⟨kx, hkx⟩ : ∃ z, z = wo.heap.size := ⟨_, rfl⟩
      have hba : Below wo.heap.size wo wa := by rw [hwa]; exact alloc_below _ _
      have HAX : Hid (AskAt wa kx 0 x) := by show AskAt _ _ _ _; rw [hwa, hkx, hx]; exact box_ask wo _ _ _ _ _ _ _ _ _ _ _ _ _ _ _ _
      have hkxl : kx < wa.heap.size := by rw [hkx, hwa]; simp
      have HMA := Lib.hid (HS.out.mix.on hba)
      have HKX : Hid (wo.heap.size ≤ kx ∧ kx < wa.heap.size) := ⟨by rw [hkx]; exact Nat.le_refl _, hkxl⟩
      have HBA := Lib.hid hba
      rw [← hx] at HX
      rw [← hwa, ← hkx]
      have KS : Hid (∀ V, Below wa.heap.size wa V → (fun (V : World) => V.cell? ⟨kx, 1, none⟩ = some (.int .i64 xa) ∧ V.cell? ⟨kx, 2, none⟩ = some (.int .i64 xb)) V) := fun V hV => by
        have h := HAX.out.on hV HKX.out.2
        rw [hx] at h
        exact ⟨h.c1, h.c2⟩
      clear hwa hkx hba hkxl a0 a1 a2 a3 a4 a5 a6
      have hdrw : Below wa.heap.size wa wa.drew := (Below.refl _ wa).drew
      refine wp_region_noPanic ?_
      refine wp_region_z [] (fun (V : World) => V.cell? ⟨kx, 1, none⟩ = some (.int .i64 xa) ∧ V.cell? ⟨kx, 2, none⟩ = some (.int .i64 xb)) (by kernel_rfl) ?_
      have hHeld : (fun (V : World) => V.cell? ⟨kx, 1, none⟩ = some (.int .i64 xa) ∧ V.cell? ⟨kx, 2, none⟩ = some (.int .i64 xb)) _ := KS.out _ hdrw
      obtain ⟨u0, hu0⟩ : ∃ u, u = wa.drew := ⟨_, rfl⟩
      rw [← hu0] at hHeld hdrw
      rw [← hu0]
      clear hu0
      have HO0 := Lib.hid hdrw
      clear hdrw
      refine wpAnyZ_take (i := 1) (oi := ⟨_, _, _, _, _, _⟩) (v := ?_) rfl (by kernel_rfl) (by kernel_rfl) (by kernel_rfl) (by kernel_rfl) (by kernel_rfl) (fun _ _ _ h => h) (Or.inl ⟨by rfl, ?_⟩) (by assumption) ?_
      rotate_left
      · intro W hSw
        (try dsimp only at hSw)
        go_simp
        (try with_reducible rfl)
      (try simp only [Act.put, List.setIfInBounds_toArray, List.set_cons_zero, List.set_cons_succ])
      refine wpAnyZ_take (i := 2) (oi := ⟨_, _, _, _, _, _⟩) (v := ?_) rfl (by kernel_rfl) (by kernel_rfl) (by kernel_rfl) (by kernel_rfl) (by kernel_rfl) (fun _ _ _ h => h) (Or.inl ⟨by rfl, ?_⟩) (by assumption) ?_
      rotate_left
      · intro W hSw
        (try dsimp only at hSw)
        go_simp
        (try with_reducible rfl)
      (try simp only [Act.put, List.setIfInBounds_toArray, List.set_cons_zero, List.set_cons_succ])
      refine wpAnyZ_take (i := 7) (oi := ⟨_, _, _, _, _, _⟩) (v := ?_) rfl (by kernel_rfl) (by kernel_rfl) (by kernel_rfl) (by kernel_rfl) (by kernel_rfl) (fun _ _ _ h => h) (Or.inl ⟨by rfl, ?_⟩) (by assumption) ?_
      rotate_left
      · intro W hSw
        (try dsimp only at hSw)
        go_simp
        (try with_reducible rfl)
      (try simp only [Act.put, List.setIfInBounds_toArray, List.set_cons_zero, List.set_cons_succ])
      refine wpAnyZ_take (i := 8) (oi := ⟨_, _, _, _, _, _⟩) (v := ?_) rfl (by kernel_rfl) (by kernel_rfl) (by kernel_rfl) (by kernel_rfl) (by kernel_rfl) (fun _ _ _ h => h) (Or.inl ⟨by rfl, ?_⟩) (by assumption) ?_
      rotate_left
      · intro W hSw
        (try dsimp only at hSw)
        go_simp
        (try with_reducible rfl)
      (try simp only [Act.put, List.setIfInBounds_toArray, List.set_cons_zero, List.set_cons_succ])
      refine wpAnyZ_ready (rs := [0]) (by kernel_rfl) (by simp) ?_
      refine AllReadyZ.cons (o := ⟨_, _, _, _, _, _⟩) rfl (fun C hC => ?_) AllReadyZ.nil
      go_simp
      refine (names_any u0).mono ?_
      rintro e u1 ⟨gn, rfl, HNM, HNB⟩
      have HO1 : Hid (Below wa.heap.size wa u1) := HO0.out.trans (HNB.out.1.mono HO0.out.size)
      have hHeld : (fun (V : World) => V.cell? ⟨kx, 1, none⟩ = some (.int .i64 xa) ∧ V.cell? ⟨kx, 2, none⟩ = some (.int .i64 xb)) u1 := KS.out _ HO1.out
      refine hC.out _ _ (fun _ => hHeld) (fun _ => ?_)
      clear hC C
      (try simp only [Act.put, List.setIfInBounds_toArray, List.set_cons_zero, List.set_cons_succ])
      refine wpAnyZ_ready (rs := [3]) (by kernel_rfl) (by simp) ?_
      refine AllReadyZ.cons (o := ⟨_, _, _, _, _, _⟩) rfl (fun C hC => ?_) AllReadyZ.nil
      go_simp
      refine (within_any xa 6 u1 hka0 (by omega)).mono ?_
      rintro e u2 ⟨kn, rfl, hkn, rfl⟩
      obtain ⟨sn, hsn, hsz, _⟩ := nm_at (k := kn) (by omega)
      have hc : u1.cell? ⟨gn, kn, none⟩ = some (.string sn) := HNM.out kn sn hsn
      have hkn7 : (kn : Int) < 7 := by omega
      have HGN : Hid (gn < u1.heap.size) := HNB.out.2.2
      have hHeld : (fun (V : World) => V.cell? ⟨kx, 1, none⟩ = some (.int .i64 xa) ∧ V.cell? ⟨kx, 2, none⟩ = some (.int .i64 xb)) u1 := hHeld
      refine hC.out _ _ (fun _ => hHeld) (fun _ => ?_)
      clear hC C
      (try simp only [Act.put, List.setIfInBounds_toArray, List.set_cons_zero, List.set_cons_succ])
      refine wpAnyZ_strengthen (S' := (fun (V : World) => (V.cell? ⟨kx, 1, none⟩ = some (.int .i64 xa) ∧ V.cell? ⟨kx, 2, none⟩ = some (.int .i64 xb)) ∧ V.cell? ⟨gn, kn, none⟩ = some (.string sn))) (fun V h => h.1) _ _ _ _ ?_
      clear hHeld
      have hHeld : (fun (V : World) => (V.cell? ⟨kx, 1, none⟩ = some (.int .i64 xa) ∧ V.cell? ⟨kx, 2, none⟩ = some (.int .i64 xb)) ∧ V.cell? ⟨gn, kn, none⟩ = some (.string sn)) u1 := ⟨KS.out _ HO1.out, hc⟩
      refine wpAnyZ_take (i := 4) (oi := ⟨_, _, _, _, _, _⟩) (v := ?_) rfl (by kernel_rfl) (by kernel_rfl) (by kernel_rfl) (by kernel_rfl) (by kernel_rfl) (fun _ _ _ h => h) (Or.inl ⟨by rfl, ?_⟩) (by assumption) ?_
      rotate_left
      · intro W hSw
        (try dsimp only at hSw)
        go_simp
        (try with_reducible rfl)
      (try simp only [Act.put, List.setIfInBounds_toArray, List.set_cons_zero, List.set_cons_succ])
      refine wpAnyZ_take (i := 5) (oi := ⟨_, _, _, _, _, _⟩) (v := ?_) rfl (by kernel_rfl) (by kernel_rfl) (by kernel_rfl) (by kernel_rfl) (by kernel_rfl) (fun _ _ _ h => h) (Or.inl ⟨by rfl, ?_⟩) (by assumption) ?_
      rotate_left
      · intro W hSw
        (try dsimp only at hSw)
        go_simp
        (try with_reducible rfl)
      (try simp only [Act.put, List.setIfInBounds_toArray, List.set_cons_zero, List.set_cons_succ])
      clear HNM HNB hsn
      refine wpAnyZ_ready (rs := [6]) (by kernel_rfl) (by simp) ?_
      refine AllReadyZ.cons (o := ⟨_, _, _, _, _, _⟩) rfl (fun C hC => ?_) AllReadyZ.nil
      go_simp
      refine (names_any u1).mono ?_
      rintro e u3 ⟨gm, rfl, HNM, HNB⟩
      have HO3 : Hid (Below wa.heap.size wa u3) := HO1.out.trans (HNB.out.1.mono HO1.out.size)
      have hc3 : u3.cell? ⟨gn, kn, none⟩ = some (.string sn) := (HNB.out.1.cell (p := ⟨gn, kn, none⟩) HGN.out).trans hc
      clear hc
      have hHeld : (fun (V : World) => (V.cell? ⟨kx, 1, none⟩ = some (.int .i64 xa) ∧ V.cell? ⟨kx, 2, none⟩ = some (.int .i64 xb)) ∧ V.cell? ⟨gn, kn, none⟩ = some (.string sn)) u3 := ⟨KS.out _ HO3.out, hc3⟩
      refine hC.out _ _ (fun _ => hHeld) (fun _ => ?_)
      clear hC C
      (try simp only [Act.put, List.setIfInBounds_toArray, List.set_cons_zero, List.set_cons_succ])
      refine wpAnyZ_ready (rs := [9]) (by kernel_rfl) (by simp) ?_
      refine AllReadyZ.cons (o := ⟨_, _, _, _, _, _⟩) rfl (fun C hC => ?_) AllReadyZ.nil
      go_simp
      refine (within_any xb 6 u3 hkb0 (by omega)).mono ?_
      rintro e u4 ⟨km, rfl, hkm, rfl⟩
      obtain ⟨sm, hsm, hsmz, _⟩ := nm_at (k := km) (by omega)
      have hc4 : u3.cell? ⟨gm, km, none⟩ = some (.string sm) := HNM.out km sm hsm
      have hkm7 : (km : Int) < 7 := by omega
      have hHeld : (fun (V : World) => (V.cell? ⟨kx, 1, none⟩ = some (.int .i64 xa) ∧ V.cell? ⟨kx, 2, none⟩ = some (.int .i64 xb)) ∧ V.cell? ⟨gn, kn, none⟩ = some (.string sn)) u3 := hHeld
      refine hC.out _ _ (fun _ => hHeld) (fun _ => ?_)
      clear hC C
      (try simp only [Act.put, List.setIfInBounds_toArray, List.set_cons_zero, List.set_cons_succ])
      refine wpAnyZ_strengthen (S' := (fun (V : World) => ((V.cell? ⟨kx, 1, none⟩ = some (.int .i64 xa) ∧ V.cell? ⟨kx, 2, none⟩ = some (.int .i64 xb)) ∧ V.cell? ⟨gn, kn, none⟩ = some (.string sn)) ∧ V.cell? ⟨gm, km, none⟩ = some (.string sm))) (fun V h => h.1) _ _ _ _ ?_
      clear hHeld
      have hHeld : (fun (V : World) => ((V.cell? ⟨kx, 1, none⟩ = some (.int .i64 xa) ∧ V.cell? ⟨kx, 2, none⟩ = some (.int .i64 xb)) ∧ V.cell? ⟨gn, kn, none⟩ = some (.string sn)) ∧ V.cell? ⟨gm, km, none⟩ = some (.string sm)) u3 := ⟨⟨KS.out _ HO3.out, hc3⟩, hc4⟩
      refine wpAnyZ_take (i := 10) (oi := ⟨_, _, _, _, _, _⟩) (v := ?_) rfl (by kernel_rfl) (by kernel_rfl) (by kernel_rfl) (by kernel_rfl) (by kernel_rfl) (fun _ _ _ h => h) (Or.inl ⟨by rfl, ?_⟩) (by assumption) ?_
      rotate_left
      · intro W hSw
        (try dsimp only at hSw)
        go_simp
        (try with_reducible rfl)
      (try simp only [Act.put, List.setIfInBounds_toArray, List.set_cons_zero, List.set_cons_succ])
      refine wpAnyZ_take (i := 11) (oi := ⟨_, _, _, _, _, _⟩) (v := ?_) rfl (by kernel_rfl) (by kernel_rfl) (by kernel_rfl) (by kernel_rfl) (by kernel_rfl) (fun _ _ _ h => h) (Or.inl ⟨by rfl, ?_⟩) (by assumption) ?_
      rotate_left
      · intro W hSw
        (try dsimp only at hSw)
        go_simp
        (try with_reducible rfl)
      (try simp only [Act.put, List.setIfInBounds_toArray, List.set_cons_zero, List.set_cons_succ])
      refine wpAnyZ_take (i := 12) (oi := ⟨_, _, _, _, _, _⟩) (v := ?_) rfl (by kernel_rfl) (by kernel_rfl) (by kernel_rfl) (by kernel_rfl) (by kernel_rfl) (fun _ _ _ h => h) (Or.inl ⟨by rfl, ?_⟩) (by assumption) ?_
      rotate_left
      · intro W hSw
        (try dsimp only at hSw)
        go_simp
        (try with_reducible rfl)
      (try simp only [Act.put, List.setIfInBounds_toArray, List.set_cons_zero, List.set_cons_succ])
      refine wpAnyZ_take (i := 13) (oi := ⟨_, _, _, _, _, _⟩) (v := ?_) rfl (by kernel_rfl) (by kernel_rfl) (by kernel_rfl) (by kernel_rfl) (by kernel_rfl) (fun _ _ _ h => h) (Or.inl ⟨by rfl, ?_⟩) (by assumption) ?_
      rotate_left
      · intro W hSw
        (try dsimp only at hSw)
        go_simp
        (try with_reducible rfl)
      (try simp only [Act.put, List.setIfInBounds_toArray, List.set_cons_zero, List.set_cons_succ])
      refine wpAnyZ_done (by kernel_rfl) ?_ _
      refine NoPanic.normal ?_
      clear hHeld hc3 hc4 HNM HNB HO0 HO1 hsm KS HGN hkn hkm hkn7 hkm7
      obtain ⟨u5, hu5⟩ : ∃ u, u = u3 := ⟨_, rfl⟩
      subst hu5
      have HB5 := Lib.hid HO3.out
      clear HO3
      obtain ⟨D, hD, HDK⟩ : ∃ D, Mix W D u5 u5 kf s kw s ∧ Hid (D kx) := by
        obtain ⟨D1, h1, _, h3⟩ := HS.out.mix.held (HBA.out.trans (HB5.out.mono HBA.out.size))
        exact ⟨D1, h1, h3 kx HKX.out.1 (Nat.lt_of_lt_of_le HKX.out.2 HB5.out.size)⟩
      have HM := Lib.hid hD
      have HF := Lib.hid (hD.fit HS.out.sm (by omega) (by omega) (by omega))
      have HAX : Hid (AskAt u5 kx 0 x) := HAX.out.on HB5.out HKX.out.2
      have HP : Hid (RowAt byteK W pad plen pcap ps) := by have h := HX.out.p; rw [hx] at h; exact h
      have HPA : Hid (AllB ps) := by have h := HX.out.pa; rw [hx] at h; exact h
      have hpl : plen ≤ 1048576 := by have h := HX.out.pl; rw [hx] at h; exact h
      have HKR : Hid (RowAt keepK W kad klen kcap ks ∧ ∀ k ∈ ks, -9223372036854775808 ≤ k ∧ k ≤ 9223372036854775807) := by have h := HX.out.k; have h' := HX.out.ki; rw [hx] at h h'; exact ⟨h, h'⟩
      have HGR : Hid (RowAt byteK W gad glen gcap gs ∧ AllB gs) := by have h := HX.out.g; have h' := HX.out.ga; rw [hx] at h h'; exact ⟨h, h'⟩
      have hnum := HF.out.num
      have hlen : s.l.length ≤ 10000 := by have := HF.out.n; omega
      have hA5 := HAX.out
      rw [hx] at hA5
      have b0 : u5.cell? ⟨kx, 0, none⟩ = some (.int .i64 kd) := hA5.c0
      have b3 : u5.cell? ⟨kx, 3, none⟩ = some (.int .i64 xn) := hA5.c3
      have b4 : u5.cell? ⟨kx, 4, none⟩ = some (.slice pad plen pcap) := hA5.c4
      have b5 : u5.cell? ⟨kx, 5, none⟩ = some (.slice kad klen kcap) := hA5.c5
      have b6 : u5.cell? ⟨kx, 6, none⟩ = some (.slice gad glen gcap) := hA5.c6
      clear hD hA5 HMA HB5 HBA
      by_cases hk3 : kd = 3
      · subst hk3
        have KB : Hid (∀ V sf sg, Mix W D u5 V kf sf kw sg → (fun (V : World) => V.cell? ⟨kx, 3, none⟩ = some (.int .i64 xn)) V) := fun V sf sg hV => by
          have h := hV.ask HDK.out HAX.out
          rw [hx] at h
          exact h.c3
        go_upto_region 13 with fail
        have HMd : Hid (Mix W D u5 u5.drew kf s kw s) := HM.out.on (Below.refl _ u5).drew
        refine wp_region_noPanic ?_
        refine wp_region_z [] (fun (V : World) => V.cell? ⟨kx, 3, none⟩ = some (.int .i64 xn)) (by kernel_rfl) ?_
        have hHeld : (fun (V : World) => V.cell? ⟨kx, 3, none⟩ = some (.int .i64 xn)) _ := KB.out _ _ _ HMd.out
        obtain ⟨ud, hud⟩ : ∃ u, u = u5.drew := ⟨_, rfl⟩
        rw [← hud] at hHeld HMd
        rw [← hud]
        clear hud
        refine wpAnyZ_take (i := 0) (oi := ⟨_, _, _, _, _, _⟩) (v := ?_) rfl (by kernel_rfl) (by kernel_rfl) (by kernel_rfl) (by kernel_rfl) (by kernel_rfl) (fun _ _ _ h => h) (Or.inl ⟨by rfl, ?_⟩) (by assumption) ?_
        rotate_left
        · intro W hSw
          (try dsimp only at hSw)
          go_simp
          (try with_reducible rfl)
        (try simp only [Act.put, List.setIfInBounds_toArray, List.set_cons_zero, List.set_cons_succ])
        refine wpAnyZ_take (i := 1) (oi := ⟨_, _, _, _, _, _⟩) (v := ?_) rfl (by kernel_rfl) (by kernel_rfl) (by kernel_rfl) (by kernel_rfl) (by kernel_rfl) (fun _ _ _ h => h) (Or.inl ⟨by rfl, ?_⟩) (by assumption) ?_
        rotate_left
        · intro W hSw
          (try dsimp only at hSw)
          go_simp
          (try with_reducible rfl)
        (try simp only [Act.put, List.setIfInBounds_toArray, List.set_cons_zero, List.set_cons_succ])
        refine wpAnyZ_take (i := 2) (oi := ⟨_, _, _, _, _, _⟩) (v := ?_) rfl (by kernel_rfl) (by kernel_rfl) (by kernel_rfl) (by kernel_rfl) (by kernel_rfl) (fun _ _ _ h => h) (Or.inl ⟨by rfl, ?_⟩) (by assumption) ?_
        rotate_left
        · intro W hSw
          (try dsimp only at hSw)
          go_simp
          (try with_reducible rfl)
        (try simp only [Act.put, List.setIfInBounds_toArray, List.set_cons_zero, List.set_cons_succ])
        refine wpAnyZ_take (i := 3) (oi := ⟨_, _, _, _, _, _⟩) (v := ?_) rfl (by kernel_rfl) (by kernel_rfl) (by kernel_rfl) (by kernel_rfl) (by kernel_rfl) (fun _ _ _ h => h) (Or.inl ⟨by rfl, ?_⟩) (by assumption) ?_
        rotate_left
        · intro W hSw
          (try dsimp only at hSw)
          go_simp
          (try with_reducible rfl)
        (try simp only [Act.put, List.setIfInBounds_toArray, List.set_cons_zero, List.set_cons_succ])
        refine wpAnyZ_take (i := 5) (oi := ⟨_, _, _, _, _, _⟩) (v := ?_) rfl (by kernel_rfl) (by kernel_rfl) (by kernel_rfl) (by kernel_rfl) (by kernel_rfl) (fun _ _ _ h => h) (Or.inl ⟨by rfl, ?_⟩) (by assumption) ?_
        rotate_left
        · intro W hSw
          (try dsimp only at hSw)
          go_simp
          (try with_reducible rfl)
        (try simp only [Act.put, List.setIfInBounds_toArray, List.set_cons_zero, List.set_cons_succ])
        refine wpAnyZ_take (i := 6) (oi := ⟨_, _, _, _, _, _⟩) (v := ?_) rfl (by kernel_rfl) (by kernel_rfl) (by kernel_rfl) (by kernel_rfl) (by kernel_rfl) (fun _ _ _ h => h) (Or.inl ⟨by rfl, ?_⟩) (by assumption) ?_
        rotate_left
        · intro W hSw
          (try dsimp only at hSw)
          go_simp
          (try with_reducible rfl)
        (try simp only [Act.put, List.setIfInBounds_toArray, List.set_cons_zero, List.set_cons_succ])
        refine wpAnyZ_take (i := 7) (oi := ⟨_, _, _, _, _, _⟩) (v := ?_) rfl (by kernel_rfl) (by kernel_rfl) (by kernel_rfl) (by kernel_rfl) (by kernel_rfl) (fun _ _ _ h => h) (Or.inl ⟨by rfl, ?_⟩) (by assumption) ?_
        rotate_left
        · intro W hSw
          (try dsimp only at hSw)
          go_simp
          (try with_reducible rfl)
        (try simp only [Act.put, List.setIfInBounds_toArray, List.set_cons_zero, List.set_cons_succ])
        refine wpAnyZ_take (i := 8) (oi := ⟨_, _, _, _, _, _⟩) (v := ?_) rfl (by kernel_rfl) (by kernel_rfl) (by kernel_rfl) (by kernel_rfl) (by kernel_rfl) (fun _ _ _ h => h) (Or.inl ⟨by rfl, ?_⟩) (by assumption) ?_
        rotate_left
        · intro W hSw
          (try dsimp only at hSw)
          go_simp
          (try with_reducible rfl)
        (try simp only [Act.put, List.setIfInBounds_toArray, List.set_cons_zero, List.set_cons_succ])
        refine wpAnyZ_ready (rs := [4]) (by kernel_rfl) (by simp) ?_
        refine AllReadyZ.cons (o := ⟨_, _, _, _, _, _⟩) rfl (fun C hC => ?_) AllReadyZ.nil
        go_simp
        refine (mix_did HMd.out (fun X ho => oneTruncate ho hnum sn hsz xn)).mono ?_
        rintro e u6 ⟨rfl, H6⟩
        have hHeld : (fun (V : World) => V.cell? ⟨kx, 3, none⟩ = some (.int .i64 xn)) u6 := KB.out _ _ _ H6.out
        refine hC.out _ _ (fun _ => hHeld) (fun _ => ?_)
        clear hC C
        (try simp only [Act.put, List.setIfInBounds_toArray, List.set_cons_zero, List.set_cons_succ])
        refine wpAnyZ_ready (rs := [9]) (by kernel_rfl) (by simp) ?_
        refine AllReadyZ.cons (o := ⟨_, _, _, _, _, _⟩) rfl (fun C hC => ?_) AllReadyZ.nil
        go_simp
        refine (mixTruncate H6.out HF.out sn hsz xn).mono ?_
        rintro e u7 ⟨rfl, H7⟩
        have hHeld : (fun (V : World) => V.cell? ⟨kx, 3, none⟩ = some (.int .i64 xn)) u7 := KB.out _ _ _ H7.out
        refine hC.out _ _ (fun _ => hHeld) (fun _ => ?_)
        clear hC C
        (try simp only [Act.put, List.setIfInBounds_toArray, List.set_cons_zero, List.set_cons_succ])
        refine wpAnyZ_take (i := 10) (oi := ⟨_, _, _, _, _, _⟩) (v := ?_) rfl (by kernel_rfl) (by kernel_rfl) (by kernel_rfl) (by kernel_rfl) (by kernel_rfl) (fun _ _ _ h => h) (Or.inl ⟨by rfl, ?_⟩) (by assumption) ?_
        rotate_left
        · intro W hSw
          (try dsimp only at hSw)
          go_simp
          (try with_reducible rfl)
        (try simp only [Act.put, List.setIfInBounds_toArray, List.set_cons_zero, List.set_cons_succ])
        refine wpAnyZ_take (i := 11) (oi := ⟨_, _, _, _, _, _⟩) (v := ?_) rfl (by kernel_rfl) (by kernel_rfl) (by kernel_rfl) (by kernel_rfl) (by kernel_rfl) (fun _ _ _ h => h) (Or.inl ⟨by rfl, ?_⟩) (by assumption) ?_
        rotate_left
        · intro W hSw
          (try dsimp only at hSw)
          go_simp
          (try with_reducible rfl)
        (try simp only [Act.put, List.setIfInBounds_toArray, List.set_cons_zero, List.set_cons_succ])
        refine wpAnyZ_done (by kernel_rfl) ?_ _
        refine NoPanic.normal ?_
        clear hHeld HMd KB
        have HSMR := Lib.hid ((HS.out.sm.trunc sn xn).more (L' := i + 1 + 1) (M' := 1048576 * (i + 1 + 1)) (D' := ((i + 1 : Nat) : Int) + 1) (by omega) (by omega) (by omega))
        obtain ⟨r, hr⟩ : ∃ r : Int × Fs, r = truncF s sn xn := ⟨_, rfl⟩
        rw [← hr] at H7 HSMR
        rw [← hr]
        obtain ⟨z, t⟩ := r
        have HSMR : Hid (Sm t (i + 1 + 1) (1048576 * (i + 1 + 1)) ((i + 1 : Nat) + 1)) := HSMR
        have H7 : Hid (Mix W D u5 u7 kf t kw t) := H7
        have HF7 := Lib.hid (H7.out.fit HSMR.out (by omega) (by omega) (by omega))
        have hzz : decide (z = z) = true := decide_eq_true rfl
        have hzb : (z == z) = true := by simp
        dsimp only
        clear hr HM H6 b0 b3 b4 b5 b6
        go_wp2_with fail
        refine (mix_same H7.out HF7.out HT.out h2).mono ?_
        rintro e u8 ⟨rfl, hb8⟩
        have HNX : Hid (PlAt W u8 kf kw t (i + 1)) := ⟨(H7.out.on hb8).reset, HSMR.out⟩
        clear H7 hb8 HF7 HSMR
        go_wp2
        go_roundw
        case rel => exact ⟨i + 1, t, by go_num, by omega, by omega, HNX.out⟩
        case measure => simp [intOf]; omega
      · have hd3 : decide (kd = 3) = false := decide_eq_false hk3
        by_cases hk4 : kd = 4
        · subst hk4
          go_wp2_with fail
          refine (mix_did HM.out (fun X ho => oneRename ho hnum hlen sn hsz sm hsmz)).mono ?_
          rintro e u6 ⟨rfl, H6⟩
          go_wp2_with fail
          refine (mixRename H6.out HF.out sn hsz sm hsmz).mono ?_
          rintro e u7 ⟨rfl, H7⟩
          have HSMR := Lib.hid ((HS.out.sm.rename sn sm).more (L' := i + 1 + 1) (M' := 1048576 * (i + 1 + 1)) (D' := ((i + 1 : Nat) : Int) + 1) (by omega) (by omega) (by omega))
          obtain ⟨r, hr⟩ : ∃ r : Int × Fs, r = renameF s sn sm := ⟨_, rfl⟩
          rw [← hr] at H7 HSMR
          rw [← hr]
          obtain ⟨z, t⟩ := r
          have HSMR : Hid (Sm t (i + 1 + 1) (1048576 * (i + 1 + 1)) ((i + 1 : Nat) + 1)) := HSMR
          have H7 : Hid (Mix W D u5 u7 kf t kw t) := H7
          have HF7 := Lib.hid (H7.out.fit HSMR.out (by omega) (by omega) (by omega))
          have hzz : decide (z = z) = true := decide_eq_true rfl
          have hzb : (z == z) = true := by simp
          dsimp only
          clear hr HM H6 b0 b3 b4 b5 b6
          go_wp2_with fail
          refine (mix_same H7.out HF7.out HT.out h2).mono ?_
          rintro e u8 ⟨rfl, hb8⟩
          have HNX : Hid (PlAt W u8 kf kw t (i + 1)) := ⟨(H7.out.on hb8).reset, HSMR.out⟩
          clear H7 hb8 HF7 HSMR
          go_wp2
          go_roundw
          case rel => exact ⟨i + 1, t, by go_num, by omega, by omega, HNX.out⟩
          case measure => simp [intOf]; omega
        · have hd4 : decide (kd = 4) = false := decide_eq_false hk4
          by_cases hk5 : kd = 5
          · subst hk5
            go_wp2_with fail
            refine (mix_did HM.out (fun X ho => oneRemove ho hnum sn hsz)).mono ?_
            rintro e u6 ⟨rfl, H6⟩
            go_wp2_with fail
            refine (mixRemove H6.out HF.out sn hsz).mono ?_
            rintro e u7 ⟨rfl, H7⟩
            have HSMR := Lib.hid ((HS.out.sm.remove sn).more (L' := i + 1 + 1) (M' := 1048576 * (i + 1 + 1)) (D' := ((i + 1 : Nat) : Int) + 1) (by omega) (by omega) (by omega))
            obtain ⟨r, hr⟩ : ∃ r : Int × Fs, r = removeF s sn := ⟨_, rfl⟩
            rw [← hr] at H7 HSMR
            rw [← hr]
            obtain ⟨z, t⟩ := r
            have HSMR : Hid (Sm t (i + 1 + 1) (1048576 * (i + 1 + 1)) ((i + 1 : Nat) + 1)) := HSMR
            have H7 : Hid (Mix W D u5 u7 kf t kw t) := H7
            have HF7 := Lib.hid (H7.out.fit HSMR.out (by omega) (by omega) (by omega))
            have hzz : decide (z = z) = true := decide_eq_true rfl
            have hzb : (z == z) = true := by simp
            dsimp only
            clear hr HM H6 b0 b3 b4 b5 b6
            go_wp2_with fail
            refine (mix_same H7.out HF7.out HT.out h2).mono ?_
            rintro e u8 ⟨rfl, hb8⟩
            have HNX : Hid (PlAt W u8 kf kw t (i + 1)) := ⟨(H7.out.on hb8).reset, HSMR.out⟩
            clear H7 hb8 HF7 HSMR
            go_wp2
            go_roundw
            case rel => exact ⟨i + 1, t, by go_num, by omega, by omega, HNX.out⟩
            case measure => simp [intOf]; omega
          · have hd5 : decide (kd = 5) = false := decide_eq_false hk5
            by_cases hk6 : kd = 6
            · subst hk6
              go_wp2_with fail
              refine (mix_did HM.out (fun X ho => oneSync ho hnum sn hsz)).mono ?_
              rintro e u6 ⟨rfl, H6⟩
              go_wp2_with fail
              refine (mixSync H6.out HF.out sn hsz).mono ?_
              rintro e u7 ⟨rfl, H7⟩
              have HSMR := Lib.hid ((HS.out.sm.sync sn).more (L' := i + 1 + 1) (M' := 1048576 * (i + 1 + 1)) (D' := ((i + 1 : Nat) : Int) + 1) (by omega) (by omega) (by omega))
              obtain ⟨r, hr⟩ : ∃ r : Int × Fs, r = syncF s sn := ⟨_, rfl⟩
              rw [← hr] at H7 HSMR
              rw [← hr]
              obtain ⟨z, t⟩ := r
              have HSMR : Hid (Sm t (i + 1 + 1) (1048576 * (i + 1 + 1)) ((i + 1 : Nat) + 1)) := HSMR
              have H7 : Hid (Mix W D u5 u7 kf t kw t) := H7
              have HF7 := Lib.hid (H7.out.fit HSMR.out (by omega) (by omega) (by omega))
              have hzz : decide (z = z) = true := decide_eq_true rfl
              have hzb : (z == z) = true := by simp
              dsimp only
              clear hr HM H6 b0 b3 b4 b5 b6
              go_wp2_with fail
              refine (mix_same H7.out HF7.out HT.out h2).mono ?_
              rintro e u8 ⟨rfl, hb8⟩
              have HNX : Hid (PlAt W u8 kf kw t (i + 1)) := ⟨(H7.out.on hb8).reset, HSMR.out⟩
              clear H7 hb8 HF7 HSMR
              go_wp2
              go_roundw
              case rel => exact ⟨i + 1, t, by go_num, by omega, by omega, HNX.out⟩
              case measure => simp [intOf]; omega
            · have hd6 : decide (kd = 6) = false := decide_eq_false hk6
              by_cases hk7 : kd = 7
              · subst hk7
                obtain ⟨n, hn⟩ : ∃ n : Int, n = max (min xn 1073741824) (-1) := ⟨_, rfl⟩
                have hn0 : -1 ≤ n := by omega
                have hn1 : n ≤ 1073741824 := by omega
                go_wp2_with fail
                try rw [← hn]
                obtain ⟨X, ho, hback⟩ := HM.out.first
                refine (oneStop ho n).mono ?_
                rintro e u6 ⟨rfl, H6a⟩
                have H6 : Hid (Mix W D u5 u6 kf ⟨s.l, n, s.done⟩ kw s) := hback _ _ H6a.out
                obtain ⟨hfz, hcz⟩ := H6.out.stored
                have H7a := Lib.hid (H6.out.left n)
                clear H6a ho hback
                go_wp2_with fail
                try rw [← hn]
                obtain ⟨u7, hu7⟩ : ∃ z, z = u6.setCell ⟨kw, 1, none⟩ (.int .i64 n) := ⟨_, rfl⟩
                rw [← hu7] at H7a
                rw [← hu7]
                clear hu7 hfz hcz hn
                obtain ⟨t, ht⟩ : ∃ t : Fs, t = ⟨s.l, n, s.done⟩ := ⟨_, rfl⟩
                have HSMR : Hid (Sm t (i + 1 + 1) (1048576 * (i + 1 + 1)) ((i + 1 : Nat) + 1)) := by show Sm _ _ _ _; rw [ht]; exact (HS.out.sm.stop n hn0 hn1).more (by omega) (by omega) (by omega)
                have H7 : Hid (Mix W D u5 u7 kf t kw t) := by show Mix _ _ _ _ _ _ _ _; rw [ht]; exact H7a.out
                clear H7a ht
                have H7 : Hid (Mix W D u5 u7 kf t kw t) := H7
                have HF7 := Lib.hid (H7.out.fit HSMR.out (by omega) (by omega) (by omega))
                clear HM H6 b0 b3 b4 b5 b6
                go_wp2_with fail
                refine (mix_same H7.out HF7.out HT.out h2).mono ?_
                rintro e u8 ⟨rfl, hb8⟩
                have HNX : Hid (PlAt W u8 kf kw t (i + 1)) := ⟨(H7.out.on hb8).reset, HSMR.out⟩
                clear H7 hb8 HF7 HSMR
                go_wp2
                go_roundw
                case rel => exact ⟨i + 1, t, by go_num, by omega, by omega, HNX.out⟩
                case measure => simp [intOf]; omega
              · have hd7 : decide (kd = 7) = false := decide_eq_false hk7
                by_cases hk8 : kd = 8
                · subst hk8
                  go_wp2_with fail
                  obtain ⟨X, ho, hback⟩ := HM.out.first
                  refine (oneCrash ho hlen HT.out h2 (fun f hf => by have := HF.out.b f hf; omega) (Below.refl _ _) kad klen kcap ks (HKR.out.1.keep ho.below) (fun a e h0 => .inl (HKR.out.1.lt h0 a e)) HKR.out.2 gad glen gcap gs (HGR.out.1.keep ho.below) (fun a e h0 => .inl (HGR.out.1.lt h0 a e)) HGR.out.2).mono ?_
                  rintro e u6 ⟨rfl, H6a⟩
                  have H6 : Hid (Mix W D u5 u6 kf ⟨crashF s.l ks gs, -1, s.done⟩ kw s) := hback _ _ H6a.out
                  clear H6a ho hback
                  have h6 := H6.out.ask HDK.out HAX.out
                  rw [hx] at h6
                  have q5 : u6.cell? ⟨kx, 5, none⟩ = _ := h6.c5
                  have q6 : u6.cell? ⟨kx, 6, none⟩ = _ := h6.c6
                  clear h6
                  go_wp2_with fail
                  refine (mixCrash H6.out HF.out kad klen kcap ks (HKR.out.1.keep H6.out.below) (fun a e h0 => .inl (HKR.out.1.lt h0 a e)) HKR.out.2 gad glen gcap gs (HGR.out.1.keep H6.out.below) (fun a e h0 => .inl (HGR.out.1.lt h0 a e)) HGR.out.2).mono ?_
                  rintro e u7 ⟨rfl, H7a⟩
                  obtain ⟨t, ht⟩ : ∃ t : Fs, t = ⟨crashF s.l ks gs, -1, s.done⟩ := ⟨_, rfl⟩
                  have HSMR : Hid (Sm t (i + 1 + 1) (1048576 * (i + 1 + 1)) ((i + 1 : Nat) + 1)) := by show Sm _ _ _ _; rw [ht]; exact (HS.out.sm.crash ks gs).more (by omega) (by omega) (by omega)
                  have H7 : Hid (Mix W D u5 u7 kf t kw t) := by show Mix _ _ _ _ _ _ _ _; rw [ht]; exact H7a.out
                  clear H7a ht q5 q6
                  have H7 : Hid (Mix W D u5 u7 kf t kw t) := H7
                  have HF7 := Lib.hid (H7.out.fit HSMR.out (by omega) (by omega) (by omega))
                  clear HM H6 b0 b3 b4 b5 b6
                  go_wp2_with fail
                  refine (mix_same H7.out HF7.out HT.out h2).mono ?_
                  rintro e u8 ⟨rfl, hb8⟩
                  have HNX : Hid (PlAt W u8 kf kw t (i + 1)) := ⟨(H7.out.on hb8).reset, HSMR.out⟩
                  clear H7 hb8 HF7 HSMR
                  go_wp2
                  go_roundw
                  case rel => exact ⟨i + 1, t, by go_num, by omega, by omega, HNX.out⟩
                  case measure => simp [intOf]; omega
                · have hd8 : decide (kd = 8) = false := decide_eq_false hk8
                  have KB : Hid (∀ V sf sg, Mix W D u5 V kf sf kw sg → (fun (V : World) => V.cell? ⟨kx, 4, none⟩ = some (.slice pad plen pcap)) V) := fun V sf sg hV => by
                    have h := hV.ask HDK.out HAX.out
                    rw [hx] at h
                    exact h.c4
                  go_upto_region 11 with fail
                  have HMd : Hid (Mix W D u5 u5.drew kf s kw s) := HM.out.on (Below.refl _ u5).drew
                  refine wp_region_noPanic ?_
                  refine wp_region_z [] (fun (V : World) => V.cell? ⟨kx, 4, none⟩ = some (.slice pad plen pcap)) (by kernel_rfl) ?_
                  have hHeld : (fun (V : World) => V.cell? ⟨kx, 4, none⟩ = some (.slice pad plen pcap)) _ := KB.out _ _ _ HMd.out
                  obtain ⟨ud, hud⟩ : ∃ u, u = u5.drew := ⟨_, rfl⟩
                  rw [← hud] at hHeld HMd
                  rw [← hud]
                  clear hud
                  refine wpAnyZ_take (i := 0) (oi := ⟨_, _, _, _, _, _⟩) (v := ?_) rfl (by kernel_rfl) (by kernel_rfl) (by kernel_rfl) (by kernel_rfl) (by kernel_rfl) (fun _ _ _ h => h) (Or.inl ⟨by rfl, ?_⟩) (by assumption) ?_
                  rotate_left
                  · intro W hSw
                    (try dsimp only at hSw)
                    go_simp
                    (try with_reducible rfl)
                  (try simp only [Act.put, List.setIfInBounds_toArray, List.set_cons_zero, List.set_cons_succ])
                  refine wpAnyZ_take (i := 1) (oi := ⟨_, _, _, _, _, _⟩) (v := ?_) rfl (by kernel_rfl) (by kernel_rfl) (by kernel_rfl) (by kernel_rfl) (by kernel_rfl) (fun _ _ _ h => h) (Or.inl ⟨by rfl, ?_⟩) (by assumption) ?_
                  rotate_left
                  · intro W hSw
                    (try dsimp only at hSw)
                    go_simp
                    (try with_reducible rfl)
                  (try simp only [Act.put, List.setIfInBounds_toArray, List.set_cons_zero, List.set_cons_succ])
                  refine wpAnyZ_take (i := 2) (oi := ⟨_, _, _, _, _, _⟩) (v := ?_) rfl (by kernel_rfl) (by kernel_rfl) (by kernel_rfl) (by kernel_rfl) (by kernel_rfl) (fun _ _ _ h => h) (Or.inl ⟨by rfl, ?_⟩) (by assumption) ?_
                  rotate_left
                  · intro W hSw
                    (try dsimp only at hSw)
                    go_simp
                    (try with_reducible rfl)
                  (try simp only [Act.put, List.setIfInBounds_toArray, List.set_cons_zero, List.set_cons_succ])
                  refine wpAnyZ_take (i := 3) (oi := ⟨_, _, _, _, _, _⟩) (v := ?_) rfl (by kernel_rfl) (by kernel_rfl) (by kernel_rfl) (by kernel_rfl) (by kernel_rfl) (fun _ _ _ h => h) (Or.inl ⟨by rfl, ?_⟩) (by assumption) ?_
                  rotate_left
                  · intro W hSw
                    (try dsimp only at hSw)
                    go_simp
                    (try with_reducible rfl)
                  (try simp only [Act.put, List.setIfInBounds_toArray, List.set_cons_zero, List.set_cons_succ])
                  refine wpAnyZ_take (i := 5) (oi := ⟨_, _, _, _, _, _⟩) (v := ?_) rfl (by kernel_rfl) (by kernel_rfl) (by kernel_rfl) (by kernel_rfl) (by kernel_rfl) (fun _ _ _ h => h) (Or.inl ⟨by rfl, ?_⟩) (by assumption) ?_
                  rotate_left
                  · intro W hSw
                    (try dsimp only at hSw)
                    go_simp
                    (try with_reducible rfl)
                  (try simp only [Act.put, List.setIfInBounds_toArray, List.set_cons_zero, List.set_cons_succ])
                  refine wpAnyZ_take (i := 6) (oi := ⟨_, _, _, _, _, _⟩) (v := ?_) rfl (by kernel_rfl) (by kernel_rfl) (by kernel_rfl) (by kernel_rfl) (by kernel_rfl) (fun _ _ _ h => h) (Or.inl ⟨by rfl, ?_⟩) (by assumption) ?_
                  rotate_left
                  · intro W hSw
                    (try dsimp only at hSw)
                    go_simp
                    (try with_reducible rfl)
                  (try simp only [Act.put, List.setIfInBounds_toArray, List.set_cons_zero, List.set_cons_succ])
                  refine wpAnyZ_take (i := 7) (oi := ⟨_, _, _, _, _, _⟩) (v := ?_) rfl (by kernel_rfl) (by kernel_rfl) (by kernel_rfl) (by kernel_rfl) (by kernel_rfl) (fun _ _ _ h => h) (Or.inl ⟨by rfl, ?_⟩) (by assumption) ?_
                  rotate_left
                  · intro W hSw
                    (try dsimp only at hSw)
                    go_simp
                    (try with_reducible rfl)
                  (try simp only [Act.put, List.setIfInBounds_toArray, List.set_cons_zero, List.set_cons_succ])
                  refine wpAnyZ_take (i := 8) (oi := ⟨_, _, _, _, _, _⟩) (v := ?_) rfl (by kernel_rfl) (by kernel_rfl) (by kernel_rfl) (by kernel_rfl) (by kernel_rfl) (fun _ _ _ h => h) (Or.inl ⟨by rfl, ?_⟩) (by assumption) ?_
                  rotate_left
                  · intro W hSw
                    (try dsimp only at hSw)
                    go_simp
                    (try with_reducible rfl)
                  (try simp only [Act.put, List.setIfInBounds_toArray, List.set_cons_zero, List.set_cons_succ])
                  refine wpAnyZ_ready (rs := [4]) (by kernel_rfl) (by simp) ?_
                  refine AllReadyZ.cons (o := ⟨_, _, _, _, _, _⟩) rfl (fun C hC => ?_) AllReadyZ.nil
                  go_simp
                  refine (mix_did HMd.out (fun X ho => oneAppend ho hnum hlen sn hsz (Below.refl _ _) pad plen pcap ps (HP.out.keep ho.below) HPA.out (fun a e h0 => .inl (HP.out.lt h0 a e)) (fun f hf _ => by have := HF.out.b f hf; omega) (by omega))).mono ?_
                  rintro e u6 ⟨rfl, H6⟩
                  have hHeld : (fun (V : World) => V.cell? ⟨kx, 4, none⟩ = some (.slice pad plen pcap)) u6 := KB.out _ _ _ H6.out
                  refine hC.out _ _ (fun _ => hHeld) (fun _ => ?_)
                  clear hC C
                  (try simp only [Act.put, List.setIfInBounds_toArray, List.set_cons_zero, List.set_cons_succ])
                  refine wpAnyZ_ready (rs := [9]) (by kernel_rfl) (by simp) ?_
                  refine AllReadyZ.cons (o := ⟨_, _, _, _, _, _⟩) rfl (fun C hC => ?_) AllReadyZ.nil
                  go_simp
                  refine (mixAppend H6.out HF.out sn hsz pad plen pcap ps (HP.out.keep H6.out.below) HPA.out (by omega) (fun a e h0 => .inl (HP.out.lt h0 a e))).mono ?_
                  rintro e u7 ⟨rfl, H7⟩
                  have hHeld : (fun (V : World) => V.cell? ⟨kx, 4, none⟩ = some (.slice pad plen pcap)) u7 := KB.out _ _ _ H7.out
                  refine hC.out _ _ (fun _ => hHeld) (fun _ => ?_)
                  clear hC C
                  (try simp only [Act.put, List.setIfInBounds_toArray, List.set_cons_zero, List.set_cons_succ])
                  refine wpAnyZ_take (i := 10) (oi := ⟨_, _, _, _, _, _⟩) (v := ?_) rfl (by kernel_rfl) (by kernel_rfl) (by kernel_rfl) (by kernel_rfl) (by kernel_rfl) (fun _ _ _ h => h) (Or.inl ⟨by rfl, ?_⟩) (by assumption) ?_
                  rotate_left
                  · intro W hSw
                    (try dsimp only at hSw)
                    go_simp
                    (try with_reducible rfl)
                  (try simp only [Act.put, List.setIfInBounds_toArray, List.set_cons_zero, List.set_cons_succ])
                  refine wpAnyZ_take (i := 11) (oi := ⟨_, _, _, _, _, _⟩) (v := ?_) rfl (by kernel_rfl) (by kernel_rfl) (by kernel_rfl) (by kernel_rfl) (by kernel_rfl) (fun _ _ _ h => h) (Or.inl ⟨by rfl, ?_⟩) (by assumption) ?_
                  rotate_left
                  · intro W hSw
                    (try dsimp only at hSw)
                    go_simp
                    (try with_reducible rfl)
                  (try simp only [Act.put, List.setIfInBounds_toArray, List.set_cons_zero, List.set_cons_succ])
                  refine wpAnyZ_done (by kernel_rfl) ?_ _
                  refine NoPanic.normal ?_
                  clear hHeld HMd KB
                  have HSMR := Lib.hid ((HS.out.sm.append sn ps).more (L' := i + 1 + 1) (M' := 1048576 * (i + 1 + 1)) (D' := ((i + 1 : Nat) : Int) + 1) (by omega) (by have := HP.out.length; omega) (by omega))
                  obtain ⟨r, hr⟩ : ∃ r : Int × Fs, r = appendF s sn ps := ⟨_, rfl⟩
                  rw [← hr] at H7 HSMR
                  rw [← hr]
                  obtain ⟨z, t⟩ := r
                  have HSMR : Hid (Sm t (i + 1 + 1) (1048576 * (i + 1 + 1)) ((i + 1 : Nat) + 1)) := HSMR
                  have H7 : Hid (Mix W D u5 u7 kf t kw t) := H7
                  have HF7 := Lib.hid (H7.out.fit HSMR.out (by omega) (by omega) (by omega))
                  have hzz : decide (z = z) = true := decide_eq_true rfl
                  have hzb : (z == z) = true := by simp
                  dsimp only
                  clear hr HM H6 b0 b3 b4 b5 b6
                  go_wp2_with fail
                  refine (mix_same H7.out HF7.out HT.out h2).mono ?_
                  rintro e u8 ⟨rfl, hb8⟩
                  have HNX : Hid (PlAt W u8 kf kw t (i + 1)) := ⟨(H7.out.on hb8).reset, HSMR.out⟩
                  clear H7 hb8 HF7 HSMR
                  go_wp2
                  go_roundw
                  case rel => exact ⟨i + 1, t, by go_num, by omega, by omega, HNX.out⟩
                  case measure => simp [intOf]; omega
    · have HE : Hid (¬ (i < len ∧ i < 120)) := hlt
      have HF := Lib.hid (HS.out.mix.fit HS.out.sm (by omega) (by omega) (by omega))
      by_cases hd : i < len
      · have hd1 : decide (i < len) = true := decide_eq_true hd
        obtain rfl : i = 120 := by have := HE.out; omega
        clear hlt
        go_wp2_with fail
        refine (mix_copy HS.out.mix HF.out).mono ?_
        rintro e w3 ⟨kb, rfl, HB3, HC3⟩
        have HM3 := Lib.hid (HS.out.mix.on HB3.out)
        have HTo := Lib.hid (HT.out.keep HS.out.mix.below)
        have h2o : 2 ≤ wo.heap.size := Nat.le_trans h2 HS.out.mix.below.size
        go_wp2_with fail
        refine (mix_same2 HM3.out HC3.out HF.out HTo.out h2o).mono ?_
        rintro e w4 ⟨rfl, hb4⟩
        have HM4 := Lib.hid (HM3.out.on hb4)
        have HC4 := Lib.hid (HC3.out.on hb4)
        have hlen : s.l.length ≤ 10000 := by have := HF.out.n; omega
        clear HM3 HC3 hb4 HB3
        go_wp2_with fail
        obtain ⟨w5, hw5⟩ : ∃ z, z = w4.alloc (.cells #[.int .u8 120] 5 (1, 2)) := ⟨_, rfl⟩
        obtain ⟨g5, hg5⟩ : ∃ z, z = w4.heap.size := ⟨_, rfl⟩
        have HB5 : Hid (Below w4.heap.size w4 w5) := by show Below _ _ _; rw [hw5]; exact alloc_below _ _
        have HR5 : Hid (RowAt byteK w5 (some ⟨g5, 0, none⟩) 1 1 [120]) := by show RowAt _ _ _ _ _ _; rw [hw5, hg5]; exact lit_marked w4 [120] (all_small (by rfl)) _ rfl _ 1 rfl
        have HG5 : Hid (w4.heap.size ≤ g5) := by show _ ≤ _; rw [hg5]; exact Nat.le_refl _
        rw [← hw5, ← hg5]
        clear hw5 hg5
        refine (oneAppend HC4.out HF.out.num hlen ⟨#[99, 111, 112, 121]⟩ (by decide) HB5.out (some ⟨g5, 0, none⟩) 1 1 [120] HR5.out (all_small (by rfl)) (fun a ha _ => .inr (.inr (by cases ha; exact HG5.out))) (fun f hf _ => by have := HF.out.b f hf; omega) (by omega)).mono ?_
        rintro e w6 ⟨rfl, H6⟩
        have HS6 := Lib.hid (HS.out.sm.append ⟨#[99, 111, 112, 121]⟩ [120])
        obtain ⟨s6, hs6⟩ : ∃ t, t = (appendF s ⟨#[99, 111, 112, 121]⟩ [120]).2 := ⟨_, rfl⟩
        rw [← hs6] at H6 HS6
        clear hs6 HC4 HB5 HR5 HG5
        have HM6 : Hid (Mix W (fun _ => False) wo w4 kf s kw s ∧ Below wo.heap.size wo w6) := ⟨HM4.out, H6.out.below⟩
        go_wp2_with fail
        refine (oneCrash H6.out (by have := HS6.out.n; omega) HTo.out h2o (fun f hf => by have h := HS6.out.b f hf; simp only [List.length_cons, List.length_nil] at h; omega) (Below.refl _ _) none 0 0 [] (RowAt.zero _ (fun _ => rfl)) (fun a ha => by cases ha) (fun k hk => by cases hk) none 0 0 [] (RowAt.zero _ (fun _ => rfl)) (fun a ha => by cases ha) (fun x hx => by cases hx)).mono ?_
        rintro e w7 ⟨rfl, H7⟩
        have HM7 := Lib.hid (HS.out.mix.on H7.out.below)
        clear H6 H7 HM6 HM4 HS6
        go_wp2_with fail
        refine (mix_same HM7.out HF.out HT.out h2).mono ?_
        rintro e w8 ⟨rfl, hb8⟩
        have HB8 := Lib.hid (HM7.out.on hb8).below
        clear HM7 hb8
        go_wp2
        go_ret
        exact ⟨rfl, HB8.out⟩
      · have hd1 : decide (i < len) = false := decide_eq_false hd
        clear hlt
        go_wp2_with fail
        refine (mix_copy HS.out.mix HF.out).mono ?_
        rintro e w3 ⟨kb, rfl, HB3, HC3⟩
        have HM3 := Lib.hid (HS.out.mix.on HB3.out)
        have HTo := Lib.hid (HT.out.keep HS.out.mix.below)
        have h2o : 2 ≤ wo.heap.size := Nat.le_trans h2 HS.out.mix.below.size
        go_wp2_with fail
        refine (mix_same2 HM3.out HC3.out HF.out HTo.out h2o).mono ?_
        rintro e w4 ⟨rfl, hb4⟩
        have HM4 := Lib.hid (HM3.out.on hb4)
        have HC4 := Lib.hid (HC3.out.on hb4)
        have hlen : s.l.length ≤ 10000 := by have := HF.out.n; omega
        clear HM3 HC3 hb4 HB3
        go_wp2_with fail
        obtain ⟨w5, hw5⟩ : ∃ z, z = w4.alloc (.cells #[.int .u8 120] 5 (1, 2)) := ⟨_, rfl⟩
        obtain ⟨g5, hg5⟩ : ∃ z, z = w4.heap.size := ⟨_, rfl⟩
        have HB5 : Hid (Below w4.heap.size w4 w5) := by show Below _ _ _; rw [hw5]; exact alloc_below _ _
        have HR5 : Hid (RowAt byteK w5 (some ⟨g5, 0, none⟩) 1 1 [120]) := by show RowAt _ _ _ _ _ _; rw [hw5, hg5]; exact lit_marked w4 [120] (all_small (by rfl)) _ rfl _ 1 rfl
        have HG5 : Hid (w4.heap.size ≤ g5) := by show _ ≤ _; rw [hg5]; exact Nat.le_refl _
        rw [← hw5, ← hg5]
        clear hw5 hg5
        refine (oneAppend HC4.out HF.out.num hlen ⟨#[99, 111, 112, 121]⟩ (by decide) HB5.out (some ⟨g5, 0, none⟩) 1 1 [120] HR5.out (all_small (by rfl)) (fun a ha _ => .inr (.inr (by cases ha; exact HG5.out))) (fun f hf _ => by have := HF.out.b f hf; omega) (by omega)).mono ?_
        rintro e w6 ⟨rfl, H6⟩
        have HS6 := Lib.hid (HS.out.sm.append ⟨#[99, 111, 112, 121]⟩ [120])
        obtain ⟨s6, hs6⟩ : ∃ t, t = (appendF s ⟨#[99, 111, 112, 121]⟩ [120]).2 := ⟨_, rfl⟩
        rw [← hs6] at H6 HS6
        clear hs6 HC4 HB5 HR5 HG5
        have HM6 : Hid (Mix W (fun _ => False) wo w4 kf s kw s ∧ Below wo.heap.size wo w6) := ⟨HM4.out, H6.out.below⟩
        go_wp2_with fail
        refine (oneCrash H6.out (by have := HS6.out.n; omega) HTo.out h2o (fun f hf => by have h := HS6.out.b f hf; simp only [List.length_cons, List.length_nil] at h; omega) (Below.refl _ _) none 0 0 [] (RowAt.zero _ (fun _ => rfl)) (fun a ha => by cases ha) (fun k hk => by cases hk) none 0 0 [] (RowAt.zero _ (fun _ => rfl)) (fun a ha => by cases ha) (fun x hx => by cases hx)).mono ?_
        rintro e w7 ⟨rfl, H7⟩
        have HM7 := Lib.hid (HS.out.mix.on H7.out.below)
        clear H6 H7 HM6 HM4 HS6
        go_wp2_with fail
        refine (mix_same HM7.out HF.out HT.out h2).mono ?_
        rintro e w8 ⟨rfl, hb8⟩
        have HB8 := Lib.hid (HM7.out.on hb8).below
        clear HM7 hb8
        go_wp2
        go_ret
        exact ⟨rfl, HB8.out⟩
end Go.Proofs.YtjocfkkcnkpjdaaDoor
