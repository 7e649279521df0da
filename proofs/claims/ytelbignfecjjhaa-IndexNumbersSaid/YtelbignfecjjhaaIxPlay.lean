/- The law's play: adds and finds, asked of the index and of the plain one; read back. -/
import Derived.Test.YtelbignfecjjhaaIxSame
namespace Go.Proofs.Ytelbignfecjjhaa
open Go.RowKit
open Go.IxMath
open Go.VarMath hiding AllB
set_option linter.unusedVariables false

/-- Before ask i. -/
structure PyAt (W wr : World) (kx kp : Nat) (F : Nat → Prop) (ad : Option Addr) (n cap : Nat) (base every : Int) (bs : List Ba) (i : Nat) : Prop where
  below : Below W.heap.size W wr
  ix : IxOk wr kx F base every bs
  pl : PlAt wr kp ad n cap base every bs
  fw : ∀ j, F j → W.heap.size ≤ j
  kpw : W.heap.size ≤ kp
  no : ¬ F kp ∧ ∀ a, ad = some a → ¬ F a.block
  small : Small bs
  len : bs.length ≤ i
section
variable {W wr w w' : World} {kx kp n cap i : Nat} {F : Nat → Prop} {ad : Option Addr} {base every : Int} {bs : List Ba}
theorem PyAt.on (h : PyAt W w kx kp F ad n cap base every bs i) (hb : Below w.heap.size w w') : PyAt W w' kx kp F ad n cap base every bs i :=
  ⟨h.below.trans (hb.mono h.below.size), h.ix.on hb, h.pl.on hb, h.fw, h.kpw, h.no, h.small, h.len⟩
theorem PyAt.more (h : PyAt W w kx kp F ad n cap base every bs i) {i' : Nat} (hi : i ≤ i') : PyAt W w kx kp F ad n cap base every bs i' :=
  ⟨h.below, h.ix, h.pl, h.fw, h.kpw, h.no, h.small, Nat.le_trans h.len hi⟩
theorem small_add (hs : Small bs) (hl : bs.length ≤ i) (hi : i < 900) {off pos size : Int} (ho : I64 off) (hp : pos ≤ 1099511627776) (hz : size ≤ 1099511627776) : Small (addA base bs off pos size) ∧ (addA base bs off pos size).length ≤ i + 1 := by
  unfold addA
  split
  · exact ⟨hs, by omega⟩
  · refine ⟨⟨by rw [List.length_append, List.length_singleton]; omega, fun b hb => ?_⟩, by rw [List.length_append, List.length_singleton]; omega⟩
    rcases List.mem_append.1 hb with h1 | h1
    · exact hs.2 b h1
    · rw [List.mem_singleton.1 h1]
      exact ⟨ho.2, by show pos + size ≤ _; omega⟩
theorem PyAt.add {w1 w2 : World} {bs' : List Ba} {F' : Nat → Prop} {ad' : Option Addr} {n' cap' : Nat} (h : PyAt W w kx kp F ad n cap base every bs i) (hx : IxOk w1 kx F' base every bs') (hk : Kept w w1 F) (hf : ∀ j, F' j → F j ∨ w.heap.size ≤ j)
    (hp : PlAt w2 kp ad' n' cap' base every bs') (hk2 : Kept w1 w2 (fun j => j = kp)) (ha : ∀ a, ad' = some a → ad = some a ∨ w1.heap.size ≤ a.block) (hs : Small bs') (hl : bs'.length ≤ i + 1) : PyAt W w2 kx kp F' ad' n' cap' base every bs' (i + 1) := by
  have hz := hk.size
  have hkp := h.pl.box.lt
  have hWw := h.below.size
  refine ⟨(h.below.trans (hk.below h.fw hWw)).trans (hk2.below (fun j e => by rw [e]; exact h.kpw) (Nat.le_trans hWw hz)), hx.kept hk2 (fun j hj e => ?_), hp, fun j hj => ?_, h.kpw, ⟨fun hj => ?_, fun a e hj => ?_⟩, hs, hl⟩
  · subst e
    rcases hf _ hj with h1 | h1
    · exact h.no.1 h1
    · omega
  · rcases hf j hj with h1 | h1
    · exact h.fw j h1
    · omega
  · rcases hf _ hj with h1 | h1
    · exact h.no.1 h1
    · omega
  · rcases ha a e with h1 | h1
    · rcases hf _ hj with h2 | h2
      · exact h.no.2 a h1 h2
      · have := (h.pl.far a h1).1; omega
    · have := hx.lt _ hj; omega
theorem pos_ok (h : PyAt W w kx kp F ad n cap base every bs i) : ∀ e ∈ ents every bs, 0 ≤ e.pos ∧ e.pos ≤ 4611686018427387904 := fun e he => by
  obtain ⟨b, hb, rfl⟩ := ents_mem h.ix.made e he
  have h1 := made_all h.ix.made b hb
  have h2 := h.small.2 b hb
  exact ⟨by show 0 ≤ b.pos; omega, by show b.pos ≤ _; omega⟩
theorem PyAt.few (h : PyAt W w kx kp F ad n cap base every bs i) : n ≤ 1000 := by
  have h1 := h.pl.row.length
  have h2 := ents_len every bs
  have h3 := h.small.1
  omega
end
theorem small_nil : Small [] := ⟨by decide, fun b hb => by cases hb⟩
theorem pl_new (w : World) (base every : Int) : PlAt (w.alloc (.cells #[.int .i64 base, .int .i64 (-1), .int .i64 every, .int .i64 0, .slice none 0 0] 50)) w.heap.size none 0 0 base every [] :=
  ⟨heap_alloc_new w _, rowAt_nil _, fun a ha => by cases ha⟩
theorem py_start {W w1 : World} {kx : Nat} {F : Nat → Prop} {base every : Int} (hb : Below W.heap.size W w1) (hx : IxOk w1 kx F base every []) (hf : ∀ j, F j → W.heap.size ≤ j) : PyAt W (w1.alloc (.cells #[.int .i64 base, .int .i64 (-1), .int .i64 every, .int .i64 0, .slice none 0 0] 50)) kx w1.heap.size F none 0 0 base every [] 0 :=
  ⟨hb.alloc hb.size _, hx.on ((Below.refl _ w1).alloc (Nat.le_refl _) _), pl_new w1 base every, hf, hb.size, ⟨fun h => by have := hx.lt _ h; omega, fun a ha => by cases ha⟩, small_nil, Nat.le_refl _⟩
theorem bytes_eq {every base : Int} {bs bs2 : List Ba} (h : MadeI base bs) (h2 : MadeI base bs2) (h0 : 0 ≤ base) (hs : Small bs) (hs2 : Small bs2) (he : bytesE base (ents every bs) = bytesE base (ents every bs2)) : ents every bs = ents every bs2 := by
  refine bytesE_inj base _ _ (fun e hm => ?_) (fun e hm => ?_) he
  · obtain ⟨b, hb, rfl⟩ := ents_mem h e hm
    have h3 := made_all h b hb
    have h4 := hs.2 b hb
    exact ⟨⟨by show _ ≤ b.off - base; omega, by show b.off - base ≤ _; omega⟩, by show _ ≤ b.pos; omega, by show b.pos ≤ _; omega⟩
  · obtain ⟨b, hb, rfl⟩ := ents_mem h2 e hm
    have h3 := made_all h2 b hb
    have h4 := hs2.2 b hb
    exact ⟨⟨by show _ ≤ b.off - base; omega, by show b.off - base ≤ _; omega⟩, by show _ ≤ b.pos; omega, by show b.pos ≤ _; omega⟩
set_option maxRecDepth 100000 in
set_option maxHeartbeats 16000000 in
theorem ixPlay_any (W : World) (base every : Int) (hbase : I64 base) (hev : I64 every) (lad : Option Addr) (len cap : Nat) (l : List Aq) (hl : RowAt aqK W lad len cap l) (hin : ∀ x ∈ l, AqIn x) :
    Calls Try.prog 8 #[.int .i64 base, .int .i64 every, .slice lad len cap] W fun e w' => e = .returned (.bool true) ∧ Below W.heap.size W w' := by
  have HRL := Lib.hid hl
  have HIN := Lib.hid hin
  have HBI := Lib.hid hbase
  have HEI := Lib.hid hev
  clear hl hin hbase hev
  go_enter Try.func8, Try.ntmps8
  go_wp2_with fail
  refine (ixNew_any W base every HBI.out HEI.out).mono ?_
  rintro e w1 ⟨HB1, hc⟩
  rcases hc with ⟨hbn, rfl⟩ | ⟨hbn, kx, F, rfl, HIX, HF⟩
  · have hbn := of_decide_eq_true hbn
    by_cases d1 : base < 0
    · have d1d : decide (base < 0) = true := decide_eq_true d1
      go_wp2_with fail
      go_ret
      exact ⟨rfl, HB1.out⟩
    have d1d : decide (base < 0) = false := decide_eq_false d1
    by_cases d2 : 1099511627776 < base
    · have d2d : decide (1099511627776 < base) = true := decide_eq_true d2
      go_wp2_with fail
      go_ret
      exact ⟨rfl, HB1.out⟩
    have d2d : decide (1099511627776 < base) = false := decide_eq_false d2
    by_cases d3 : every < 1
    · have d3d : decide (every < 1) = true := decide_eq_true d3
      go_wp2_with fail
      go_ret
      exact ⟨rfl, HB1.out⟩
    have d3d : decide (every < 1) = false := decide_eq_false d3
    have d4d : decide (1073741824 < every) = true := decide_eq_true (by omega)
    go_wp2_with fail
    go_ret
    exact ⟨rfl, HB1.out⟩
  · have hbn := of_decide_eq_false hbn
    have d1 : decide (base < 0) = false := decide_eq_false (by omega)
    have d2 : decide (1099511627776 < base) = false := decide_eq_false (by omega)
    have d3 : decide (every < 1) = false := decide_eq_false (by omega)
    have d4 : decide (1073741824 < every) = false := decide_eq_false (by omega)
    have HGN : Hid (0 ≤ base) := by show 0 ≤ base; omega
    have HBN : Hid (badN base every = false) := decide_eq_false hbn
    clear hbn
    have HPY := Lib.hid (py_start HB1.out HIX.out HF.out)
    clear HIX HF
    go_wp2_with fail
    obtain ⟨kp, hkp⟩ : ∃ z, z = w1.heap.size := ⟨_, rfl⟩
    rw [← hkp] at HPY
    try rw [← hkp]
    clear hkp d1 d2 d3 d4
    go_loopw [9] (fun v9 wr => ∃ (i : Nat) (F : Nat → Prop) (ad : Option Addr) (n cp : Nat) (bs : List Ba), v9 = .int .i64 (i : Int) ∧ i ≤ 80 ∧ i ≤ len ∧ Hid (PyAt W wr kx kp F ad n cp base every bs i)) (fun v9 _ => 80 - (intOf v9).toNat)
    case atStart => exact ⟨0, _, _, _, _, _, rfl, by omega, by omega, HPY.out⟩
    case round =>
      obtain ⟨i, F, ad, n, cp, bs, rfl, hi80, hil, HP⟩ := hrel
      obtain ⟨wo, hwo⟩ : ∃ wo : World, wo = wr := ⟨_, rfl⟩
      subst hwo
      clear HPY HB1
      by_cases hlt : i < len ∧ i < 80
      · obtain ⟨hlt1, hlt2⟩ := hlt
        have hd1 : decide (i < len) = true := decide_eq_true hlt1
        have hd2 : decide (i < 80) = true := decide_eq_true hlt2
        have hij : (i : Int) < (len : Int) := by omega
        obtain ⟨bl, ol, x, el, hbl2, hx, hat⟩ := aq_get HRL.out hlt1
        have HX := Lib.hid (HIN.out x (List.mem_of_getElem? hx))
        have hat := hat.on HP.out.below hbl2
        subst el
        clear hx
        obtain ⟨xk, xp, xs, xo⟩ := x
        have a0 := hat.c0
        have a1 := hat.c1
        have a2 := hat.c2
        have a3 := hat.c3
        simp only at a0 a1 a2 a3
        clear hat
        go_upto_region 9 with fail
        obtain ⟨wa, hwa⟩ : ∃ z, z = wo.alloc (.cells #[.int .i64 xk, .int .i64 xp, .int .i64 xs, .int .i64 xo] 24) := ⟨_, rfl⟩
        obtain ⟨ka, hka⟩ : ∃ z, z = wo.heap.size := ⟨_, rfl⟩
        have hba : Below wo.heap.size wo wa := by rw [hwa]; exact (Below.refl _ wo).alloc (Nat.le_refl _) _
        have hbx : wa.heap[ka]? = some (.cells #[.int .i64 xk, .int .i64 xp, .int .i64 xs, .int .i64 xo] 24) := by rw [hwa, hka]; exact heap_alloc_new wo _
        have HKA : Hid (wo.heap.size ≤ ka ∧ ka < wa.heap.size) := ⟨by rw [hka]; exact Nat.le_refl _, lt_of_block hbx⟩
        have HKP : Hid (kp < wo.heap.size) := HP.out.pl.box.lt
        have HFL : Hid (∀ j, F j → j < wo.heap.size) := HP.out.ix.lt
        have HP := Lib.hid (HP.out.on hba)
        have k0 : wa.cell? ⟨ka, 0, none⟩ = some (.int .i64 xk) := by rw [cell_of_row _ _ 0 _ _ _ hbx]; rfl
        have k1 : wa.cell? ⟨ka, 1, none⟩ = some (.int .i64 xp) := by rw [cell_of_row _ _ 1 _ _ _ hbx]; rfl
        have k2 : wa.cell? ⟨ka, 2, none⟩ = some (.int .i64 xs) := by rw [cell_of_row _ _ 2 _ _ _ hbx]; rfl
        have k3 : wa.cell? ⟨ka, 3, none⟩ = some (.int .i64 xo) := by rw [cell_of_row _ _ 3 _ _ _ hbx]; rfl
        rw [← hwa, ← hka]
        clear hwa hka hba a0 a1 a2 a3
        by_cases hk4 : xk = 4
        · have hq4 : (xk == 4) = true := by simp [hk4]
          have hq4d : decide (xk = 4) = true := decide_eq_true hk4
          go_upto_region 12 with fail
          have HQ0 : Hid (Below wa.heap.size wa wa.drew) := (Below.refl _ wa).drew
          have KS : Hid (∀ V, Below wa.heap.size wa V → (fun (V : World) => V.cell? ⟨ka, 3, none⟩ = some (.int .i64 xo)) V) := fun V hV => (hV.cell (p := ⟨ka, 3, none⟩) HKA.out.2).trans k3
          refine wp_region_noPanic ?_
          refine wp_region_z [] (fun (V : World) => V.cell? ⟨ka, 3, none⟩ = some (.int .i64 xo)) (by kernel_rfl) ?_
          have hHeld : (fun (V : World) => V.cell? ⟨ka, 3, none⟩ = some (.int .i64 xo)) _ := KS.out _ HQ0.out
          obtain ⟨u0, hu0⟩ : ∃ u, u = wa.drew := ⟨_, rfl⟩
          rw [← hu0] at hHeld HQ0
          rw [← hu0]
          clear hu0 k0 k1 k2 k3
          refine wpAnyZ_take (i := 0) (oi := ⟨_, _, _, _, _, _⟩) (v := ?_) rfl (by kernel_rfl) (by kernel_rfl) (by kernel_rfl) (by kernel_rfl) (by kernel_rfl) (fun _ _ _ h => h) (Or.inl ⟨by rfl, ?_⟩) (by assumption) ?_
          rotate_left
          · intro W hSw
            (try dsimp only at hSw)
            go_simp
            (try with_reducible rfl)
          (try simp only [Act.put, List.setIfInBounds_toArray, List.set_cons_zero, List.set_cons_succ])
          refine wpAnyZ_take (i := 1) (oi := ⟨_, _, _, _, _, _⟩) (v := ?_) rfl (by kernel_rfl) (by kernel_rfl) (by kernel_rfl) (by kernel_rfl) (by kernel_rfl) (fun _ _ _ h => h) (Or.inl ⟨by rfl, ?_⟩) (by assumption) ?_
          rotate_left
          · intro W hSw
            (try dsimp only at hSw)
            go_simp
            (try with_reducible rfl)
          (try simp only [Act.put, List.setIfInBounds_toArray, List.set_cons_zero, List.set_cons_succ])
          refine wpAnyZ_take (i := 2) (oi := ⟨_, _, _, _, _, _⟩) (v := ?_) rfl (by kernel_rfl) (by kernel_rfl) (by kernel_rfl) (by kernel_rfl) (by kernel_rfl) (fun _ _ _ h => h) (Or.inl ⟨by rfl, ?_⟩) (by assumption) ?_
          rotate_left
          · intro W hSw
            (try dsimp only at hSw)
            go_simp
            (try with_reducible rfl)
          (try simp only [Act.put, List.setIfInBounds_toArray, List.set_cons_zero, List.set_cons_succ])
          refine wpAnyZ_take (i := 4) (oi := ⟨_, _, _, _, _, _⟩) (v := ?_) rfl (by kernel_rfl) (by kernel_rfl) (by kernel_rfl) (by kernel_rfl) (by kernel_rfl) (fun _ _ _ h => h) (Or.inl ⟨by rfl, ?_⟩) (by assumption) ?_
          rotate_left
          · intro W hSw
            (try dsimp only at hSw)
            go_simp
            (try with_reducible rfl)
          (try simp only [Act.put, List.setIfInBounds_toArray, List.set_cons_zero, List.set_cons_succ])
          refine wpAnyZ_take (i := 5) (oi := ⟨_, _, _, _, _, _⟩) (v := ?_) rfl (by kernel_rfl) (by kernel_rfl) (by kernel_rfl) (by kernel_rfl) (by kernel_rfl) (fun _ _ _ h => h) (Or.inl ⟨by rfl, ?_⟩) (by assumption) ?_
          rotate_left
          · intro W hSw
            (try dsimp only at hSw)
            go_simp
            (try with_reducible rfl)
          (try simp only [Act.put, List.setIfInBounds_toArray, List.set_cons_zero, List.set_cons_succ])
          refine wpAnyZ_take (i := 6) (oi := ⟨_, _, _, _, _, _⟩) (v := ?_) rfl (by kernel_rfl) (by kernel_rfl) (by kernel_rfl) (by kernel_rfl) (by kernel_rfl) (fun _ _ _ h => h) (Or.inl ⟨by rfl, ?_⟩) (by assumption) ?_
          rotate_left
          · intro W hSw
            (try dsimp only at hSw)
            go_simp
            (try with_reducible rfl)
          (try simp only [Act.put, List.setIfInBounds_toArray, List.set_cons_zero, List.set_cons_succ])
          refine wpAnyZ_ready (rs := [3]) (by kernel_rfl) (by simp) ?_
          refine AllReadyZ.cons (o := ⟨_, _, _, _, _, _⟩) rfl (fun C hC => ?_) AllReadyZ.nil
          go_simp
          refine (ixFind_any (HP.out.on HQ0.out).ix HP.out.small xo HX.out.off).mono ?_
          rintro e u1 ⟨rfl, hb1⟩
          have HQ1 : Hid (Below wa.heap.size wa u1) := HQ0.out.trans (hb1.out.mono HQ0.out.size)
          clear hb1
          obtain ⟨z, hz⟩ : ∃ z, z = findE (ents every bs) xo := ⟨_, rfl⟩
          have HZ := Lib.hid hz
          rw [← hz]
          clear hz
          have hHeld : (fun (V : World) => V.cell? ⟨ka, 3, none⟩ = some (.int .i64 xo)) u1 := KS.out _ HQ1.out
          refine hC.out _ _ (fun _ => hHeld) (fun _ => ?_)
          clear hC C
          (try simp only [Act.put, List.setIfInBounds_toArray, List.set_cons_zero, List.set_cons_succ])
          refine wpAnyZ_ready (rs := [7]) (by kernel_rfl) (by simp) ?_
          refine AllReadyZ.cons (o := ⟨_, _, _, _, _, _⟩) rfl (fun C hC => ?_) AllReadyZ.nil
          go_simp
          refine (plFind_any u1 kp ad n cp base every bs (HP.out.on HQ1.out).pl (by have := HP.out.few; omega) xo).mono ?_
          rintro e u2 ⟨rfl, hb2⟩
          have HQ2 : Hid (Below wa.heap.size wa u2) := HQ1.out.trans (hb2.mono HQ1.out.size)
          clear hb2
          rw [← HZ.out]
          have hHeld : (fun (V : World) => V.cell? ⟨ka, 3, none⟩ = some (.int .i64 xo)) u2 := KS.out _ HQ2.out
          refine hC.out _ _ (fun _ => hHeld) (fun _ => ?_)
          clear hC C
          (try simp only [Act.put, List.setIfInBounds_toArray, List.set_cons_zero, List.set_cons_succ])
          refine wpAnyZ_take (i := 8) (oi := ⟨_, _, _, _, _, _⟩) (v := ?_) rfl (by kernel_rfl) (by kernel_rfl) (by kernel_rfl) (by kernel_rfl) (by kernel_rfl) (fun _ _ _ h => h) (Or.inl ⟨by rfl, ?_⟩) (by assumption) ?_
          rotate_left
          · intro W hSw
            (try dsimp only at hSw)
            go_simp
            (try with_reducible rfl)
          (try simp only [Act.put, List.setIfInBounds_toArray, List.set_cons_zero, List.set_cons_succ])
          refine wpAnyZ_done (by kernel_rfl) ?_ _
          refine NoPanic.normal ?_
          clear hHeld KS
          have HP2 := Lib.hid (HP.out.on HQ2.out)
          go_wp2_with fail
          refine (ixSame_any u2 kx F base every bs HP2.out.ix HP2.out.small kp ad n cp bs HP2.out.pl rfl).mono ?_
          rintro e u9 ⟨rfl, hb9⟩
          have HP3 := Lib.hid (HP2.out.on hb9)
          clear hb9
          go_wp2_with fail
          go_roundw
          case rel => exact ⟨i + 1, F, ad, n, cp, bs, by go_num, by omega, by omega, HP3.out.more (by omega)⟩
          case measure => simp [intOf]; omega
        · have hq4 : (xk == 4) = false := by simp [hk4]
          have hq4d : decide (xk = 4) = false := decide_eq_false hk4
          by_cases g1 : xk < 4
          rotate_left
          · have g1d : decide (xk < 4) = false := decide_eq_false g1
            have HP2 := HP
            clear HP
            go_wp2_with fail
            refine (ixSame_any wa kx F base every bs HP2.out.ix HP2.out.small kp ad n cp bs HP2.out.pl rfl).mono ?_
            rintro e u9 ⟨rfl, hb9⟩
            have HP3 := Lib.hid (HP2.out.on hb9)
            clear hb9
            go_wp2_with fail
            go_roundw
            case rel => exact ⟨i + 1, F, ad, n, cp, bs, by go_num, by omega, by omega, HP3.out.more (by omega)⟩
            case measure => simp [intOf]; omega
          have g1d : decide (xk < 4) = true := decide_eq_true g1
          by_cases g2 : xs < 1099511627776
          rotate_left
          · have g2d : decide (xs < 1099511627776) = false := decide_eq_false g2
            have HP2 := HP
            clear HP
            go_wp2_with fail
            refine (ixSame_any wa kx F base every bs HP2.out.ix HP2.out.small kp ad n cp bs HP2.out.pl rfl).mono ?_
            rintro e u9 ⟨rfl, hb9⟩
            have HP3 := Lib.hid (HP2.out.on hb9)
            clear hb9
            go_wp2_with fail
            go_roundw
            case rel => exact ⟨i + 1, F, ad, n, cp, bs, by go_num, by omega, by omega, HP3.out.more (by omega)⟩
            case measure => simp [intOf]; omega
          have g2d : decide (xs < 1099511627776) = true := decide_eq_true g2
          by_cases g3 : xp < 1099511627776
          rotate_left
          · have g3d : decide (xp < 1099511627776) = false := decide_eq_false g3
            have HP2 := HP
            clear HP
            go_wp2_with fail
            refine (ixSame_any wa kx F base every bs HP2.out.ix HP2.out.small kp ad n cp bs HP2.out.pl rfl).mono ?_
            rintro e u9 ⟨rfl, hb9⟩
            have HP3 := Lib.hid (HP2.out.on hb9)
            clear hb9
            go_wp2_with fail
            go_roundw
            case rel => exact ⟨i + 1, F, ad, n, cp, bs, by go_num, by omega, by omega, HP3.out.more (by omega)⟩
            case measure => simp [intOf]; omega
          have g3d : decide (xp < 1099511627776) = true := decide_eq_true g3
          go_upto_region 15 with fail
          have HQ0 : Hid (Below wa.heap.size wa wa.drew) := (Below.refl _ wa).drew
          have HXS : Hid (I64 xo ∧ (-9223372036854775808 ≤ xp ∧ xp ≤ 1099511627776) ∧ (-9223372036854775808 ≤ xs ∧ xs ≤ 1099511627776)) := ⟨HX.out.off, ⟨HX.out.pos.1, by omega⟩, HX.out.size.1, by omega⟩
          have KS : Hid (∀ V, V.heap[ka]? = wa.heap[ka]? → (fun (V : World) => V.cell? ⟨ka, 1, none⟩ = some (.int .i64 xp) ∧ V.cell? ⟨ka, 2, none⟩ = some (.int .i64 xs) ∧ V.cell? ⟨ka, 3, none⟩ = some (.int .i64 xo)) V) := fun V hV => by
            have h : V.heap[ka]? = some (.cells #[.int .i64 xk, .int .i64 xp, .int .i64 xs, .int .i64 xo] 24) := hV.trans hbx
            exact ⟨by rw [cell_of_row _ _ 1 _ _ _ h]; rfl, by rw [cell_of_row _ _ 2 _ _ _ h]; rfl, by rw [cell_of_row _ _ 3 _ _ _ h]; rfl⟩
          have HE0 : Hid (wa.drew.heap[ka]? = wa.heap[ka]?) := HQ0.out.block ka HKA.out.2
          refine wp_region_noPanic ?_
          refine wp_region_z [] (fun (V : World) => V.cell? ⟨ka, 1, none⟩ = some (.int .i64 xp) ∧ V.cell? ⟨ka, 2, none⟩ = some (.int .i64 xs) ∧ V.cell? ⟨ka, 3, none⟩ = some (.int .i64 xo)) (by kernel_rfl) ?_
          have hHeld : (fun (V : World) => V.cell? ⟨ka, 1, none⟩ = some (.int .i64 xp) ∧ V.cell? ⟨ka, 2, none⟩ = some (.int .i64 xs) ∧ V.cell? ⟨ka, 3, none⟩ = some (.int .i64 xo)) _ := KS.out _ HE0.out
          obtain ⟨u0, hu0⟩ : ∃ u, u = wa.drew := ⟨_, rfl⟩
          rw [← hu0] at hHeld HQ0 HE0
          rw [← hu0]
          have HP0 := Lib.hid (HP.out.on HQ0.out)
          clear hu0 k0 k1 k2 k3 hbx HP
          refine wpAnyZ_take (i := 0) (oi := ⟨_, _, _, _, _, _⟩) (v := ?_) rfl (by kernel_rfl) (by kernel_rfl) (by kernel_rfl) (by kernel_rfl) (by kernel_rfl) (fun _ _ _ h => h) (Or.inl ⟨by rfl, ?_⟩) (by assumption) ?_
          rotate_left
          · intro W hSw
            (try dsimp only at hSw)
            go_simp
            (try with_reducible rfl)
          (try simp only [Act.put, List.setIfInBounds_toArray, List.set_cons_zero, List.set_cons_succ])
          refine wpAnyZ_take (i := 1) (oi := ⟨_, _, _, _, _, _⟩) (v := ?_) rfl (by kernel_rfl) (by kernel_rfl) (by kernel_rfl) (by kernel_rfl) (by kernel_rfl) (fun _ _ _ h => h) (Or.inl ⟨by rfl, ?_⟩) (by assumption) ?_
          rotate_left
          · intro W hSw
            (try dsimp only at hSw)
            go_simp
            (try with_reducible rfl)
          (try simp only [Act.put, List.setIfInBounds_toArray, List.set_cons_zero, List.set_cons_succ])
          refine wpAnyZ_take (i := 2) (oi := ⟨_, _, _, _, _, _⟩) (v := ?_) rfl (by kernel_rfl) (by kernel_rfl) (by kernel_rfl) (by kernel_rfl) (by kernel_rfl) (fun _ _ _ h => h) (Or.inl ⟨by rfl, ?_⟩) (by assumption) ?_
          rotate_left
          · intro W hSw
            (try dsimp only at hSw)
            go_simp
            (try with_reducible rfl)
          (try simp only [Act.put, List.setIfInBounds_toArray, List.set_cons_zero, List.set_cons_succ])
          refine wpAnyZ_take (i := 3) (oi := ⟨_, _, _, _, _, _⟩) (v := ?_) rfl (by kernel_rfl) (by kernel_rfl) (by kernel_rfl) (by kernel_rfl) (by kernel_rfl) (fun _ _ _ h => h) (Or.inl ⟨by rfl, ?_⟩) (by assumption) ?_
          rotate_left
          · intro W hSw
            (try dsimp only at hSw)
            go_simp
            (try with_reducible rfl)
          (try simp only [Act.put, List.setIfInBounds_toArray, List.set_cons_zero, List.set_cons_succ])
          refine wpAnyZ_take (i := 4) (oi := ⟨_, _, _, _, _, _⟩) (v := ?_) rfl (by kernel_rfl) (by kernel_rfl) (by kernel_rfl) (by kernel_rfl) (by kernel_rfl) (fun _ _ _ h => h) (Or.inl ⟨by rfl, ?_⟩) (by assumption) ?_
          rotate_left
          · intro W hSw
            (try dsimp only at hSw)
            go_simp
            (try with_reducible rfl)
          (try simp only [Act.put, List.setIfInBounds_toArray, List.set_cons_zero, List.set_cons_succ])
          refine wpAnyZ_take (i := 5) (oi := ⟨_, _, _, _, _, _⟩) (v := ?_) rfl (by kernel_rfl) (by kernel_rfl) (by kernel_rfl) (by kernel_rfl) (by kernel_rfl) (fun _ _ _ h => h) (Or.inl ⟨by rfl, ?_⟩) (by assumption) ?_
          rotate_left
          · intro W hSw
            (try dsimp only at hSw)
            go_simp
            (try with_reducible rfl)
          (try simp only [Act.put, List.setIfInBounds_toArray, List.set_cons_zero, List.set_cons_succ])
          refine wpAnyZ_take (i := 6) (oi := ⟨_, _, _, _, _, _⟩) (v := ?_) rfl (by kernel_rfl) (by kernel_rfl) (by kernel_rfl) (by kernel_rfl) (by kernel_rfl) (fun _ _ _ h => h) (Or.inl ⟨by rfl, ?_⟩) (by assumption) ?_
          rotate_left
          · intro W hSw
            (try dsimp only at hSw)
            go_simp
            (try with_reducible rfl)
          (try simp only [Act.put, List.setIfInBounds_toArray, List.set_cons_zero, List.set_cons_succ])
          refine wpAnyZ_take (i := 8) (oi := ⟨_, _, _, _, _, _⟩) (v := ?_) rfl (by kernel_rfl) (by kernel_rfl) (by kernel_rfl) (by kernel_rfl) (by kernel_rfl) (fun _ _ _ h => h) (Or.inl ⟨by rfl, ?_⟩) (by assumption) ?_
          rotate_left
          · intro W hSw
            (try dsimp only at hSw)
            go_simp
            (try with_reducible rfl)
          (try simp only [Act.put, List.setIfInBounds_toArray, List.set_cons_zero, List.set_cons_succ])
          refine wpAnyZ_take (i := 9) (oi := ⟨_, _, _, _, _, _⟩) (v := ?_) rfl (by kernel_rfl) (by kernel_rfl) (by kernel_rfl) (by kernel_rfl) (by kernel_rfl) (fun _ _ _ h => h) (Or.inl ⟨by rfl, ?_⟩) (by assumption) ?_
          rotate_left
          · intro W hSw
            (try dsimp only at hSw)
            go_simp
            (try with_reducible rfl)
          (try simp only [Act.put, List.setIfInBounds_toArray, List.set_cons_zero, List.set_cons_succ])
          refine wpAnyZ_take (i := 10) (oi := ⟨_, _, _, _, _, _⟩) (v := ?_) rfl (by kernel_rfl) (by kernel_rfl) (by kernel_rfl) (by kernel_rfl) (by kernel_rfl) (fun _ _ _ h => h) (Or.inl ⟨by rfl, ?_⟩) (by assumption) ?_
          rotate_left
          · intro W hSw
            (try dsimp only at hSw)
            go_simp
            (try with_reducible rfl)
          (try simp only [Act.put, List.setIfInBounds_toArray, List.set_cons_zero, List.set_cons_succ])
          refine wpAnyZ_take (i := 11) (oi := ⟨_, _, _, _, _, _⟩) (v := ?_) rfl (by kernel_rfl) (by kernel_rfl) (by kernel_rfl) (by kernel_rfl) (by kernel_rfl) (fun _ _ _ h => h) (Or.inl ⟨by rfl, ?_⟩) (by assumption) ?_
          rotate_left
          · intro W hSw
            (try dsimp only at hSw)
            go_simp
            (try with_reducible rfl)
          (try simp only [Act.put, List.setIfInBounds_toArray, List.set_cons_zero, List.set_cons_succ])
          refine wpAnyZ_take (i := 12) (oi := ⟨_, _, _, _, _, _⟩) (v := ?_) rfl (by kernel_rfl) (by kernel_rfl) (by kernel_rfl) (by kernel_rfl) (by kernel_rfl) (fun _ _ _ h => h) (Or.inl ⟨by rfl, ?_⟩) (by assumption) ?_
          rotate_left
          · intro W hSw
            (try dsimp only at hSw)
            go_simp
            (try with_reducible rfl)
          (try simp only [Act.put, List.setIfInBounds_toArray, List.set_cons_zero, List.set_cons_succ])
          refine wpAnyZ_take (i := 13) (oi := ⟨_, _, _, _, _, _⟩) (v := ?_) rfl (by kernel_rfl) (by kernel_rfl) (by kernel_rfl) (by kernel_rfl) (by kernel_rfl) (fun _ _ _ h => h) (Or.inl ⟨by rfl, ?_⟩) (by assumption) ?_
          rotate_left
          · intro W hSw
            (try dsimp only at hSw)
            go_simp
            (try with_reducible rfl)
          (try simp only [Act.put, List.setIfInBounds_toArray, List.set_cons_zero, List.set_cons_succ])
          refine wpAnyZ_take (i := 14) (oi := ⟨_, _, _, _, _, _⟩) (v := ?_) rfl (by kernel_rfl) (by kernel_rfl) (by kernel_rfl) (by kernel_rfl) (by kernel_rfl) (fun _ _ _ h => h) (Or.inl ⟨by rfl, ?_⟩) (by assumption) ?_
          rotate_left
          · intro W hSw
            (try dsimp only at hSw)
            go_simp
            (try with_reducible rfl)
          (try simp only [Act.put, List.setIfInBounds_toArray, List.set_cons_zero, List.set_cons_succ])
          refine wpAnyZ_ready (rs := [7]) (by kernel_rfl) (by simp) ?_
          refine AllReadyZ.cons (o := ⟨_, _, _, _, _, _⟩) rfl (fun C hC => ?_) AllReadyZ.nil
          go_simp
          refine (ixAdd_any HP0.out.ix HP0.out.small xo xp xs HXS.out.1 HXS.out.2.1 HXS.out.2.2).mono ?_
          rintro e u1 ⟨rfl, F', HIX1, HK1, HF1⟩
          obtain ⟨r, hr⟩ : ∃ r, r = !badA base bs xo xp xs := ⟨_, rfl⟩
          obtain ⟨bs', hbs'⟩ : ∃ b, b = addA base bs xo xp xs := ⟨_, rfl⟩
          have HR := Lib.hid hr
          have HBS := Lib.hid hbs'
          rw [← hbs'] at HIX1
          rw [← hr]
          clear hr hbs'
          have HE1 : Hid (u1.heap[ka]? = wa.heap[ka]?) := (HK1.out.block ka (by have := HQ0.out.size; have := HKA.out; omega) (fun hf => by have := HFL.out _ hf; have := HKA.out; omega)).trans HE0.out
          have hHeld : (fun (V : World) => V.cell? ⟨ka, 1, none⟩ = some (.int .i64 xp) ∧ V.cell? ⟨ka, 2, none⟩ = some (.int .i64 xs) ∧ V.cell? ⟨ka, 3, none⟩ = some (.int .i64 xo)) u1 := KS.out _ HE1.out
          refine hC.out _ _ (fun _ => hHeld) (fun _ => ?_)
          clear hC C
          (try simp only [Act.put, List.setIfInBounds_toArray, List.set_cons_zero, List.set_cons_succ])
          refine wpAnyZ_ready (rs := [15]) (by kernel_rfl) (by simp) ?_
          refine AllReadyZ.cons (o := ⟨_, _, _, _, _, _⟩) rfl (fun C hC => ?_) AllReadyZ.nil
          go_simp
          refine (plAdd_any u1 kp ad n cp base every bs (HP0.out.pl.kept HK1.out HP0.out.no) (by have := HP0.out.few; omega) xo xp xs (pos_ok HP0.out) ⟨HXS.out.2.1.1, by have := HXS.out.2.1.2; omega⟩ ⟨HXS.out.2.2.1, by have := HXS.out.2.2.2; omega⟩).mono ?_
          rintro e u2 ⟨rfl, ad', n', cp', hp2, hk2, ha2⟩
          rw [← HBS.out] at hp2
          rw [← HR.out]
          have hsm := small_add (base := base) (i := i) HP0.out.small HP0.out.len (by omega) HXS.out.1 HXS.out.2.1.2 HXS.out.2.2.2
          rw [← HBS.out] at hsm
          have HP2 := Lib.hid (HP0.out.add HIX1.out HK1.out HF1.out hp2 hk2 ha2 hsm.1 hsm.2)
          have HE2 : Hid (u2.heap[ka]? = wa.heap[ka]?) := (hk2.block ka (by have := HQ0.out.size; have := HK1.out.size; have := HKA.out; omega) (fun e => by have := HP0.out.pl.box.lt; have := HQ0.out.size; have := HKA.out; have := HKP.out; omega)).trans HE1.out
          clear hp2 hk2 ha2 hsm HIX1 HK1 HF1 HP0
          have hHeld : (fun (V : World) => V.cell? ⟨ka, 1, none⟩ = some (.int .i64 xp) ∧ V.cell? ⟨ka, 2, none⟩ = some (.int .i64 xs) ∧ V.cell? ⟨ka, 3, none⟩ = some (.int .i64 xo)) u2 := KS.out _ HE2.out
          refine hC.out _ _ (fun _ => hHeld) (fun _ => ?_)
          clear hC C
          (try simp only [Act.put, List.setIfInBounds_toArray, List.set_cons_zero, List.set_cons_succ])
          refine wpAnyZ_take (i := 16) (oi := ⟨_, _, _, _, _, _⟩) (v := ?_) rfl (by kernel_rfl) (by kernel_rfl) (by kernel_rfl) (by kernel_rfl) (by kernel_rfl) (fun _ _ _ h => h) (Or.inl ⟨by rfl, ?_⟩) (by assumption) ?_
          rotate_left
          · intro W hSw
            (try dsimp only at hSw)
            go_simp
            (try with_reducible rfl)
          (try simp only [Act.put, List.setIfInBounds_toArray, List.set_cons_zero, List.set_cons_succ])
          refine wpAnyZ_done (by kernel_rfl) ?_ _
          refine NoPanic.normal ?_
          clear hHeld KS HR HBS
          go_wp2_with fail
          refine (ixSame_any u2 kx F' base every bs' HP2.out.ix HP2.out.small kp ad' n' cp' bs' HP2.out.pl rfl).mono ?_
          rintro e u9 ⟨rfl, hb9⟩
          have HP3 := Lib.hid (HP2.out.on hb9)
          clear hb9
          go_wp2_with fail
          go_roundw
          case rel => exact ⟨i + 1, F', ad', n', cp', bs', by go_num, by omega, by omega, HP3.out⟩
          case measure => simp [intOf]; omega
      · have HNL : Hid (¬ (i < len ∧ i < 80)) := hlt
        by_cases hle : i < len
        · have e1 : decide (i < len) = true := decide_eq_true hle
          have e2 : decide (i < 80) = false := decide_eq_false (by have := HNL.out; omega)
          go_wp2_with fail
          obtain ⟨m, hm⟩ : ∃ m, m = 16 * (ents every bs).length := ⟨_, rfl⟩
          refine (ixBytes_any HP.out.ix HP.out.small m hm.symm).mono ?_
          rintro e w2 ⟨ad2, cap2, rfl, HR2, HB2⟩
          have HP2 := Lib.hid (HP.out.on HB2.out)
          have HM : Hid (m ≤ 16000) := by show m ≤ _; have h1 := ents_len every bs; have h2 := HP.out.small.1; omega
          clear HP hm
          go_wp2_with fail
          refine (ixRead_any w2 base every HBI.out HEI.out ad2 m cap2 _ HR2.out HM.out (.inr ⟨bs, HP2.out.ix.made, HP2.out.small, _, List.take_length.symm⟩)).mono ?_
          rintro e w3 ⟨HB3, hc⟩
          have HP3 := Lib.hid (HP2.out.on HB3.out)
          rcases hc with ⟨rfl, HNO⟩ | ⟨_, ky, G, bs2, rfl, HIY, HSY, HBY, HFY⟩
          · exact absurd rfl (HNO.out HBN.out bs HP3.out.ix.made HP3.out.small)
          · have HEE : Hid (ents every bs2 = ents every bs) := by
              show _ = _
              exact bytes_eq HIY.out.made HP3.out.ix.made HGN.out HSY.out HP3.out.small HBY.out.symm
            go_wp2_with fail
            refine (ixSame_any w3 ky G base every bs2 HIY.out HSY.out kp ad n cp bs HP3.out.pl HEE.out).mono ?_
            rintro e w4 ⟨rfl, hb4⟩
            have HB4 : Hid (Below W.heap.size W w4) := HP3.out.below.trans (hb4.mono HP3.out.below.size)
            clear hb4
            go_wp2
            go_ret
            exact ⟨rfl, HB4.out⟩
        · have e1 : decide (i < len) = false := decide_eq_false hle
          go_wp2_with fail
          obtain ⟨m, hm⟩ : ∃ m, m = 16 * (ents every bs).length := ⟨_, rfl⟩
          refine (ixBytes_any HP.out.ix HP.out.small m hm.symm).mono ?_
          rintro e w2 ⟨ad2, cap2, rfl, HR2, HB2⟩
          have HP2 := Lib.hid (HP.out.on HB2.out)
          have HM : Hid (m ≤ 16000) := by show m ≤ _; have h1 := ents_len every bs; have h2 := HP.out.small.1; omega
          clear HP hm
          go_wp2_with fail
          refine (ixRead_any w2 base every HBI.out HEI.out ad2 m cap2 _ HR2.out HM.out (.inr ⟨bs, HP2.out.ix.made, HP2.out.small, _, List.take_length.symm⟩)).mono ?_
          rintro e w3 ⟨HB3, hc⟩
          have HP3 := Lib.hid (HP2.out.on HB3.out)
          rcases hc with ⟨rfl, HNO⟩ | ⟨_, ky, G, bs2, rfl, HIY, HSY, HBY, HFY⟩
          · exact absurd rfl (HNO.out HBN.out bs HP3.out.ix.made HP3.out.small)
          · have HEE : Hid (ents every bs2 = ents every bs) := by
              show _ = _
              exact bytes_eq HIY.out.made HP3.out.ix.made HGN.out HSY.out HP3.out.small HBY.out.symm
            go_wp2_with fail
            refine (ixSame_any w3 ky G base every bs2 HIY.out HSY.out kp ad n cp bs HP3.out.pl HEE.out).mono ?_
            rintro e w4 ⟨rfl, hb4⟩
            have HB4 : Hid (Below W.heap.size W w4) := HP3.out.below.trans (hb4.mono HP3.out.below.size)
            clear hb4
            go_wp2
            go_ret
            exact ⟨rfl, HB4.out⟩
end Go.Proofs.Ytelbignfecjjhaa
