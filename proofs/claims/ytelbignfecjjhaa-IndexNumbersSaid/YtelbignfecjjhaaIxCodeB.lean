/- The code's sparse, Add. -/
import Derived.Test.YtelbignfecjjhaaIxCodeA
namespace Go.Proofs.Ytelbignfecjjhaa
open Go.RowKit
open Go.IxMath Go.VarMath
set_option linter.unusedVariables false

set_option maxRecDepth 100000 in
set_option maxHeartbeats 4000000 in
theorem sparse_any (w : World) (k : Nat) (base every : Int) (es : List En) (bs : List Ba) (ve vb : Value) (h : IxAt w k base every es bs ve vb) (hl : ∀ e ∈ es, 0 ≤ e.pos ∧ e.pos ≤ 4611686018427387904) (hn : es.length ≤ 1000) (pos : Int) (hp : 0 ≤ pos ∧ pos ≤ 9223372036854775807) :
    Calls Try.prog 23 #[.pointer (some ⟨k, 0, none⟩), .int .i64 pos] w fun e w' => e = .returned (.bool (wantE every es pos)) ∧ Hid (Below w.heap.size w w') := by
  obtain ⟨ad, cap, hv, hr⟩ := h.eat
  have hz := last_cell hr hl every pos
  obtain ⟨n, hn'⟩ : ∃ n, n = es.length := ⟨_, rfl⟩
  have hnil : n = 0 → wantE every es pos = true := fun e => by rw [List.eq_nil_of_length_eq_zero (hn'.symm.trans e)]; rfl
  rw [← hn'] at hv hr hz hn
  subst hv
  have q1 := h.box.c1
  have q2 := h.box.c2
  obtain ⟨r, hrr⟩ : ∃ r, r = wantE every es pos := ⟨_, rfl⟩
  rw [← hrr] at hz hnil
  rw [← hrr]
  clear h hr hn' hrr hl
  go_enter Try.func23, Try.ntmps23
  rcases hz with h0 | ⟨b, o, x, h0, el, hx, hc, hw⟩
  · subst h0
    have hr := hnil rfl
    clear hnil
    go_wp2_with fail
    go_ret
    exact ⟨by rw [hr]; rfl, Below.refl _ w⟩
  · obtain ⟨xp, hxp⟩ : ∃ z, z = x.pos := ⟨_, rfl⟩
    rw [← hxp] at hx hc hw
    subst el hw
    clear hxp hnil
    have hn0 : ((n : Int) == 0) = false := by simp; omega
    have hn2 : (1 : Int) ≤ (n : Int) := by omega
    have hn5 : (n : Int) - 1 < (n : Int) := by omega
    have hn3 : ((n : Int) - 1).toNat = n - 1 := by omega
    have hn4 : IntKind.i64.wrap ((n : Int) - 1) = (n : Int) - 1 := by rw [IntKind.wrap_i64]; omega
    have hw4 : IntKind.i64.wrap (pos - xp) = pos - xp := by rw [IntKind.wrap_i64]; omega
    go_upto_region 3 with fail
    go_quiet (fail)
    go_wp2_with fail
    go_ret
    exact ⟨rfl, below_drewN w nq⟩
theorem ents_snoc_of {every : Int} {bs : List Ba} {es : List En} (he : es = ents every bs) (off pos size : Int) : ents every (bs ++ [⟨off, pos, pos + size⟩]) = if wantE every es pos then es ++ [⟨off, pos⟩] else es := by rw [ents_snoc, he]; rfl
theorem gives_no {w w' : World} {k : Nat} {F : Nat → Prop} {base every off pos size : Int} {bs : List Ba} (h : IxOk w k F base every bs) (hb : badA base bs off pos size = true) (hw : Below w.heap.size w w') : GivesIx w k F base every (addA base bs off pos size) (!badA base bs off pos size) (.returned (.bool false)) w' := by
  refine ⟨by rw [hb]; rfl, F, ?_, Kept.of_below hw, fun j hj => .inl hj⟩
  unfold addA
  rw [hb]
  exact h.on hw
theorem gives_yes {w wx : World} {k : Nat} {F : Nat → Prop} {base every off pos size : Int} {bs : List Ba} {es : List En} {ve vb : Value} (h : Way w wx F k base every es (bs ++ [⟨off, pos, pos + size⟩]) ve vb) (he : es = ents every (bs ++ [⟨off, pos, pos + size⟩])) (h0 : 0 ≤ base ∧ base ≤ 1099511627776 ∧ 1 ≤ every ∧ every ≤ 1073741824) (hm : MadeI base bs) (hb : badA base bs off pos size = false) : GivesIx w k F base every (addA base bs off pos size) (!badA base bs off pos size) (.returned (.bool true)) wx := by
  refine ⟨by rw [hb]; rfl, ?_⟩
  unfold addA
  rw [hb]
  exact h.done he h0 (hm.snoc hb)
set_option maxRecDepth 100000 in
set_option maxHeartbeats 8000000 in
theorem ixAdd_any {w : World} {k : Nat} {F : Nat → Prop} {base every : Int} {bs : List Ba} (h : IxOk w k F base every bs) (hs : Small bs) (off pos size : Int) (ho : I64 off) (hp : -9223372036854775808 ≤ pos ∧ pos ≤ 1099511627776) (hz : -9223372036854775808 ≤ size ∧ size ≤ 1099511627776) :
    Calls Try.prog 10 #[.pointer (some ⟨k, 0, none⟩), .int .i64 off, .int .i64 pos, .int .i64 size] w (GivesIx w k F base every (addA base bs off pos size) (!badA base bs off pos size)) := by
  have H := Lib.hid h
  obtain ⟨h0, hm, ve, vb, hat, hf⟩ := h
  have HY := Lib.hid (Way.start hat hf)
  have HX := Lib.hid hat
  have HB0 := Lib.hid hat
  have HS := Lib.hid hs
  have HM := Lib.hid hm
  have H0 := Lib.hid h0
  have HLE : Hid (∀ e ∈ ents every bs, 0 ≤ e.pos ∧ e.pos ≤ 4611686018427387904) := fun e he => by
    obtain ⟨b, hb, rfl⟩ := ents_mem HM.out e he
    have h1 := made_all HM.out b hb
    have h2 := HS.out.2 b hb
    exact ⟨h1.2.2.1, by show b.pos ≤ _; omega⟩
  have HNE : Hid ((ents every bs).length ≤ 1000) := by show _ ≤ _; have := ents_len every bs; have := HS.out.1; omega
  have HPI : Hid (I64 pos) := by show I64 _; exact ⟨hp.1, by omega⟩
  have HZI : Hid (I64 size) := by show I64 _; exact ⟨hz.1, by omega⟩
  obtain ⟨es, hes⟩ : ∃ l, l = ents every bs := ⟨_, rfl⟩
  rw [← hes] at HX HLE HNE HY
  have HES := Lib.hid hes
  clear hes hat hf h0 hm hs
  obtain ⟨bad, hbad⟩ : ∃ r, r = badA base bs off pos size := ⟨_, rfl⟩
  have HBAD := Lib.hid hbad
  obtain ⟨snt, hsnt⟩ : ∃ r, r = wantE every es pos := ⟨_, rfl⟩
  have HSNT := Lib.hid hsnt
  clear hbad hsnt
  go_enter Try.func10, Try.ntmps10
  go_upto_region 2 with fail
  obtain ⟨w1, hw1⟩ : ∃ z, z = w.alloc (.cells #[.int .i64 off, .int .i64 pos, .int .i64 size] 56) := ⟨_, rfl⟩
  obtain ⟨kb, hkb⟩ : ∃ z, z = w.heap.size := ⟨_, rfl⟩
  have HB1 : Hid (Below w.heap.size w w1) := by show Below _ _ _; rw [hw1]; exact (Below.refl _ w).alloc (Nat.le_refl _) _
  have HBX1 := Lib.hid (show w1.heap[kb]? = some (.cells #[.int .i64 off, .int .i64 pos, .int .i64 size] 56 (0, 0)) by rw [hw1, hkb]; exact heap_alloc_new w _)
  have HKB : Hid (kb = w.heap.size) := hkb
  rw [← hw1, ← hkb]
  clear hw1 hkb
  have t0 : w1.cell? ⟨kb, 0, none⟩ = some (.int .i64 off) := cell_of_row _ _ 0 _ _ _ HBX1.out
  have t1 : w1.cell? ⟨kb, 1, none⟩ = some (.int .i64 pos) := cell_of_row _ _ 1 _ _ _ HBX1.out
  have t2 : w1.cell? ⟨kb, 2, none⟩ = some (.int .i64 size) := cell_of_row _ _ 2 _ _ _ HBX1.out
  go_wp2_with fail
  refine (takes_any w1 k base every es bs ve vb (HX.out.on HB1.out) H0.out.1 HM.out HS.out off pos size HPI.out HZI.out).mono ?_
  rintro e w2 ⟨rfl, HB2⟩
  have HBT2 : Hid (Below w.heap.size w w2) := HB1.out.trans (HB2.out.mono HB1.out.size)
  have HBX2 := Lib.hid (show w2.heap[kb]? = some (.cells #[.int .i64 off, .int .i64 pos, .int .i64 size] 56 (0, 0)) from (HB2.out.block kb (lt_of_block HBX1.out)).trans HBX1.out)
  rw [← HBAD.out]
  clear t0 t1 t2 HB1 HB2 HBX1
  cases bad
  rotate_left
  · go_wp2_with fail
    go_ret
    exact gives_no H.out HBAD.out.symm HBT2.out
  have HPG : Hid (0 ≤ pos ∧ pos ≤ 9223372036854775807) := by show _ ∧ _; have := good_of HBAD.out.symm; omega
  go_wp2_with fail
  refine (sparse_any w2 k base every es bs ve vb (HX.out.on HBT2.out) HLE.out HNE.out pos HPG.out).mono ?_
  rintro e w3 ⟨rfl, HB3⟩
  have HBT3 : Hid (Below w.heap.size w w3) := HBT2.out.trans (HB3.out.mono HBT2.out.size)
  have HBX3 := Lib.hid (show w3.heap[kb]? = some (.cells #[.int .i64 off, .int .i64 pos, .int .i64 size] 56 (0, 0)) from (HB3.out.block kb (lt_of_block HBX2.out)).trans HBX2.out)
  have HY3 := Lib.hid (HY.out.on HBT3.out)
  rw [← HSNT.out]
  clear HB3 HBX2 HBT2 HX HY H
  have HNB : Hid (vb.ownBlock ≠ some kb) := fun e => by have := (HB0.out.bas.lt kb e).2; have := HKB.out; omega
  cases snt
  · have HE4 : Hid (es = ents every (bs ++ [⟨off, pos, pos + size⟩])) := by show _ = _; rw [ents_snoc_of HES.out, ← HSNT.out]; rfl
    go_upto_region 6 with fail
    have hdr : Below w3.heap.size w3 w3.drew := (Below.refl _ w3).drew
    have KS : Hid (∀ V, Below w3.heap.size w3 V → (fun (V : World) => V.cell? ⟨k, 3, none⟩ = some vb ∧ V.cell? ⟨kb, 0, none⟩ = some (.int .i64 off) ∧ V.cell? ⟨kb, 1, none⟩ = some (.int .i64 pos) ∧ V.cell? ⟨kb, 2, none⟩ = some (.int .i64 size)) V) := fun V hV => by
      have hb : V.heap[kb]? = _ := (hV.block kb (lt_of_block HBX3.out)).trans HBX3.out
      exact ⟨(HY3.out.at_.on hV).box.c3, cell_of_row _ _ 0 _ _ _ hb, cell_of_row _ _ 1 _ _ _ hb, cell_of_row _ _ 2 _ _ _ hb⟩
    refine wp_region_noPanic ?_
    refine wp_region_z [10] (fun (V : World) => V.cell? ⟨k, 3, none⟩ = some vb ∧ V.cell? ⟨kb, 0, none⟩ = some (.int .i64 off) ∧ V.cell? ⟨kb, 1, none⟩ = some (.int .i64 pos) ∧ V.cell? ⟨kb, 2, none⟩ = some (.int .i64 size)) (by kernel_rfl) ?_
    have hHeld : (fun (V : World) => V.cell? ⟨k, 3, none⟩ = some vb ∧ V.cell? ⟨kb, 0, none⟩ = some (.int .i64 off) ∧ V.cell? ⟨kb, 1, none⟩ = some (.int .i64 pos) ∧ V.cell? ⟨kb, 2, none⟩ = some (.int .i64 size)) _ := KS.out _ hdr
    obtain ⟨u0, hu0⟩ : ∃ u, u = w3.drew := ⟨_, rfl⟩
    rw [← hu0] at hHeld hdr
    rw [← hu0]
    clear hu0
    have HQ0 := Lib.hid hdr
    clear hdr
    refine wpAnyZ_take (i := 0) (oi := ⟨_, _, _, _, _, _⟩) (v := ?_) rfl (by kernel_rfl) (by kernel_rfl) (by kernel_rfl) (by kernel_rfl) (by kernel_rfl) (fun _ _ _ h => h) (Or.inl ⟨by rfl, ?_⟩) (by assumption) ?_
    rotate_left
    · intro W hSw
      (try dsimp only at hSw)
      go_simp
      (try with_reducible rfl)
    (try simp only [Act.put, List.setIfInBounds_toArray, List.set_cons_zero, List.set_cons_succ])
    refine wpAnyZ_take (i := 1) (oi := ⟨_, _, _, _, _, _⟩) (v := ?_) rfl (by kernel_rfl) (by kernel_rfl) (by kernel_rfl) (by kernel_rfl) (by kernel_rfl) (fun _ _ _ h => h) (Or.inl ⟨by rfl, ?_⟩) (by assumption) ?_
    rotate_left
    · intro W hSw
      (try dsimp only at hSw)
      go_simp
      (try with_reducible rfl)
    (try simp only [Act.put, List.setIfInBounds_toArray, List.set_cons_zero, List.set_cons_succ])
    refine wpAnyZ_take (i := 2) (oi := ⟨_, _, _, _, _, _⟩) (v := ?_) rfl (by kernel_rfl) (by kernel_rfl) (by kernel_rfl) (by kernel_rfl) (by kernel_rfl) (fun _ _ _ h => h) (Or.inl ⟨by rfl, ?_⟩) (by assumption) ?_
    rotate_left
    · intro W hSw
      (try dsimp only at hSw)
      go_simp
      (try with_reducible rfl)
    (try simp only [Act.put, List.setIfInBounds_toArray, List.set_cons_zero, List.set_cons_succ])
    refine wpAnyZ_take (i := 3) (oi := ⟨_, _, _, _, _, _⟩) (v := ?_) rfl (by kernel_rfl) (by kernel_rfl) (by kernel_rfl) (by kernel_rfl) (by kernel_rfl) (fun _ _ _ h => h) (Or.inl ⟨by rfl, ?_⟩) (by assumption) ?_
    rotate_left
    · intro W hSw
      (try dsimp only at hSw)
      go_simp
      (try with_reducible rfl)
    (try simp only [Act.put, List.setIfInBounds_toArray, List.set_cons_zero, List.set_cons_succ])
    refine wpAnyZ_take (i := 4) (oi := ⟨_, _, _, _, _, _⟩) (v := ?_) rfl (by kernel_rfl) (by kernel_rfl) (by kernel_rfl) (by kernel_rfl) (by kernel_rfl) (fun _ _ _ h => h) (Or.inl ⟨by rfl, ?_⟩) (by assumption) ?_
    rotate_left
    · intro W hSw
      (try dsimp only at hSw)
      go_simp
      (try with_reducible rfl)
    (try simp only [Act.put, List.setIfInBounds_toArray, List.set_cons_zero, List.set_cons_succ])
    refine wpAnyZ_take (i := 5) (oi := ⟨_, _, _, _, _, _⟩) (v := ?_) rfl (by kernel_rfl) (by kernel_rfl) (by kernel_rfl) (by kernel_rfl) (by kernel_rfl) (fun _ _ _ h => h) (Or.inl ⟨by rfl, ?_⟩) (by assumption) ?_
    rotate_left
    · intro W hSw
      (try dsimp only at hSw)
      go_simp
      (try with_reducible rfl)
    (try simp only [Act.put, List.setIfInBounds_toArray, List.set_cons_zero, List.set_cons_succ])
    refine wpAnyZ_ready (rs := [6]) (by kernel_rfl) (by simp) ?_
    refine AllReadyZ.cons (o := ⟨_, _, _, _, _, _⟩) rfl (fun C hC => ?_) AllReadyZ.nil
    go_simp
    obtain ⟨u1, hu1⟩ : ∃ u, u = u0.alloc (.cells #[.int .i64 off, .int .i64 pos, .int .i64 size] 56) := ⟨_, rfl⟩
    obtain ⟨g1, hg1⟩ : ∃ G, G = u0.heap.size := ⟨_, rfl⟩
    have hbb : Below u0.heap.size u0 u1 := by rw [hu1]; exact (Below.refl _ _).alloc (Nat.le_refl _) _
    have HQ1 : Hid (Below w3.heap.size w3 u1) := HQ0.out.trans (hbb.mono HQ0.out.size)
    have HRX : Hid (RowAt baK u1 (some ⟨g1, 0, none⟩) 1 1 [⟨off, pos, pos + size⟩]) := by show RowAt _ _ _ _ _ _; rw [hu1, hg1]; exact rowAt_lit baK_ok u0 [⟨off, pos, pos + size⟩] (by simp) _ (ba_enc off pos size) 1 rfl
    rw [← hu1, ← hg1]
    clear hu1 hg1 hbb
    have hHeld : (fun (V : World) => V.cell? ⟨k, 3, none⟩ = some vb ∧ V.cell? ⟨kb, 0, none⟩ = some (.int .i64 off) ∧ V.cell? ⟨kb, 1, none⟩ = some (.int .i64 pos) ∧ V.cell? ⟨kb, 2, none⟩ = some (.int .i64 size)) u1 := KS.out _ HQ1.out
    refine hC.out _ _ (fun _ => hHeld) (fun _ => ?_)
    clear hC C
    (try simp only [Act.put, List.setIfInBounds_toArray, List.set_cons_zero, List.set_cons_succ])
    have HYU := Lib.hid (HY3.out.on HQ1.out)
    refine wpAnyZ_ready (rs := [7]) (by kernel_rfl) (by simp) ?_
    refine AllReadyZ.cons (o := ⟨_, _, _, _, _, _⟩) rfl (fun C hC => ?_) AllReadyZ.nil
    refine held_row (by rfl) baK_ok (.tmp 37) (.tmp 39) rfl 0 bs [⟨off, pos, pos + size⟩] vb rfl HYU.out.at_.bas (Nat.zero_le _) (some ⟨g1, 0, none⟩) 1 1 rfl HRX.out (by have := HS.out.1; omega) ?_
    rintro v6 u2 hap
    obtain ⟨ad6, cap6, hv6, _, _⟩ := OwnRow.row baK_ok hap.1 (n := bs.length + 1) (by simp)
    subst hv6
    have HY6 := Lib.hid (HYU.out.put_b hap.1 hap.2.1 hap.2.2.2)
    have HKX : Hid (IxBox u2 k base every ve vb) := HYU.out.at_.box.same (hap.2.1.block k HYU.out.at_.box.lt fun e => HYU.out.at_.vb_k e.symm)
    have hbk : u2.heap[kb]? = some (.cells #[.int .i64 off, .int .i64 pos, .int .i64 size] 56 (0, 0)) := (hap.2.1.block kb (Nat.lt_of_lt_of_le (lt_of_block HBX3.out) HQ1.out.size) fun e => HNB.out e.symm).trans ((HQ1.out.block kb (lt_of_block HBX3.out)).trans HBX3.out)
    have hs2 : (fun (V : World) => V.cell? ⟨k, 3, none⟩ = some vb ∧ V.cell? ⟨kb, 0, none⟩ = some (.int .i64 off) ∧ V.cell? ⟨kb, 1, none⟩ = some (.int .i64 pos) ∧ V.cell? ⟨kb, 2, none⟩ = some (.int .i64 size)) u2 := ⟨HKX.out.c3, cell_of_row _ _ 0 _ _ _ hbk, cell_of_row _ _ 1 _ _ _ hbk, cell_of_row _ _ 2 _ _ _ hbk⟩
    clear hap hbk
    have hHeld : (fun (V : World) => V.cell? ⟨k, 3, none⟩ = some vb ∧ V.cell? ⟨kb, 0, none⟩ = some (.int .i64 off) ∧ V.cell? ⟨kb, 1, none⟩ = some (.int .i64 pos) ∧ V.cell? ⟨kb, 2, none⟩ = some (.int .i64 size)) u2 := hs2
    refine hC.out _ _ (fun _ => hHeld) (fun _ => ?_)
    clear hC C
    (try simp only [Act.put, List.setIfInBounds_toArray, List.set_cons_zero, List.set_cons_succ])
    refine wpAnyZ_take (i := 8) (oi := ⟨_, _, _, _, _, _⟩) (v := ?_) rfl (by kernel_rfl) (by kernel_rfl) (by kernel_rfl) (by kernel_rfl) (by kernel_rfl) (fun _ _ _ h => h) (Or.inl ⟨by rfl, ?_⟩) (by assumption) ?_
    rotate_left
    · intro W hSw
      (try dsimp only at hSw)
      go_simp
      (try with_reducible rfl)
    (try simp only [Act.put, List.setIfInBounds_toArray, List.set_cons_zero, List.set_cons_succ])
    refine wpAnyZ_take (i := 9) (oi := ⟨_, _, _, _, _, _⟩) (v := ?_) rfl (by kernel_rfl) (by kernel_rfl) (by kernel_rfl) (by kernel_rfl) (by kernel_rfl) (fun _ _ _ h => h) (Or.inl ⟨by rfl, ?_⟩) (by assumption) ?_
    rotate_left
    · intro W hSw
      (try dsimp only at hSw)
      go_simp
      (try with_reducible rfl)
    (try simp only [Act.put, List.setIfInBounds_toArray, List.set_cons_zero, List.set_cons_succ])
    have p3 := HKX.out.c3
    have f3 := HKX.out.free 3
    refine wpAnyZ_ready (rs := [10]) (by kernel_rfl) (by simp) ?_
    refine AllReadyZ.cons (o := ⟨_, _, _, _, _, _⟩) rfl (fun C hC => ?_) AllReadyZ.nil
    go_simp
    refine hC.out _ _ (zfree_no (by kernel_rfl)) (fun _ => ?_)
    clear hC C
    (try simp only [Act.put, List.setIfInBounds_toArray, List.set_cons_zero, List.set_cons_succ])
    refine wpAnyZ_done (by kernel_rfl) ?_ _
    refine NoPanic.normal ?_
    obtain ⟨wy, hwy⟩ : ∃ z, z = u2.setCell ⟨k, 3, none⟩ (.slice ad6 (bs.length + 1) cap6) := ⟨_, rfl⟩
    rw [← hwy] at HY6
    rw [← hwy]
    clear hwy p3 f3 hHeld KS hs2
    go_wp2_with fail
    go_ret
    exact gives_yes HY6.out HE4.out H0.out HM.out HBAD.out.symm
  · have HE4 : Hid (es ++ [⟨off, pos⟩] = ents every (bs ++ [⟨off, pos, pos + size⟩])) := by show _ = _; rw [ents_snoc_of HES.out, ← HSNT.out]; rfl
    have q2 := HY3.out.at_.box.c2
    have HY4 := Lib.hid (HY3.out.on ((Below.refl _ w3).alloc (Nat.le_refl _) (.cells #[.int .i64 off, .int .i64 pos] 46)))
    have HRX : Hid (RowAt enK (w3.alloc (.cells #[.int .i64 off, .int .i64 pos] 46)) (some ⟨w3.heap.size, 0, none⟩) 1 1 [⟨off, pos⟩]) := rowAt_lit enK_ok w3 [⟨off, pos⟩] (by simp) _ rfl 1 rfl
    go_wp2_with (at_builtin; refine list_row (by rfl) enK_ok (.tmp 25) (.tmp 29) rfl 0 es [⟨off, pos⟩] ve rfl HY4.out.at_.ens (Nat.zero_le _) (some ⟨w3.heap.size, 0, none⟩) 1 1 rfl HRX.out (by have := HNE.out; omega) ?_)
    intro v4 w4 hap
    obtain ⟨ad4, cap4, hv4, _, _⟩ := OwnRow.row enK_ok hap.1 (n := es.length + 1) (by simp)
    subst hv4
    have HY5 := Lib.hid (HY4.out.put_e hap.1 hap.2.1 hap.2.2.2)
    have HBX4 := Lib.hid (show w4.heap[kb]? = some (.cells #[.int .i64 off, .int .i64 pos, .int .i64 size] 56 (0, 0)) by
      have h1 := Below.heap_alloc w3 (.cells #[.int .i64 off, .int .i64 pos] 46) kb (lt_of_block HBX3.out)
      have h2 := HY3.out.at_
      have hlt := lt_of_block HBX3.out
      rw [hap.2.1.block kb (by rw [World.size_alloc]; omega) (fun e => by
        obtain ⟨cur, hc⟩ := own_type h2.ens e.symm
        rw [HBX3.out] at hc
        simp [enK] at hc), h1]
      exact HBX3.out)
    have HKX : Hid (IxBox w4 k base every ve vb) := HY4.out.at_.box.same (hap.2.1.block k HY4.out.at_.box.lt fun e => HY4.out.at_.ve_k e.symm)
    have q2 := HKX.out.c2
    have f2 := HKX.out.free 2
    have HNK : Hid (kb ≠ k) := by show _ ≠ _; intro e; have h1 := HKX.out; unfold IxBox at h1; rw [← e, HBX4.out] at h1; simp at h1
    have HBX5 := Lib.hid (show (w4.setCell ⟨k, 2, none⟩ (.slice ad4 (es.length + 1) cap4)).heap[kb]? = some (.cells #[.int .i64 off, .int .i64 pos, .int .i64 size] 56 (0, 0)) from box_off HBX4.out HNK.out.symm _)
    clear hap HBX4 HRX HY4 HKX HBX3
    go_upto_region 6 with fail
    obtain ⟨w5, hw5⟩ : ∃ z, z = w4.setCell ⟨k, 2, none⟩ (.slice ad4 (es.length + 1) cap4) := ⟨_, rfl⟩
    rw [← hw5] at HY5 HBX5
    rw [← hw5]
    clear hw5 q2 f2
    have hdr : Below w5.heap.size w5 w5.drew := (Below.refl _ w5).drew
    have KS : Hid (∀ V, Below w5.heap.size w5 V → (fun (V : World) => V.cell? ⟨k, 3, none⟩ = some vb ∧ V.cell? ⟨kb, 0, none⟩ = some (.int .i64 off) ∧ V.cell? ⟨kb, 1, none⟩ = some (.int .i64 pos) ∧ V.cell? ⟨kb, 2, none⟩ = some (.int .i64 size)) V) := fun V hV => by
      have hb : V.heap[kb]? = _ := (hV.block kb (lt_of_block HBX5.out)).trans HBX5.out
      exact ⟨(HY5.out.at_.on hV).box.c3, cell_of_row _ _ 0 _ _ _ hb, cell_of_row _ _ 1 _ _ _ hb, cell_of_row _ _ 2 _ _ _ hb⟩
    refine wp_region_noPanic ?_
    refine wp_region_z [10] (fun (V : World) => V.cell? ⟨k, 3, none⟩ = some vb ∧ V.cell? ⟨kb, 0, none⟩ = some (.int .i64 off) ∧ V.cell? ⟨kb, 1, none⟩ = some (.int .i64 pos) ∧ V.cell? ⟨kb, 2, none⟩ = some (.int .i64 size)) (by kernel_rfl) ?_
    have hHeld : (fun (V : World) => V.cell? ⟨k, 3, none⟩ = some vb ∧ V.cell? ⟨kb, 0, none⟩ = some (.int .i64 off) ∧ V.cell? ⟨kb, 1, none⟩ = some (.int .i64 pos) ∧ V.cell? ⟨kb, 2, none⟩ = some (.int .i64 size)) _ := KS.out _ hdr
    obtain ⟨u0, hu0⟩ : ∃ u, u = w5.drew := ⟨_, rfl⟩
    rw [← hu0] at hHeld hdr
    rw [← hu0]
    clear hu0
    have HQ0 := Lib.hid hdr
    clear hdr
    refine wpAnyZ_take (i := 0) (oi := ⟨_, _, _, _, _, _⟩) (v := ?_) rfl (by kernel_rfl) (by kernel_rfl) (by kernel_rfl) (by kernel_rfl) (by kernel_rfl) (fun _ _ _ h => h) (Or.inl ⟨by rfl, ?_⟩) (by assumption) ?_
    rotate_left
    · intro W hSw
      (try dsimp only at hSw)
      go_simp
      (try with_reducible rfl)
    (try simp only [Act.put, List.setIfInBounds_toArray, List.set_cons_zero, List.set_cons_succ])
    refine wpAnyZ_take (i := 1) (oi := ⟨_, _, _, _, _, _⟩) (v := ?_) rfl (by kernel_rfl) (by kernel_rfl) (by kernel_rfl) (by kernel_rfl) (by kernel_rfl) (fun _ _ _ h => h) (Or.inl ⟨by rfl, ?_⟩) (by assumption) ?_
    rotate_left
    · intro W hSw
      (try dsimp only at hSw)
      go_simp
      (try with_reducible rfl)
    (try simp only [Act.put, List.setIfInBounds_toArray, List.set_cons_zero, List.set_cons_succ])
    refine wpAnyZ_take (i := 2) (oi := ⟨_, _, _, _, _, _⟩) (v := ?_) rfl (by kernel_rfl) (by kernel_rfl) (by kernel_rfl) (by kernel_rfl) (by kernel_rfl) (fun _ _ _ h => h) (Or.inl ⟨by rfl, ?_⟩) (by assumption) ?_
    rotate_left
    · intro W hSw
      (try dsimp only at hSw)
      go_simp
      (try with_reducible rfl)
    (try simp only [Act.put, List.setIfInBounds_toArray, List.set_cons_zero, List.set_cons_succ])
    refine wpAnyZ_take (i := 3) (oi := ⟨_, _, _, _, _, _⟩) (v := ?_) rfl (by kernel_rfl) (by kernel_rfl) (by kernel_rfl) (by kernel_rfl) (by kernel_rfl) (fun _ _ _ h => h) (Or.inl ⟨by rfl, ?_⟩) (by assumption) ?_
    rotate_left
    · intro W hSw
      (try dsimp only at hSw)
      go_simp
      (try with_reducible rfl)
    (try simp only [Act.put, List.setIfInBounds_toArray, List.set_cons_zero, List.set_cons_succ])
    refine wpAnyZ_take (i := 4) (oi := ⟨_, _, _, _, _, _⟩) (v := ?_) rfl (by kernel_rfl) (by kernel_rfl) (by kernel_rfl) (by kernel_rfl) (by kernel_rfl) (fun _ _ _ h => h) (Or.inl ⟨by rfl, ?_⟩) (by assumption) ?_
    rotate_left
    · intro W hSw
      (try dsimp only at hSw)
      go_simp
      (try with_reducible rfl)
    (try simp only [Act.put, List.setIfInBounds_toArray, List.set_cons_zero, List.set_cons_succ])
    refine wpAnyZ_take (i := 5) (oi := ⟨_, _, _, _, _, _⟩) (v := ?_) rfl (by kernel_rfl) (by kernel_rfl) (by kernel_rfl) (by kernel_rfl) (by kernel_rfl) (fun _ _ _ h => h) (Or.inl ⟨by rfl, ?_⟩) (by assumption) ?_
    rotate_left
    · intro W hSw
      (try dsimp only at hSw)
      go_simp
      (try with_reducible rfl)
    (try simp only [Act.put, List.setIfInBounds_toArray, List.set_cons_zero, List.set_cons_succ])
    refine wpAnyZ_ready (rs := [6]) (by kernel_rfl) (by simp) ?_
    refine AllReadyZ.cons (o := ⟨_, _, _, _, _, _⟩) rfl (fun C hC => ?_) AllReadyZ.nil
    go_simp
    obtain ⟨u1, hu1⟩ : ∃ u, u = u0.alloc (.cells #[.int .i64 off, .int .i64 pos, .int .i64 size] 56) := ⟨_, rfl⟩
    obtain ⟨g1, hg1⟩ : ∃ G, G = u0.heap.size := ⟨_, rfl⟩
    have hbb : Below u0.heap.size u0 u1 := by rw [hu1]; exact (Below.refl _ _).alloc (Nat.le_refl _) _
    have HQ1 : Hid (Below w5.heap.size w5 u1) := HQ0.out.trans (hbb.mono HQ0.out.size)
    have HRX : Hid (RowAt baK u1 (some ⟨g1, 0, none⟩) 1 1 [⟨off, pos, pos + size⟩]) := by show RowAt _ _ _ _ _ _; rw [hu1, hg1]; exact rowAt_lit baK_ok u0 [⟨off, pos, pos + size⟩] (by simp) _ (ba_enc off pos size) 1 rfl
    rw [← hu1, ← hg1]
    clear hu1 hg1 hbb
    have hHeld : (fun (V : World) => V.cell? ⟨k, 3, none⟩ = some vb ∧ V.cell? ⟨kb, 0, none⟩ = some (.int .i64 off) ∧ V.cell? ⟨kb, 1, none⟩ = some (.int .i64 pos) ∧ V.cell? ⟨kb, 2, none⟩ = some (.int .i64 size)) u1 := KS.out _ HQ1.out
    refine hC.out _ _ (fun _ => hHeld) (fun _ => ?_)
    clear hC C
    (try simp only [Act.put, List.setIfInBounds_toArray, List.set_cons_zero, List.set_cons_succ])
    have HYU := Lib.hid (HY5.out.on HQ1.out)
    refine wpAnyZ_ready (rs := [7]) (by kernel_rfl) (by simp) ?_
    refine AllReadyZ.cons (o := ⟨_, _, _, _, _, _⟩) rfl (fun C hC => ?_) AllReadyZ.nil
    refine held_row (by rfl) baK_ok (.tmp 37) (.tmp 39) rfl 0 bs [⟨off, pos, pos + size⟩] vb rfl HYU.out.at_.bas (Nat.zero_le _) (some ⟨g1, 0, none⟩) 1 1 rfl HRX.out (by have := HS.out.1; omega) ?_
    rintro v6 u2 hap
    obtain ⟨ad6, cap6, hv6, _, _⟩ := OwnRow.row baK_ok hap.1 (n := bs.length + 1) (by simp)
    subst hv6
    have HY6 := Lib.hid (HYU.out.put_b hap.1 hap.2.1 hap.2.2.2)
    have HKX : Hid (IxBox u2 k base every (.slice ad4 (es.length + 1) cap4) vb) := HYU.out.at_.box.same (hap.2.1.block k HYU.out.at_.box.lt fun e => HYU.out.at_.vb_k e.symm)
    have hbk : u2.heap[kb]? = some (.cells #[.int .i64 off, .int .i64 pos, .int .i64 size] 56 (0, 0)) := (hap.2.1.block kb (Nat.lt_of_lt_of_le (lt_of_block HBX5.out) HQ1.out.size) fun e => HNB.out e.symm).trans ((HQ1.out.block kb (lt_of_block HBX5.out)).trans HBX5.out)
    have hs2 : (fun (V : World) => V.cell? ⟨k, 3, none⟩ = some vb ∧ V.cell? ⟨kb, 0, none⟩ = some (.int .i64 off) ∧ V.cell? ⟨kb, 1, none⟩ = some (.int .i64 pos) ∧ V.cell? ⟨kb, 2, none⟩ = some (.int .i64 size)) u2 := ⟨HKX.out.c3, cell_of_row _ _ 0 _ _ _ hbk, cell_of_row _ _ 1 _ _ _ hbk, cell_of_row _ _ 2 _ _ _ hbk⟩
    clear hap hbk
    have hHeld : (fun (V : World) => V.cell? ⟨k, 3, none⟩ = some vb ∧ V.cell? ⟨kb, 0, none⟩ = some (.int .i64 off) ∧ V.cell? ⟨kb, 1, none⟩ = some (.int .i64 pos) ∧ V.cell? ⟨kb, 2, none⟩ = some (.int .i64 size)) u2 := hs2
    refine hC.out _ _ (fun _ => hHeld) (fun _ => ?_)
    clear hC C
    (try simp only [Act.put, List.setIfInBounds_toArray, List.set_cons_zero, List.set_cons_succ])
    refine wpAnyZ_take (i := 8) (oi := ⟨_, _, _, _, _, _⟩) (v := ?_) rfl (by kernel_rfl) (by kernel_rfl) (by kernel_rfl) (by kernel_rfl) (by kernel_rfl) (fun _ _ _ h => h) (Or.inl ⟨by rfl, ?_⟩) (by assumption) ?_
    rotate_left
    · intro W hSw
      (try dsimp only at hSw)
      go_simp
      (try with_reducible rfl)
    (try simp only [Act.put, List.setIfInBounds_toArray, List.set_cons_zero, List.set_cons_succ])
    refine wpAnyZ_take (i := 9) (oi := ⟨_, _, _, _, _, _⟩) (v := ?_) rfl (by kernel_rfl) (by kernel_rfl) (by kernel_rfl) (by kernel_rfl) (by kernel_rfl) (fun _ _ _ h => h) (Or.inl ⟨by rfl, ?_⟩) (by assumption) ?_
    rotate_left
    · intro W hSw
      (try dsimp only at hSw)
      go_simp
      (try with_reducible rfl)
    (try simp only [Act.put, List.setIfInBounds_toArray, List.set_cons_zero, List.set_cons_succ])
    have p3 := HKX.out.c3
    have f3 := HKX.out.free 3
    refine wpAnyZ_ready (rs := [10]) (by kernel_rfl) (by simp) ?_
    refine AllReadyZ.cons (o := ⟨_, _, _, _, _, _⟩) rfl (fun C hC => ?_) AllReadyZ.nil
    go_simp
    refine hC.out _ _ (zfree_no (by kernel_rfl)) (fun _ => ?_)
    clear hC C
    (try simp only [Act.put, List.setIfInBounds_toArray, List.set_cons_zero, List.set_cons_succ])
    refine wpAnyZ_done (by kernel_rfl) ?_ _
    refine NoPanic.normal ?_
    obtain ⟨wy, hwy⟩ : ∃ z, z = u2.setCell ⟨k, 3, none⟩ (.slice ad6 (bs.length + 1) cap6) := ⟨_, rfl⟩
    rw [← hwy] at HY6
    rw [← hwy]
    clear hwy p3 f3 hHeld KS hs2
    go_wp2_with fail
    go_ret
    exact gives_yes HY6.out HE4.out H0.out HM.out HBAD.out.symm
end Go.Proofs.Ytelbignfecjjhaa
