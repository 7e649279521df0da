/- The law's same: an index, and the law's own plain one. -/
import Derived.Test.YtelbignfecjjhaaIxCode
import Derived.Test.YtelbignfecjjhaaRegionZ
import Derived.Deep.CutRange
import Derived.Deep.QuietTactic
import Derived.BigQuiet
namespace Go.Proofs.Ytelbignfecjjhaa
open Go.RowKit
open Go.IxMath
open Go.VarMath hiding AllB
set_option linter.unusedVariables false

/-- The bytes so far. -/
def SmAt (w wr : World) (v : Value) (base : Int) (l : List En) (i : Nat) : Prop :=
  Below w.heap.size w wr ∧ ∃ bad bcap, v = .slice bad (16 * i) bcap ∧ Row wr bad (16 * i) bcap (bytesE base (l.take i))
set_option maxRecDepth 100000 in
set_option maxHeartbeats 8000000 in
theorem ixSame_any (w : World) (k : Nat) (F : Nat → Prop) (base every : Int) (bs : List Ba) (h : IxOk w k F base every bs) (hs : Small bs) (kp : Nat) (ad : Option Addr) (n cap : Nat) (bs2 : List Ba) (hp : PlAt w kp ad n cap base every bs2) (he : ents every bs = ents every bs2) :
    Calls Try.prog 21 #[.pointer (some ⟨k, 0, none⟩), .pointer (some ⟨kp, 0, none⟩)] w fun e w' => e = .returned (.bool true) ∧ Below w.heap.size w w' := by
  obtain ⟨l, hl⟩ : ∃ l, l = ents every bs := ⟨_, rfl⟩
  have hn : l.length = n := by rw [hl, he]; exact hp.row.length
  have hn1 : n ≤ 1000 := by have := ents_len every bs; have := hs.1; rw [← hn, hl]; omega
  have hall : ∀ e ∈ l, (-9223372036854775808 ≤ e.off - base ∧ e.off - base ≤ 9223372036854775807) ∧ -9223372036854775808 ≤ e.pos ∧ e.pos ≤ 9223372036854775807 := fun e hm => by
    rw [hl] at hm
    obtain ⟨b, hb, rfl⟩ := ents_mem h.made e hm
    have h1 := made_all h.made b hb
    have h2 := hs.2 b hb
    have h3 := h.base0
    exact ⟨⟨by show _ ≤ b.off - base; omega, by show b.off - base ≤ _; omega⟩, by show _ ≤ b.pos; omega, by show b.pos ≤ _; omega⟩
  have H := Lib.hid h
  have HS := Lib.hid hs
  have HL := Lib.hid hl
  have HN := Lib.hid hn
  have HA := Lib.hid hall
  have HP := Lib.hid hp
  have HPL : Hid (RowAt enK w ad n cap l) := by show RowAt _ _ _ _ _ _; rw [hl, he]; exact hp.row
  clear h hs hl hn hall hp he
  go_enter Try.func21, Try.ntmps21
  go_wp2_with fail
  refine (ixEntries_any H.out HS.out n (by rw [← HL.out]; exact HN.out)).mono ?_
  rintro e w5 ⟨ad5, cap5, rfl, HR5, HB5⟩
  rw [← HL.out] at HR5
  have q4 := (HP.out.on HB5.out).box.c4
  go_wp2_with fail
  have HSM : Hid (SmAt w w5 (.slice none 0 0) base l 0) := ⟨HB5.out, none, 0, rfl, ⟨⟨rfl, Nat.le_refl _, fun x hx => (by cases hx), .inl rfl⟩, fun _ => rfl⟩⟩
  go_loopw [6, 20] (fun v6 v20 wr => ∃ i : Nat, v20 = .int .i64 (i : Int) ∧ i ≤ n ∧ Hid (Below w5.heap.size w5 wr) ∧ Hid (SmAt w wr v6 base l i)) (fun _ v20 _ => n - (intOf v20).toNat)
  case atStart => exact ⟨0, rfl, by omega, Below.refl _ w5, HSM.out⟩
  case round =>
    obtain ⟨i, rfl, hin, HBW, HSI⟩ := hrel
    obtain ⟨wo, hwo⟩ : ∃ wo : World, wo = wr := ⟨_, rfl⟩
    subst hwo
    clear HSM q4
    by_cases hlt : i < n
    · have hd : decide (i < n) = true := decide_eq_true hlt
      have hij : (i : Int) < (n : Int) := by omega
      obtain ⟨b5, o5, x, el5, hb5, hx, c50, c51⟩ := en_get HR5.out hlt
      obtain ⟨bp, op, x2, elp, hbp, hx2, cp0, cp1⟩ := en_get HPL.out hlt
      have hxe : x2 = x := Option.some.inj (hx2.symm.trans hx)
      subst hxe
      have HX := Lib.hid hx
      have HV := Lib.hid (HA.out x2 (List.mem_of_getElem? hx))
      obtain ⟨bad, bcap, hv, hrow⟩ := HSI.out.2
      have HRB := Lib.hid hrow
      have HBB := Lib.hid HSI.out.1
      subst el5 elp hv
      obtain ⟨xo, hxo⟩ : ∃ z, z = x2.off := ⟨_, rfl⟩
      obtain ⟨xp, hxp⟩ : ∃ z, z = x2.pos := ⟨_, rfl⟩
      rw [← hxo] at c50 cp0
      rw [← hxp] at c51 cp1
      have HT : Hid (bytesE base (l.take (i + 1)) = (bytesE base (l.take i) ++ longB (xo - base)) ++ longB xp) := by show _ = _; rw [take_snoc HX.out, bytesE_snoc, hxo, hxp, List.append_assoc]
      have HXB : Hid ((-9223372036854775808 ≤ xo - base ∧ xo - base ≤ 9223372036854775807) ∧ -9223372036854775808 ≤ xp ∧ xp ≤ 9223372036854775807) := by show _ ∧ _; rw [hxo, hxp]; exact HV.out
      have hsub : IntKind.i64.wrap (xo - base) = xo - base := by rw [IntKind.wrap_i64]; have := HXB.out.1; omega
      have hp0 := HP.out.box.lt
      have HC : Hid (∀ V, Below w.heap.size w V → Below w5.heap.size w5 V → (V.cell? ⟨b5, o5 + i * 2, none⟩ = some (.int .i64 xo) ∧ V.cell? ⟨b5, o5 + i * 2 + 1, none⟩ = some (.int .i64 xp)) ∧ (V.cell? ⟨bp, op + i * 2, none⟩ = some (.int .i64 xo) ∧ V.cell? ⟨bp, op + i * 2 + 1, none⟩ = some (.int .i64 xp)) ∧ V.cell? ⟨kp, 0, none⟩ = some (.int .i64 base) ∧ V.cell? ⟨kp, 4, none⟩ = some (.slice (some ⟨bp, op, none⟩) n cap)) := fun V h1 h2 =>
        ⟨⟨(h2.cell (p := ⟨b5, _, none⟩) hb5).trans c50, (h2.cell (p := ⟨b5, _, none⟩) hb5).trans c51⟩, ⟨(h1.cell (p := ⟨bp, _, none⟩) hbp).trans cp0, (h1.cell (p := ⟨bp, _, none⟩) hbp).trans cp1⟩, (h1.cell (p := ⟨kp, 0, none⟩) hp0).trans HP.out.box.c0, (h1.cell (p := ⟨kp, 4, none⟩) hp0).trans HP.out.box.c4⟩
      clear hx hx2 hxo hxp hrow c50 c51 cp0 cp1 hb5 hbp hp0 HSI HV
      obtain ⟨⟨c50, c51⟩, ⟨cp0, cp1⟩, q0, q4⟩ := HC.out wo HBB.out HBW.out
      go_upto_region 8 with fail
      go_quiet (fail)
      clear c50 c51 cp0 cp1 q0 q4
      go_upto_region 10 with fail
      obtain ⟨W0, hW0⟩ : ∃ z, z = wo.drewN nq := ⟨_, rfl⟩
      have hb0 : Below wo.heap.size wo W0 := by rw [hW0]; exact below_drewN wo nq
      rw [← hW0]
      have hdr : Below W0.heap.size W0 W0.drew := (Below.refl _ W0).drew
      have HQ0 : Hid (Below wo.heap.size wo W0.drew) := hb0.trans (hdr.mono hb0.size)
      clear hW0
      have KS : Hid (∀ V, Below wo.heap.size wo V → (fun (V : World) => (V.cell? ⟨b5, o5 + i * 2, none⟩ = some (.int .i64 xo) ∧ V.cell? ⟨b5, o5 + i * 2 + 1, none⟩ = some (.int .i64 xp)) ∧ V.cell? ⟨kp, 0, none⟩ = some (.int .i64 base)) V) := fun V hV => by
        have h := HC.out V (HBB.out.trans (hV.mono HBB.out.size)) (HBW.out.trans (hV.mono HBW.out.size))
        exact ⟨h.1, h.2.2.1⟩
      refine wp_region_noPanic ?_
      refine wp_region_z [] (fun (V : World) => (V.cell? ⟨b5, o5 + i * 2, none⟩ = some (.int .i64 xo) ∧ V.cell? ⟨b5, o5 + i * 2 + 1, none⟩ = some (.int .i64 xp)) ∧ V.cell? ⟨kp, 0, none⟩ = some (.int .i64 base)) (by kernel_rfl) ?_
      have hHeld : (fun (V : World) => (V.cell? ⟨b5, o5 + i * 2, none⟩ = some (.int .i64 xo) ∧ V.cell? ⟨b5, o5 + i * 2 + 1, none⟩ = some (.int .i64 xp)) ∧ V.cell? ⟨kp, 0, none⟩ = some (.int .i64 base)) _ := KS.out _ HQ0.out
      obtain ⟨u0, hu0⟩ : ∃ u, u = W0.drew := ⟨_, rfl⟩
      rw [← hu0] at hHeld HQ0
      rw [← hu0]
      clear hu0 hdr hb0
      refine wpAnyZ_take (i := 0) (oi := ⟨_, _, _, _, _, _⟩) (v := ?_) rfl (by kernel_rfl) (by kernel_rfl) (by kernel_rfl) (by kernel_rfl) (by kernel_rfl) (fun _ _ _ h => h) (Or.inl ⟨by rfl, ?_⟩) (by assumption) ?_
      rotate_left
      · intro W hSw
        (try dsimp only at hSw)
        go_simp
        (try with_reducible rfl)
      (try simp only [Act.put, List.setIfInBounds_toArray, List.set_cons_zero, List.set_cons_succ])
      refine wpAnyZ_take (i := 1) (oi := ⟨_, _, _, _, _, _⟩) (v := ?_) rfl (by kernel_rfl) (by kernel_rfl) (by kernel_rfl) (by kernel_rfl) (by kernel_rfl) (fun _ _ _ h => h) (Or.inl ⟨by rfl, ?_⟩) (by assumption) ?_
      rotate_left
      · intro W hSw
        (try dsimp only at hSw)
        go_simp
        (try with_reducible rfl)
      (try simp only [Act.put, List.setIfInBounds_toArray, List.set_cons_zero, List.set_cons_succ])
      refine wpAnyZ_take (i := 2) (oi := ⟨_, _, _, _, _, _⟩) (v := ?_) rfl (by kernel_rfl) (by kernel_rfl) (by kernel_rfl) (by kernel_rfl) (by kernel_rfl) (fun _ _ _ h => h) (Or.inl ⟨by rfl, ?_⟩) (by assumption) ?_
      rotate_left
      · intro W hSw
        (try dsimp only at hSw)
        go_simp
        (try with_reducible rfl)
      (try simp only [Act.put, List.setIfInBounds_toArray, List.set_cons_zero, List.set_cons_succ])
      refine wpAnyZ_take (i := 3) (oi := ⟨_, _, _, _, _, _⟩) (v := ?_) rfl (by kernel_rfl) (by kernel_rfl) (by kernel_rfl) (by kernel_rfl) (by kernel_rfl) (fun _ _ _ h => h) (Or.inl ⟨by rfl, ?_⟩) (by assumption) ?_
      rotate_left
      · intro W hSw
        (try dsimp only at hSw)
        go_simp
        (try with_reducible rfl)
      (try simp only [Act.put, List.setIfInBounds_toArray, List.set_cons_zero, List.set_cons_succ])
      refine wpAnyZ_take (i := 4) (oi := ⟨_, _, _, _, _, _⟩) (v := ?_) rfl (by kernel_rfl) (by kernel_rfl) (by kernel_rfl) (by kernel_rfl) (by kernel_rfl) (fun _ _ _ h => h) (Or.inl ⟨by rfl, ?_⟩) (by assumption) ?_
      rotate_left
      · intro W hSw
        (try dsimp only at hSw)
        go_simp
        (try with_reducible rfl)
      (try simp only [Act.put, List.setIfInBounds_toArray, List.set_cons_zero, List.set_cons_succ])
      refine wpAnyZ_take (i := 5) (oi := ⟨_, _, _, _, _, _⟩) (v := ?_) rfl (by kernel_rfl) (by kernel_rfl) (by kernel_rfl) (by kernel_rfl) (by kernel_rfl) (fun _ _ _ h => h) (Or.inl ⟨by rfl, ?_⟩) (by assumption) ?_
      rotate_left
      · intro W hSw
        (try dsimp only at hSw)
        go_simp
        (try with_reducible rfl)
      (try simp only [Act.put, List.setIfInBounds_toArray, List.set_cons_zero, List.set_cons_succ])
      refine wpAnyZ_take (i := 6) (oi := ⟨_, _, _, _, _, _⟩) (v := ?_) rfl (by kernel_rfl) (by kernel_rfl) (by kernel_rfl) (by kernel_rfl) (by kernel_rfl) (fun _ _ _ h => h) (Or.inl ⟨by rfl, ?_⟩) (by assumption) ?_
      rotate_left
      · intro W hSw
        (try dsimp only at hSw)
        go_simp
        (try with_reducible rfl)
      (try simp only [Act.put, List.setIfInBounds_toArray, List.set_cons_zero, List.set_cons_succ])
      refine wpAnyZ_take (i := 7) (oi := ⟨_, _, _, _, _, _⟩) (v := ?_) rfl (by kernel_rfl) (by kernel_rfl) (by kernel_rfl) (by kernel_rfl) (by kernel_rfl) (fun _ _ _ h => h) (Or.inl ⟨by rfl, ?_⟩) (by assumption) ?_
      rotate_left
      · intro W hSw
        (try dsimp only at hSw)
        go_simp
        (try with_reducible rfl)
      (try simp only [Act.put, List.setIfInBounds_toArray, List.set_cons_zero, List.set_cons_succ])
      refine wpAnyZ_take (i := 8) (oi := ⟨_, _, _, _, _, _⟩) (v := ?_) rfl (by kernel_rfl) (by kernel_rfl) (by kernel_rfl) (by kernel_rfl) (by kernel_rfl) (fun _ _ _ h => h) (Or.inl ⟨by rfl, ?_⟩) (by assumption) ?_
      rotate_left
      · intro W hSw
        (try dsimp only at hSw)
        go_simp
        (try with_reducible rfl)
      (try simp only [Act.put, List.setIfInBounds_toArray, List.set_cons_zero, List.set_cons_succ])
      refine wpAnyZ_take (i := 9) (oi := ⟨_, _, _, _, _, _⟩) (v := ?_) rfl (by kernel_rfl) (by kernel_rfl) (by kernel_rfl) (by kernel_rfl) (by kernel_rfl) (fun _ _ _ h => h) (Or.inl ⟨by rfl, ?_⟩) (by assumption) ?_
      rotate_left
      · intro W hSw
        (try dsimp only at hSw)
        go_simp
        (try with_reducible rfl)
      (try simp only [Act.put, List.setIfInBounds_toArray, List.set_cons_zero, List.set_cons_succ])
      refine wpAnyZ_take (i := 10) (oi := ⟨_, _, _, _, _, _⟩) (v := ?_) rfl (by kernel_rfl) (by kernel_rfl) (by kernel_rfl) (by kernel_rfl) (by kernel_rfl) (fun _ _ _ h => h) (Or.inl ⟨by rfl, ?_⟩) (by assumption) ?_
      rotate_left
      · intro W hSw
        (try dsimp only at hSw)
        go_simp
        (try with_reducible rfl)
      (try simp only [Act.put, List.setIfInBounds_toArray, List.set_cons_zero, List.set_cons_succ])
      refine wpAnyZ_take (i := 12) (oi := ⟨_, _, _, _, _, _⟩) (v := ?_) rfl (by kernel_rfl) (by kernel_rfl) (by kernel_rfl) (by kernel_rfl) (by kernel_rfl) (fun _ _ _ h => h) (Or.inl ⟨by rfl, ?_⟩) (by assumption) ?_
      rotate_left
      · intro W hSw
        (try dsimp only at hSw)
        go_simp
        (try with_reducible rfl)
      (try simp only [Act.put, List.setIfInBounds_toArray, List.set_cons_zero, List.set_cons_succ])
      refine wpAnyZ_take (i := 13) (oi := ⟨_, _, _, _, _, _⟩) (v := ?_) rfl (by kernel_rfl) (by kernel_rfl) (by kernel_rfl) (by kernel_rfl) (by kernel_rfl) (fun _ _ _ h => h) (Or.inl ⟨by rfl, ?_⟩) (by assumption) ?_
      rotate_left
      · intro W hSw
        (try dsimp only at hSw)
        go_simp
        (try with_reducible rfl)
      (try simp only [Act.put, List.setIfInBounds_toArray, List.set_cons_zero, List.set_cons_succ])
      refine wpAnyZ_take (i := 14) (oi := ⟨_, _, _, _, _, _⟩) (v := ?_) rfl (by kernel_rfl) (by kernel_rfl) (by kernel_rfl) (by kernel_rfl) (by kernel_rfl) (fun _ _ _ h => h) (Or.inl ⟨by rfl, ?_⟩) (by assumption) ?_
      rotate_left
      · intro W hSw
        (try dsimp only at hSw)
        go_simp
        (try with_reducible rfl)
      (try simp only [Act.put, List.setIfInBounds_toArray, List.set_cons_zero, List.set_cons_succ])
      refine wpAnyZ_take (i := 15) (oi := ⟨_, _, _, _, _, _⟩) (v := ?_) rfl (by kernel_rfl) (by kernel_rfl) (by kernel_rfl) (by kernel_rfl) (by kernel_rfl) (fun _ _ _ h => h) (Or.inl ⟨by rfl, ?_⟩) (by assumption) ?_
      rotate_left
      · intro W hSw
        (try dsimp only at hSw)
        go_simp
        (try with_reducible rfl)
      (try simp only [Act.put, List.setIfInBounds_toArray, List.set_cons_zero, List.set_cons_succ])
      refine wpAnyZ_take (i := 16) (oi := ⟨_, _, _, _, _, _⟩) (v := ?_) rfl (by kernel_rfl) (by kernel_rfl) (by kernel_rfl) (by kernel_rfl) (by kernel_rfl) (fun _ _ _ h => h) (Or.inl ⟨by rfl, ?_⟩) (by assumption) ?_
      rotate_left
      · intro W hSw
        (try dsimp only at hSw)
        go_simp
        (try with_reducible rfl)
      (try simp only [Act.put, List.setIfInBounds_toArray, List.set_cons_zero, List.set_cons_succ])
      refine wpAnyZ_ready (rs := [11]) (by kernel_rfl) (by simp) ?_
      refine AllReadyZ.cons (o := ⟨_, _, _, _, _, _⟩) rfl (fun C hC => ?_) AllReadyZ.nil
      go_simp
      refine (refLong_any u0 bad (16 * i) bcap _ (xo - base) (HRB.out.keep HQ0.out (Nat.le_refl _)) (by omega) HXB.out.1.1 HXB.out.1.2).mono ?_
      rintro e u1 ⟨g1, cp1, rfl, ho1, hb1⟩
      have HQ1 : Hid (Below wo.heap.size wo u1) := HQ0.out.trans (hb1.mono HQ0.out.size)
      have HR1 := Lib.hid (owns_row ho1 (all_append HRB.out.all (longB_all _)))
      obtain ⟨m1, hm1⟩ : ∃ m, m = (bytesE base (l.take i) ++ longB (xo - base)).length := ⟨_, rfl⟩
      rw [← hm1] at HR1
      rw [← hm1]
      have HM1 : Hid (m1 = 16 * i + 8) := by show _ = _; rw [hm1, List.length_append, HRB.out.len, length_longB]
      clear ho1 hb1 hm1
      have hHeld : (fun (V : World) => (V.cell? ⟨b5, o5 + i * 2, none⟩ = some (.int .i64 xo) ∧ V.cell? ⟨b5, o5 + i * 2 + 1, none⟩ = some (.int .i64 xp)) ∧ V.cell? ⟨kp, 0, none⟩ = some (.int .i64 base)) u1 := KS.out _ HQ1.out
      refine hC.out _ _ (fun _ => hHeld) (fun _ => ?_)
      clear hC C
      (try simp only [Act.put, List.setIfInBounds_toArray, List.set_cons_zero, List.set_cons_succ])
      refine wpAnyZ_ready (rs := [17]) (by kernel_rfl) (by simp) ?_
      refine AllReadyZ.cons (o := ⟨_, _, _, _, _, _⟩) rfl (fun C hC => ?_) AllReadyZ.nil
      go_simp
      refine (refLong_any u1 (some ⟨g1, 0, none⟩) m1 cp1 _ xp HR1.out (by have := HM1.out; omega) HXB.out.2.1 HXB.out.2.2).mono ?_
      rintro e u2 ⟨g2, cp2, rfl, ho2, hb2⟩
      have HQ2 : Hid (Below wo.heap.size wo u2) := HQ1.out.trans (hb2.mono HQ1.out.size)
      have HR2 := Lib.hid (owns_row ho2 (all_append HR1.out.all (longB_all _)))
      obtain ⟨m2, hm2⟩ : ∃ m, m = ((bytesE base (l.take i) ++ longB (xo - base)) ++ longB xp).length := ⟨_, rfl⟩
      rw [← hm2] at HR2
      rw [← hm2]
      have HM2 : Hid (m2 = 16 * (i + 1)) := by show _ = _; rw [hm2, List.length_append, HR1.out.len, length_longB, HM1.out]; omega
      clear ho2 hb2 hm2
      have hHeld : (fun (V : World) => (V.cell? ⟨b5, o5 + i * 2, none⟩ = some (.int .i64 xo) ∧ V.cell? ⟨b5, o5 + i * 2 + 1, none⟩ = some (.int .i64 xp)) ∧ V.cell? ⟨kp, 0, none⟩ = some (.int .i64 base)) u2 := KS.out _ HQ2.out
      refine hC.out _ _ (fun _ => hHeld) (fun _ => ?_)
      clear hC C
      (try simp only [Act.put, List.setIfInBounds_toArray, List.set_cons_zero, List.set_cons_succ])
      refine wpAnyZ_take (i := 18) (oi := ⟨_, _, _, _, _, _⟩) (v := ?_) rfl (by kernel_rfl) (by kernel_rfl) (by kernel_rfl) (by kernel_rfl) (by kernel_rfl) (fun _ _ _ h => h) (Or.inl ⟨by rfl, ?_⟩) (by assumption) ?_
      rotate_left
      · intro W hSw
        (try dsimp only at hSw)
        go_simp
        (try with_reducible rfl)
      (try simp only [Act.put, List.setIfInBounds_toArray, List.set_cons_zero, List.set_cons_succ])
      refine wpAnyZ_done (by kernel_rfl) ?_ _
      refine NoPanic.normal ?_
      clear hHeld
      go_wp2_with fail
      go_roundw
      case rel => exact ⟨i + 1, by go_num, by omega, HBW.out.trans (HQ2.out.mono HBW.out.size), HBB.out.trans (HQ2.out.mono HBB.out.size), _, _, by rw [HM2.out], by rw [HT.out, ← HM2.out]; exact HR2.out⟩
      case measure => simp [intOf]; omega
    · have hd : decide (i < n) = false := decide_eq_false hlt
      obtain ⟨bad, bcap, hv, hrow⟩ := HSI.out.2
      have hi : i = n := by omega
      rw [hi] at hrow hv
      have HRB : Hid (Row wo bad (16 * n) bcap (bytesE base l)) := by
        show Row _ _ _ _ _
        rw [List.take_of_length_le (by rw [HN.out]; exact Nat.le_refl _)] at hrow
        exact hrow
      have HBB := Lib.hid HSI.out.1
      subst hv
      clear hi hrow HSI
      go_upto_region 12 with fail
      obtain ⟨B, hB⟩ : ∃ B, B = str (bytesE base l) := ⟨_, rfl⟩
      have KS : Hid (∀ V, Below wo.heap.size wo V → (fun (V : World) => (convert 29 9 (.slice bad (16 * n) bcap)).run Try.prog V = .ok (.string B) V) V) := fun V hV => run_str_at (HRB.out.keep hV (Nat.le_refl _)).1 hB
      have HQ0 : Hid (Below wo.heap.size wo wo.drew) := (Below.refl _ wo).drew
      refine wp_region_noPanic ?_
      refine wp_region_z [] (fun (V : World) => (convert 29 9 (.slice bad (16 * n) bcap)).run Try.prog V = .ok (.string B) V) (by kernel_rfl) ?_
      have hHeld : (fun (V : World) => (convert 29 9 (.slice bad (16 * n) bcap)).run Try.prog V = .ok (.string B) V) _ := KS.out _ HQ0.out
      obtain ⟨u0, hu0⟩ : ∃ u, u = wo.drew := ⟨_, rfl⟩
      rw [← hu0] at hHeld HQ0
      rw [← hu0]
      clear hu0
      refine wpAnyZ_take (i := 0) (oi := ⟨_, _, _, _, _, _⟩) (v := ?_) rfl (by kernel_rfl) (by kernel_rfl) (by kernel_rfl) (by kernel_rfl) (by kernel_rfl) (fun _ _ _ h => h) (Or.inl ⟨by rfl, ?_⟩) (by assumption) ?_
      rotate_left
      · intro W hSw
        (try dsimp only at hSw)
        go_simp
        (try with_reducible rfl)
      (try simp only [Act.put, List.setIfInBounds_toArray, List.set_cons_zero, List.set_cons_succ])
      refine wpAnyZ_take (i := 3) (oi := ⟨_, _, _, _, _, _⟩) (v := ?_) rfl (by kernel_rfl) (by kernel_rfl) (by kernel_rfl) (by kernel_rfl) (by kernel_rfl) (fun _ _ _ h => h) (Or.inl ⟨by rfl, ?_⟩) (by assumption) ?_
      rotate_left
      · intro W hSw
        (try dsimp only at hSw)
        go_simp
        (try with_reducible rfl)
      (try simp only [Act.put, List.setIfInBounds_toArray, List.set_cons_zero, List.set_cons_succ])
      refine wpAnyZ_take (i := 4) (oi := ⟨_, _, _, _, _, _⟩) (v := ?_) rfl (by kernel_rfl) (by kernel_rfl) (by kernel_rfl) (by kernel_rfl) (by kernel_rfl) (fun _ _ _ h => h) (Or.inl ⟨by rfl, ?_⟩) (by assumption) ?_
      rotate_left
      · intro W hSw
        (try dsimp only at hSw)
        go_simp
        (try with_reducible rfl)
      (try simp only [Act.put, List.setIfInBounds_toArray, List.set_cons_zero, List.set_cons_succ])
      refine wpAnyZ_ready (rs := [1]) (by kernel_rfl) (by simp) ?_
      refine AllReadyZ.cons (o := ⟨_, _, _, _, _, _⟩) rfl (fun C hC => ?_) AllReadyZ.nil
      go_simp
      refine (ixBytes_any (H.out.on (HBB.out.trans (HQ0.out.mono HBB.out.size))) HS.out (16 * n) (by rw [← HL.out, HN.out])).mono ?_
      rintro e u1 ⟨ad1, cap1, rfl, HR1, HB1⟩
      rw [← HL.out] at HR1
      have HQ1 : Hid (Below wo.heap.size wo u1) := HQ0.out.trans (HB1.out.mono HQ0.out.size)
      have hHeld : (fun (V : World) => (convert 29 9 (.slice bad (16 * n) bcap)).run Try.prog V = .ok (.string B) V) u1 := KS.out _ HQ1.out
      refine hC.out _ _ (fun _ => hHeld) (fun _ => ?_)
      clear hC C
      (try simp only [Act.put, List.setIfInBounds_toArray, List.set_cons_zero, List.set_cons_succ])
      have hc1 : (convert 29 9 (.slice ad1 (16 * n) cap1)).run Try.prog u1 = .ok (.string B) u1 := run_str_at HR1.out.1 hB
      refine wpAnyZ_ready (rs := [2]) (by kernel_rfl) (by simp) ?_
      refine AllReadyZ.cons (o := ⟨_, _, _, _, _, _⟩) rfl (fun C hC => ?_) AllReadyZ.nil
      go_simp
      have hHeld : (fun (V : World) => (convert 29 9 (.slice bad (16 * n) bcap)).run Try.prog V = .ok (.string B) V) u1 := KS.out _ HQ1.out
      refine hC.out _ _ (fun _ => hHeld) (fun _ => ?_)
      clear hC C
      (try simp only [Act.put, List.setIfInBounds_toArray, List.set_cons_zero, List.set_cons_succ])
      refine wpAnyZ_take (i := 5) (oi := ⟨_, _, _, _, _, _⟩) (v := ?_) rfl (by kernel_rfl) (by kernel_rfl) (by kernel_rfl) (by kernel_rfl) (by kernel_rfl) (fun _ _ _ h => h) (Or.inl ⟨by rfl, ?_⟩) (by assumption) ?_
      rotate_left
      · intro W hSw
        (try dsimp only at hSw)
        go_simp
        (try with_reducible rfl)
      (try simp only [Act.put, List.setIfInBounds_toArray, List.set_cons_zero, List.set_cons_succ])
      refine wpAnyZ_take (i := 6) (oi := ⟨_, _, _, _, _, _⟩) (v := ?_) rfl (by kernel_rfl) (by kernel_rfl) (by kernel_rfl) (by kernel_rfl) (by kernel_rfl) (fun _ _ _ h => h) (Or.inl ⟨by rfl, ?_⟩) (by assumption) ?_
      rotate_left
      · intro W hSw
        (try dsimp only at hSw)
        go_simp
        (try with_reducible rfl)
      (try simp only [Act.put, List.setIfInBounds_toArray, List.set_cons_zero, List.set_cons_succ])
      refine wpAnyZ_done (by kernel_rfl) ?_ _
      refine NoPanic.normal ?_
      clear hHeld
      go_wp2_with fail
      go_ret
      exact ⟨rfl, HBB.out.trans (HQ1.out.mono HBB.out.size)⟩
end Go.Proofs.Ytelbignfecjjhaa
