/- The law's plain index: find, add. -/
import Derived.Test.YtelbignfecjjhaaIxMem
import Derived.Deep.CutRange
import Derived.Deep.RegionHeld3
import Derived.Deep.QuietTactic
import Derived.BigQuiet
namespace Go.Proofs.Ytelbignfecjjhaa
open Go.RowKit
open Go.IxMath Go.VarMath
set_option linter.unusedVariables false

theorem below_drewN (w : World) (n : Nat) : Below w.heap.size w (w.drewN n) := ⟨rfl, rfl, rfl, Nat.le_refl _, fun _ _ => rfl⟩
theorem take_snoc {α : Type} {l : List α} {i : Nat} {x : α} (h : l[i]? = some x) : l.take (i + 1) = l.take i ++ [x] := by
  obtain ⟨hi, e⟩ := List.getElem?_eq_some_iff.1 h
  rw [← e, List.take_succ_eq_append_getElem hi]
set_option maxHeartbeats 1600000 in
theorem plFind_any (w : World) (kp : Nat) (ad : Option Addr) (n cap : Nat) (base every : Int) (bs : List Ba) (h : PlAt w kp ad n cap base every bs) (hn : n ≤ 140737488355328) (off : Int) :
    Calls Try.prog 19 #[.pointer (some ⟨kp, 0, none⟩), .int .i64 off] w fun e w' => e = .returned (.int .i64 (findE (ents every bs) off)) ∧ Below w.heap.size w w' := by
  have q4 := h.box.c4
  have HR := Lib.hid h.row
  obtain ⟨l, hl⟩ : ∃ l, l = ents every bs := ⟨_, rfl⟩
  rw [← hl] at HR
  rw [← hl]
  clear hl h
  go_enter Try.func19, Try.ntmps19
  go_wp2_with fail
  go_loopw [5, 13] (fun v5 v13 wr => ∃ (i : Nat) (z : Int), v13 = .int .i64 (i : Int) ∧ i ≤ n ∧ v5 = .int .i64 z ∧ Hid (z = findE (l.take i) off) ∧ Hid (Below w.heap.size w wr)) (fun _ v13 _ => n - (intOf v13).toNat)
  case atStart => exact ⟨0, 0, rfl, by omega, rfl, rfl, Below.refl _ w⟩
  case round =>
    obtain ⟨i, z, rfl, hin, rfl, HZ, HB⟩ := hrel
    obtain ⟨wo, hwo⟩ : ∃ wo : World, wo = wr := ⟨_, rfl⟩
    subst hwo
    by_cases hlt : i < n
    · have hd : decide (i < n) = true := decide_eq_true hlt
      have hij : (i : Int) < (n : Int) := by omega
      obtain ⟨b, o, x, el, hb, hx, c0, c1⟩ := en_get HR.out hlt
      subst el
      have c0 := (HB.out.cell (p := ⟨b, o + i * 2, none⟩) hb).trans c0
      have c1 := (HB.out.cell (p := ⟨b, o + i * 2 + 1, none⟩) hb).trans c1
      have HX := Lib.hid hx
      obtain ⟨xo, hxo⟩ : ∃ z, z = x.off := ⟨_, rfl⟩
      obtain ⟨xp, hxp⟩ : ∃ z, z = x.pos := ⟨_, rfl⟩
      have HF : Hid (findE (l.take (i + 1)) off = if xo ≤ off then xp else z) := by show _ = _; rw [take_snoc HX.out, findE_snoc, hxo, hxp, HZ.out]
      rw [← hxo] at c0
      rw [← hxp] at c1
      clear hxo hxp hx
      by_cases ho : xo ≤ off
      · have hdo : decide (xo ≤ off) = true := decide_eq_true ho
        rw [if_pos ho] at HF
        go_wp2_with fail
        go_roundw
        case rel => exact ⟨i + 1, xp, by go_num, by omega, rfl, HF.out.symm, HB.out.alloc HB.out.size _⟩
        case measure => simp [intOf]; omega
      · have hdo : decide (xo ≤ off) = false := decide_eq_false ho
        rw [if_neg ho] at HF
        go_wp2_with fail
        go_roundw
        case rel => exact ⟨i + 1, z, by go_num, by omega, rfl, HF.out.symm, HB.out.alloc HB.out.size _⟩
        case measure => simp [intOf]; omega
    · have hd : decide (i < n) = false := decide_eq_false hlt
      have HI : Hid (findE l off = z) := by show _ = _; rw [HZ.out, List.take_of_length_le (by rw [HR.out.length]; omega)]
      go_wp2_with fail
      go_ret
      refine ⟨?_, HB.out⟩
      show Ending.returned (.int .i64 z) = _
      rw [HI.out]
theorem last_cell {w : World} {ad : Option Addr} {n cap : Nat} {l : List En} (h : RowAt enK w ad n cap l) (hl : ∀ e ∈ l, 0 ≤ e.pos ∧ e.pos ≤ 4611686018427387904) (every pos : Int) : n = 0 ∨ ∃ (b o : Nat) (x : En), 0 < n ∧ ad = some ⟨b, o, none⟩ ∧ (0 ≤ x.pos ∧ x.pos ≤ 4611686018427387904) ∧ w.cell? ⟨b, o + (n - 1) * 2 + 1, none⟩ = some (.int .i64 x.pos) ∧ (wantE every l pos = decide (every ≤ pos - x.pos)) := by
  rcases Nat.eq_zero_or_pos n with h0 | h0
  · exact .inl h0
  · obtain ⟨b, o, x, e, hb, hx, c0, c1⟩ := en_get h (show n - 1 < n by omega)
    refine .inr ⟨b, o, x, h0, e, hl x (List.mem_of_getElem? hx), c1, ?_⟩
    have hla : l.getLast? = some x := by rw [List.getLast?_eq_getElem?, h.length]; exact hx
    unfold wantE
    rw [hla]
/-- What the law's add gives. -/
def GivesPl (w : World) (kp : Nat) (ad : Option Addr) (base every : Int) (bs bs' : List Ba) (r : Bool) (e : Ending) (w' : World) : Prop :=
  e = .returned (.bool r) ∧ ∃ ad' n' cap', PlAt w' kp ad' n' cap' base every bs' ∧ Kept w w' (fun j => j = kp) ∧ ∀ a, ad' = some a → ad = some a ∨ w.heap.size ≤ a.block
theorem gives_same {w : World} {kp n cap : Nat} {ad : Option Addr} {base every : Int} {bs : List Ba} {off pos size : Int} (h : PlAt w kp ad n cap base every bs) (hb : badA base bs off pos size = true) : GivesPl w kp ad base every bs (addA base bs off pos size) (!badA base bs off pos size) (.returned (.bool false)) w := by
  refine ⟨by rw [hb]; rfl, ad, n, cap, ?_, Kept.refl _ _, fun a ha => .inl ha⟩
  unfold addA
  rw [hb]
  exact h
theorem gives_more {w w' : World} {kp n cap : Nat} {ad ad' : Option Addr} {base every : Int} {bs : List Ba} {off pos size : Int} (hb : badA base bs off pos size = false) (hx : PlBox w' kp base off every (pos + size) (.slice ad' n cap)) (hr : RowAt enK w' ad' n cap (ents every (bs ++ [⟨off, pos, pos + size⟩]))) (hf : ∀ a, ad' = some a → a.block < w'.heap.size ∧ a.block ≠ kp) (hk : Kept w w' (fun j => j = kp)) (ha : ∀ a, ad' = some a → ad = some a ∨ w.heap.size ≤ a.block) :
    GivesPl w kp ad base every bs (addA base bs off pos size) (!badA base bs off pos size) (.returned (.bool true)) w' := by
  refine ⟨by rw [hb]; rfl, ad', n, cap, ?_, hk, ha⟩
  unfold addA
  rw [hb]
  simp only [Bool.false_eq_true, if_false]
  exact ⟨by rw [lastO_snoc, lastF_snoc]; exact hx, hr, hf⟩
set_option maxRecDepth 100000 in
set_option maxHeartbeats 4000000 in
theorem plAdd_any (w : World) (kp : Nat) (ad : Option Addr) (n cap : Nat) (base every : Int) (bs : List Ba) (h : PlAt w kp ad n cap base every bs) (hn : n ≤ 1000000000) (off pos size : Int) (hl : ∀ e ∈ ents every bs, 0 ≤ e.pos ∧ e.pos ≤ 4611686018427387904) (hp : -9223372036854775808 ≤ pos ∧ pos ≤ 4611686018427387903) (hs : -9223372036854775808 ≤ size ∧ size ≤ 4611686018427387903) :
    Calls Try.prog 20 #[.pointer (some ⟨kp, 0, none⟩), .int .i64 off, .int .i64 pos, .int .i64 size] w (GivesPl w kp ad base every bs (addA base bs off pos size) (!badA base bs off pos size)) := by
  obtain ⟨lo, hlo⟩ : ∃ z, z = lastO bs := ⟨_, rfl⟩
  obtain ⟨fi, hfi⟩ : ∃ z, z = lastF bs := ⟨_, rfl⟩
  have hbad : badA base bs off pos size = decide (off < base ∨ off ≤ lo ∨ pos < 0 ∨ pos < fi ∨ size < 1) := by rw [hlo, hfi]; rfl
  have hbox : PlBox w kp base lo every fi (.slice ad n cap) := by rw [hlo, hfi]; exact h.box
  have HP := Lib.hid h
  have HBX := Lib.hid hbox
  have HBAD := Lib.hid hbad
  have HLE := Lib.hid hl
  have q0 := hbox.c0
  have q1 := hbox.c1
  have q2 := hbox.c2
  have q3 := hbox.c3
  have q4 := hbox.c4
  clear hlo hfi hbad hbox h hl
  go_enter Try.func20, Try.ntmps20
  by_cases d1 : off < base
  · have d1d : decide (off < base) = true := decide_eq_true d1
    go_wp2_with fail
    go_ret
    exact gives_same HP.out (by rw [HBAD.out]; exact decide_eq_true (by omega))
  have d1d : decide (off < base) = false := decide_eq_false d1
  by_cases d2 : off ≤ lo
  · have d2d : decide (off ≤ lo) = true := decide_eq_true d2
    go_wp2_with fail
    go_ret
    exact gives_same HP.out (by rw [HBAD.out]; exact decide_eq_true (by omega))
  have d2d : decide (off ≤ lo) = false := decide_eq_false d2
  by_cases d3 : pos < 0
  · have d3d : decide (pos < 0) = true := decide_eq_true d3
    go_wp2_with fail
    go_ret
    exact gives_same HP.out (by rw [HBAD.out]; exact decide_eq_true (by omega))
  have d3d : decide (pos < 0) = false := decide_eq_false d3
  by_cases d4 : pos < fi
  · have d4d : decide (pos < fi) = true := decide_eq_true d4
    go_wp2_with fail
    go_ret
    exact gives_same HP.out (by rw [HBAD.out]; exact decide_eq_true (by omega))
  have d4d : decide (pos < fi) = false := decide_eq_false d4
  by_cases d5 : size < 1
  · have d5d : decide (size < 1) = true := decide_eq_true d5
    go_wp2_with fail
    go_ret
    exact gives_same HP.out (by rw [HBAD.out]; exact decide_eq_true (by omega))
  have d5d : decide (size < 1) = false := decide_eq_false d5
  have HGOOD : Hid (badA base bs off pos size = false) := by show _ = _; rw [HBAD.out]; exact decide_eq_false (by omega)
  have hsum : -9223372036854775808 ≤ pos + size ∧ pos + size ≤ 9223372036854775807 := by omega
  obtain ⟨l, hl⟩ : ∃ l, l = ents every bs := ⟨_, rfl⟩
  have HRL : Hid (RowAt enK w ad n cap l) := by show RowAt _ _ _ _ _ _; rw [hl]; exact HP.out.row
  have HSN : Hid (ents every (bs ++ [⟨off, pos, pos + size⟩]) = stepE every l ⟨off, pos, pos + size⟩) := by show _ = _; rw [ents_snoc, hl]
  rw [← hl] at HLE
  clear hl
  have hz : n = 0 ∨ ∃ (b o : Nat) (x : En), 0 < n ∧ ad = some ⟨b, o, none⟩ ∧ (0 ≤ x.pos ∧ x.pos ≤ 4611686018427387904) ∧ w.cell? ⟨b, o + (n - 1) * 2 + 1, none⟩ = some (.int .i64 x.pos) ∧ (wantE every l pos = decide (every ≤ pos - x.pos)) := last_cell HRL.out HLE.out every pos
  rcases hz with h0 | ⟨b, o, x, h0, el, hx, hc, hwx⟩
  · subst h0
    have hw : wantE every l pos = true := by
      rw [List.eq_nil_of_length_eq_zero HRL.out.length]
      rfl
    have HST : Hid (ents every (bs ++ [⟨off, pos, pos + size⟩]) = l ++ [⟨off, pos⟩]) := by show _ = _; rw [HSN.out]; unfold stepE; exact if_pos hw
    clear hw
    go_upto_region 4 with fail
    go_quiet (fail)
    go_upto_region 5 with fail
    obtain ⟨W0, hW0⟩ : ∃ z, z = w.drewN nq := ⟨_, rfl⟩
    have HB0 : Hid (Below w.heap.size w W0) := by show Below _ _ _; rw [hW0]; exact below_drewN w nq
    rw [← hW0]
    clear hW0 q0 q1 q2 q3 q4
    have HB1 : Hid (Below w.heap.size w (W0.alloc (.cells #[] 46))) := HB0.out.alloc HB0.out.size _
    have HVE : Hid (OwnRow enK (W0.alloc (.cells #[] 46)) w.heap.size (.slice (some ⟨W0.heap.size, 0, none⟩) 0 0) []) := ownRow_lit enK_ok W0 _ [] HB0.out.size (by simp) _ rfl 0 rfl
    have q4 := (HBX.out.same (HB1.out.block kp HBX.out.lt)).c4
    go_wp2_with (at_builtin; refine list_row (by rfl) enK_ok (.tmp 66) (.tmp 70) rfl w.heap.size [] l _ rfl HVE.out HB1.out.size ad 0 cap rfl (HRL.out.keep HB1.out) (by rw [List.length_nil]; omega) ?_)
    intro v1 w1 hap
    have HO1 : Hid (OwnRow enK w1 w.heap.size v1 l) := hap.1
    have HB2 : Hid (Below w.heap.size w w1) := HB1.out.grown hap.2.1 HB1.out.size fun k hk => (HVE.out.lt k hk).1
    clear hap HVE HB1 q4
    have HB3 : Hid (Below w.heap.size w (w1.alloc (.cells #[.int .i64 off, .int .i64 pos] 46))) := HB2.out.alloc HB2.out.size _
    have HRX : Hid (RowAt enK (w1.alloc (.cells #[.int .i64 off, .int .i64 pos] 46)) (some ⟨w1.heap.size, 0, none⟩) 1 1 [⟨off, pos⟩]) := rowAt_lit enK_ok w1 [⟨off, pos⟩] (by simp) _ rfl 1 rfl
    go_wp2_with (at_builtin; refine list_row (by rfl) enK_ok (.tmp 71) (.tmp 75) rfl w.heap.size l [⟨off, pos⟩] _ rfl (HO1.out.alloc _) HB3.out.size (some ⟨w1.heap.size, 0, none⟩) 1 1 rfl HRX.out (by have := HRL.out.length; omega) ?_)
    intro v2 w2 hap
    obtain ⟨ad2, cap2, hv2, hr2, hk2⟩ := OwnRow.row enK_ok hap.1 (n := 1) (by rw [List.length_append, HRL.out.length]; rfl)
    subst hv2
    have HB4 : Hid (Below w.heap.size w w2) := HB3.out.grown hap.2.1 HB3.out.size fun k hk => (HO1.out.lt k hk).1
    have HR2 := Lib.hid hr2
    have HK2 := Lib.hid hk2
    clear hap hr2 hk2 HO1 HB2 HB3 HRX
    have HX2 := Lib.hid (HBX.out.same (HB4.out.block kp HBX.out.lt))
    have q4 := HX2.out.c4
    have f4 := HX2.out.free 4
    have HX3 := Lib.hid (HX2.out.s4 (.slice ad2 1 cap2))
    have q1 := HX3.out.c1
    have f1 := HX3.out.free 1
    have HX4 := Lib.hid (HX3.out.s1 off)
    have q3 := HX4.out.c3
    have f3 := HX4.out.free 3
    have HX5 := Lib.hid (HX4.out.s3 (pos + size))
    go_wp2_with fail
    go_ret
    refine gives_more HGOOD.out HX5.out ?_ (fun a ha => ?_) ?_ (fun a ha => .inr (HK2.out a ha).1)
    · rw [HST.out]
      exact ((HR2.out.off (fun a ha e => by have := (HK2.out a ha).1; have := HBX.out.lt; omega) _ _).off (fun a ha e => by have := (HK2.out a ha).1; have := HBX.out.lt; omega) _ _).off (fun a ha e => by have := (HK2.out a ha).1; have := HBX.out.lt; omega) _ _
    · have := HK2.out a ha
      have := HBX.out.lt
      exact ⟨by simp only [size_set]; omega, by omega⟩
    · exact (((Kept.of_below HB4.out).trans (Kept.of_grown (F := fun j => j = kp) (grow_one _ kp 4 _) (.inl rfl)) fun i hi => .inl hi).trans (Kept.of_grown (F := fun j => j = kp) (grow_one _ kp 1 _) (.inl rfl)) fun i hi => .inl hi).trans (Kept.of_grown (F := fun j => j = kp) (grow_one _ kp 3 _) (.inl rfl)) fun i hi => .inl hi
  · obtain ⟨xp, hxp⟩ : ∃ z, z = x.pos := ⟨_, rfl⟩
    rw [← hxp] at hx hc hwx
    clear hxp
    have hn0 : ((n : Int) == 0) = false := by simp; omega
    have hn1 : (1 : Int) ≤ (n : Int) := by omega
    have hn2 : (n : Int) - 1 < (n : Int) := by omega
    have hn3 : ((n : Int) - 1).toNat = n - 1 := by omega
    have hn4 : IntKind.i64.wrap ((n : Int) - 1) = (n : Int) - 1 := by rw [IntKind.wrap_i64]; omega
    have hw4 : IntKind.i64.wrap (pos - xp) = pos - xp := by rw [IntKind.wrap_i64]; omega
    have HEL := Lib.hid el
    subst el
    by_cases hge : every ≤ pos - xp
    · have hdg : decide (every ≤ pos - xp) = true := decide_eq_true hge
      have HST : Hid (ents every (bs ++ [⟨off, pos, pos + size⟩]) = l ++ [⟨off, pos⟩]) := by show _ = _; rw [HSN.out]; unfold stepE; exact if_pos (by rw [hwx]; exact hdg)
      clear hwx
      go_upto_region 4 with fail
      go_quiet (fail)
      go_upto_region 5 with fail
      obtain ⟨W0, hW0⟩ : ∃ z, z = w.drewN nq := ⟨_, rfl⟩
      have HB0 : Hid (Below w.heap.size w W0) := by show Below _ _ _; rw [hW0]; exact below_drewN w nq
      rw [← hW0]
      clear hW0 q0 q1 q2 q3 q4
      have HB1 : Hid (Below w.heap.size w (W0.alloc (.cells #[] 46))) := HB0.out.alloc HB0.out.size _
      have HVE : Hid (OwnRow enK (W0.alloc (.cells #[] 46)) w.heap.size (.slice (some ⟨W0.heap.size, 0, none⟩) 0 0) []) := ownRow_lit enK_ok W0 _ [] HB0.out.size (by simp) _ rfl 0 rfl
      have q4 := (HBX.out.same (HB1.out.block kp HBX.out.lt)).c4
      go_wp2_with (at_builtin; refine list_row (by rfl) enK_ok (.tmp 66) (.tmp 70) rfl w.heap.size [] l _ rfl HVE.out HB1.out.size (some ⟨b, o, none⟩) n cap rfl (HRL.out.keep HB1.out) (by rw [List.length_nil]; omega) ?_)
      intro v1 w1 hap
      have HO1 : Hid (OwnRow enK w1 w.heap.size v1 l) := hap.1
      have HB2 : Hid (Below w.heap.size w w1) := HB1.out.grown hap.2.1 HB1.out.size fun k hk => (HVE.out.lt k hk).1
      clear hap HVE HB1 q4
      have HB3 : Hid (Below w.heap.size w (w1.alloc (.cells #[.int .i64 off, .int .i64 pos] 46))) := HB2.out.alloc HB2.out.size _
      have HRX : Hid (RowAt enK (w1.alloc (.cells #[.int .i64 off, .int .i64 pos] 46)) (some ⟨w1.heap.size, 0, none⟩) 1 1 [⟨off, pos⟩]) := rowAt_lit enK_ok w1 [⟨off, pos⟩] (by simp) _ rfl 1 rfl
      go_wp2_with (at_builtin; refine list_row (by rfl) enK_ok (.tmp 71) (.tmp 75) rfl w.heap.size l [⟨off, pos⟩] _ rfl (HO1.out.alloc _) HB3.out.size (some ⟨w1.heap.size, 0, none⟩) 1 1 rfl HRX.out (by have := HRL.out.length; omega) ?_)
      intro v2 w2 hap
      obtain ⟨ad2, cap2, hv2, hr2, hk2⟩ := OwnRow.row enK_ok hap.1 (n := (n + 1)) (by rw [List.length_append, HRL.out.length]; rfl)
      subst hv2
      have HB4 : Hid (Below w.heap.size w w2) := HB3.out.grown hap.2.1 HB3.out.size fun k hk => (HO1.out.lt k hk).1
      have HR2 := Lib.hid hr2
      have HK2 := Lib.hid hk2
      clear hap hr2 hk2 HO1 HB2 HB3 HRX
      have HX2 := Lib.hid (HBX.out.same (HB4.out.block kp HBX.out.lt))
      have q4 := HX2.out.c4
      have f4 := HX2.out.free 4
      have HX3 := Lib.hid (HX2.out.s4 (.slice ad2 (n + 1) cap2))
      have q1 := HX3.out.c1
      have f1 := HX3.out.free 1
      have HX4 := Lib.hid (HX3.out.s1 off)
      have q3 := HX4.out.c3
      have f3 := HX4.out.free 3
      have HX5 := Lib.hid (HX4.out.s3 (pos + size))
      go_wp2_with fail
      go_ret
      refine gives_more HGOOD.out HX5.out ?_ (fun a ha => ?_) ?_ (fun a ha => .inr (HK2.out a ha).1)
      · rw [HST.out]
        exact ((HR2.out.off (fun a ha e => by have := (HK2.out a ha).1; have := HBX.out.lt; omega) _ _).off (fun a ha e => by have := (HK2.out a ha).1; have := HBX.out.lt; omega) _ _).off (fun a ha e => by have := (HK2.out a ha).1; have := HBX.out.lt; omega) _ _
      · have := HK2.out a ha
        have := HBX.out.lt
        exact ⟨by simp only [size_set]; omega, by omega⟩
      · exact (((Kept.of_below HB4.out).trans (Kept.of_grown (F := fun j => j = kp) (grow_one _ kp 4 _) (.inl rfl)) fun i hi => .inl hi).trans (Kept.of_grown (F := fun j => j = kp) (grow_one _ kp 1 _) (.inl rfl)) fun i hi => .inl hi).trans (Kept.of_grown (F := fun j => j = kp) (grow_one _ kp 3 _) (.inl rfl)) fun i hi => .inl hi
    · have hdg : decide (every ≤ pos - xp) = false := decide_eq_false hge
      have HST : Hid (ents every (bs ++ [⟨off, pos, pos + size⟩]) = l) := by show _ = _; rw [HSN.out]; unfold stepE; exact if_neg (by rw [hwx, hdg]; decide)
      clear hwx
      go_upto_region 4 with fail
      go_quiet (fail)
      go_upto_region 6 with fail
      obtain ⟨W0, hW0⟩ : ∃ z, z = w.drewN nq := ⟨_, rfl⟩
      have HB0 : Hid (Below w.heap.size w W0) := by show Below _ _ _; rw [hW0]; exact below_drewN w nq
      rw [← hW0]
      clear hW0 q0 q1 q2 q3 q4
      have HX1 := Lib.hid (HBX.out.same (HB0.out.block kp HBX.out.lt))
      have q1 := HX1.out.c1
      have f1 := HX1.out.free 1
      have HX4 := Lib.hid (HX1.out.s1 off)
      have q3 := HX4.out.c3
      have f3 := HX4.out.free 3
      have HX5 := Lib.hid (HX4.out.s3 (pos + size))
      go_wp2_with fail
      go_ret
      refine gives_more HGOOD.out HX5.out ?_ (fun a ha => ?_) ?_ (fun a ha => .inl ha)
      · rw [HST.out]
        exact ((HRL.out.keep HB0.out).off (fun a ha => (HP.out.far a ha).2) _ _).off (fun a ha => (HP.out.far a ha).2) _ _
      · have := HP.out.far a ha
        have := HB0.out.size
        exact ⟨by simp only [size_set]; omega, by omega⟩
      · exact ((Kept.of_below HB0.out).trans (Kept.of_grown (F := fun j => j = kp) (grow_one _ kp 1 _) (.inl rfl)) fun i hi => .inl hi).trans (Kept.of_grown (F := fun j => j = kp) (grow_one _ kp 3 _) (.inl rfl)) fun i hi => .inl hi
end Go.Proofs.Ytelbignfecjjhaa
