/- The code's Find, Entries, Bytes. -/
import Derived.Test.YtelbignfecjjhaaIxCodeM
import Derived.Test.YtelbignfecjjhaaRegionZ
import Derived.Test.YtelbignfecjjhaaVarLong
import Derived.Test.YtelbignfecjjhaaWithin
import Derived.Test.YtelbignfecjjhaaKindBytes
namespace Go.Proofs.Ytelbignfecjjhaa
open Go.RowKit
open Go.IxMath
open Go.VarMath hiding AllB
set_option linter.unusedVariables false

theorem rise_lt {every : Int} {l : List En} (h : Rise every l) : ∀ (d i : Nat) (a b : En), l[i]? = some a → l[i + d + 1]? = some b → a.off < b.off
  | 0, i, a, b, ha, hb => (h i a b ha hb).1
  | d + 1, i, a, b, ha, hb => by
    have hlt := (List.getElem?_eq_some_iff.1 hb).1
    have hc : l[i + d + 1]? = some (l[i + d + 1]'(by omega)) := List.getElem?_eq_getElem (by omega)
    have h1 := rise_lt h d i a _ ha hc
    have h2 := (h (i + d + 1) _ b hc hb).1
    omega
/-- What a binary search keeps. -/
structure Bin (l : List En) (off : Int) (lo hi : Nat) : Prop where
  le : lo ≤ hi
  fits : hi ≤ l.length
  low : ∀ (j : Nat) (e : En), j < lo → l[j]? = some e → e.off ≤ off
  high : ∀ (j : Nat) (e : En), hi ≤ j → l[j]? = some e → off < e.off
theorem Bin.up {every : Int} {l : List En} {off : Int} {lo hi m : Nat} {x : En} (h : Bin l off lo hi) (hr : Rise every l) (hm : l[m]? = some x) (h1 : lo ≤ m) (h2 : m < hi) (hx : x.off ≤ off) : Bin l off (m + 1) hi :=
  ⟨by omega, h.fits, fun j e hj he => by
    rcases Nat.lt_or_ge j m with h3 | h3
    · have := rise_lt hr (m - j - 1) j e x he (by rw [show j + (m - j - 1) + 1 = m by omega]; exact hm)
      omega
    · obtain rfl : j = m := by omega
      rw [hm] at he
      cases he
      exact hx, h.high⟩
theorem Bin.down {every : Int} {l : List En} {off : Int} {lo hi m : Nat} {x : En} (h : Bin l off lo hi) (hr : Rise every l) (hm : l[m]? = some x) (h1 : lo ≤ m) (h2 : m < hi) (hx : off < x.off) : Bin l off lo m :=
  ⟨h1, by have := h.fits; omega, h.low, fun j e hj he => by
    rcases Nat.lt_or_ge m j with h3 | h3
    · have := rise_lt hr (j - m - 1) m x e hm (by rw [show m + (j - m - 1) + 1 = j by omega]; exact he)
      omega
    · obtain rfl : j = m := by omega
      rw [hm] at he
      cases he
      exact hx⟩
theorem ret_find {l : List En} {off z : Int} (h : findE l off = z) : Ending.returned (.int .i64 z) = .returned (.int .i64 (findE l off)) := by rw [h]
set_option maxRecDepth 100000 in
set_option maxHeartbeats 4000000 in
theorem ixFind_any {w : World} {k : Nat} {F : Nat → Prop} {base every : Int} {bs : List Ba} (h : IxOk w k F base every bs) (hs : Small bs) (off : Int) (ho : I64 off) : Calls Try.prog 14 #[.pointer (some ⟨k, 0, none⟩), .int .i64 off] w fun e w' => e = .returned (.int .i64 (findE (ents every bs) off)) ∧ Hid (Below w.heap.size w w') := by
  obtain ⟨h0, hm, ve, vb, hat, hf⟩ := h
  have HRI : Hid (Rise every (ents every bs)) := rise_ents hm
  have hne : (ents every bs).length ≤ 1000 := by have := ents_len every bs; have := hs.1; omega
  obtain ⟨es, hes⟩ : ∃ l, l = ents every bs := ⟨_, rfl⟩
  rw [← hes] at hat HRI hne
  rw [← hes]
  obtain ⟨ad, cap, hv, hr⟩ := hat.eat
  obtain ⟨n, hn⟩ : ∃ n, n = es.length := ⟨_, rfl⟩
  have HN := Lib.hid hn
  rw [← hn] at hv hr hne
  subst hv
  have HX := Lib.hid hat.box
  have HR := Lib.hid hr
  have q2 := HX.out.c2
  clear h0 hm hat hf hes hr hn hs
  go_enter Try.func14, Try.ntmps14
  go_upto_region 1 with fail
  go_quiet (fail)
  obtain ⟨W0, hW0⟩ : ∃ z, z = w.drewN nq := ⟨_, rfl⟩
  have HB0 : Hid (Below w.heap.size w W0) := by show Below _ _ _; rw [hW0]; exact below_drewN w nq
  rw [← hW0]
  clear hW0 q2
  have HX0 := Lib.hid (HX.out.same (HB0.out.block k HX.out.lt))
  have HR0 := Lib.hid (HR.out.keep HB0.out)
  have q2 := HX0.out.c2
  have HBI : Hid (Bin es off 0 n) := ⟨Nat.zero_le _, by rw [HN.out]; exact Nat.le_refl _, fun j e hj => by omega, fun j e hj he => by have := (List.getElem?_eq_some_iff.1 he).1; have := HN.out; omega⟩
  clear HX HR
  go_wp2_with fail
  go_loopw [5, 6, 7] (fun v5 v6 v7 wr => wr = W0 ∧ ∃ lo hi : Nat, v5 = .int .i64 (lo : Int) ∧ v6 = .int .i64 (hi : Int) ∧ lo ≤ hi ∧ hi ≤ n ∧ Hid (Bin es off lo hi)) (fun v5 v6 _ _ => (intOf v6).toNat - (intOf v5).toNat)
  case atStart => exact ⟨rfl, 0, n, rfl, rfl, Nat.zero_le _, Nat.le_refl _, HBI.out⟩
  case round =>
    obtain ⟨rfl, lo, hi, rfl, rfl, hle, hfit, HB⟩ := hrel
    clear HBI
    by_cases hlt : lo < hi
    · have hd : decide (lo < hi) = true := decide_eq_true hlt
      obtain ⟨s, hs⟩ : ∃ s, s = hi - lo := ⟨_, rfl⟩
      obtain ⟨d, hdd⟩ : ∃ d, d = s / 2 := ⟨_, rfl⟩
      obtain ⟨m, hm⟩ : ∃ m, m = lo + d := ⟨_, rfl⟩
      have h1 : lo ≤ m := by omega
      have h2 : m < hi := by omega
      have hs1 : IntKind.i64.wrap ((hi : Int) - (lo : Int)) = (s : Int) := by rw [IntKind.wrap_i64]; omega
      have hq : (s : Int).tdiv 2 = (d : Int) := by rw [hdd]; exact (Int.ofNat_tdiv _ _).symm
      have hs2 : IntKind.i64.wrap (d : Int) = (d : Int) := by rw [IntKind.wrap_i64]; omega
      have hs3 : IntKind.i64.wrap ((lo : Int) + (d : Int)) = (m : Int) := by rw [IntKind.wrap_i64]; omega
      have HDS := Lib.hid hs
      have HDD := Lib.hid hdd
      clear hs hdd
      obtain ⟨b, o, x, el, hb, hx, c0, c1⟩ := en_get HR0.out (show m < n by omega)
      subst el
      have HX1 := Lib.hid hx
      have hmn : (m : Int) < (n : Int) := by omega
      have HM := Lib.hid hm
      clear hm hx
      obtain ⟨xo, hxo⟩ : ∃ z, z = x.off := ⟨_, rfl⟩
      rw [← hxo] at c0
      have HXO := Lib.hid hxo
      clear hxo
      by_cases ho' : xo ≤ off
      · have hdo : decide (xo ≤ off) = true := decide_eq_true ho'
        have HBU : Hid (Bin es off (m + 1) hi) := HB.out.up HRI.out HX1.out h1 h2 (by rw [← HXO.out]; exact ho')
        go_wp2_with fail
        go_roundw
        case rel => exact ⟨trivial, m + 1, hi, by go_num, rfl, by omega, hfit, HBU.out⟩
        case measure => simp [intOf]; omega
      · have hdo : decide (xo ≤ off) = false := decide_eq_false ho'
        have HBU : Hid (Bin es off lo m) := HB.out.down HRI.out HX1.out h1 h2 (by rw [← HXO.out]; omega)
        go_wp2_with fail
        go_roundw
        case rel => exact ⟨trivial, lo, m, rfl, rfl, by omega, by omega, HBU.out⟩
        case measure => simp [intOf]; omega
    · have hd : decide (lo < hi) = false := decide_eq_false hlt
      obtain rfl : hi = lo := by omega
      have hfa := find_at (l := es) (off := off) (k := hi) (by rw [← HN.out]; exact hfit) HB.out.low HB.out.high
      rcases Nat.eq_zero_or_pos hi with h0 | h0
      · subst h0
        have HF := Lib.hid (hfa.1 rfl)
        clear hfa
        go_wp2_with fail
        go_ret
        exact ⟨ret_find HF.out, HB0.out⟩
      · have hd0 : ((hi : Int) == 0) = false := by simp; omega
        have hn2 : (1 : Int) ≤ (hi : Int) := by omega
        have hn5 : (hi : Int) - 1 < (n : Int) := by omega
        have hn3 : ((hi : Int) - 1).toNat = hi - 1 := by omega
        have hn4 : IntKind.i64.wrap ((hi : Int) - 1) = (hi : Int) - 1 := by rw [IntKind.wrap_i64]; omega
        obtain ⟨b, o, x, el, hb, hx, c0, c1⟩ := en_get HR0.out (show hi - 1 < n by omega)
        subst el
        have HF := Lib.hid (hfa.2 x h0 hx)
        obtain ⟨xp, hxp⟩ : ∃ z, z = x.pos := ⟨_, rfl⟩
        rw [← hxp] at c1 HF
        clear hfa hxp hx
        go_wp2_with fail
        go_ret
        exact ⟨ret_find HF.out, HB0.out⟩
theorem ixEntries_any {w : World} {k : Nat} {F : Nat → Prop} {base every : Int} {bs : List Ba} (h : IxOk w k F base every bs) (hs : Small bs) (n : Nat) (hn : (ents every bs).length = n) : Calls Try.prog 15 #[.pointer (some ⟨k, 0, none⟩)] w fun e w' => ∃ ad cap, e = .returned (.slice ad n cap) ∧ Hid (RowAt enK w' ad n cap (ents every bs)) ∧ Hid (Below w.heap.size w w') := by
  obtain ⟨h0, hm, ve, vb, hat, hf⟩ := h
  have hne : (ents every bs).length ≤ 1000 := by have := ents_len every bs; have := hs.1; omega
  obtain ⟨es, hes⟩ : ∃ l, l = ents every bs := ⟨_, rfl⟩
  rw [← hes] at hat hne hn
  rw [← hes]
  obtain ⟨ad, cap, hv, hr⟩ := hat.eat
  have HN := Lib.hid hn
  rw [hn] at hv hr hne
  subst hv
  have q2 := hat.box.c2
  have HR := Lib.hid hr
  clear h0 hm hat hf hes hr hn hs
  go_enter Try.func15, Try.ntmps15
  go_wp2_with (at_builtin; refine list_row (by rfl) enK_ok (.const (.slice none 0 0)) (.tmp 6) rfl w.heap.size [] es (.slice none 0 0) rfl (ownRow_nil enK w w.heap.size) (Nat.le_refl _) ad n cap rfl HR.out (by rw [List.length_nil]; omega) ?_)
  intro v1 w1 hap
  obtain ⟨ad1, cap1, hv1, hr1, _⟩ := OwnRow.row enK_ok hap.1 (n := n) HN.out
  subst hv1
  have HR1 : Hid (RowAt enK w1 ad1 n cap1 es) := hr1
  have HB1 : Hid (Below w.heap.size w w1) := (Below.refl _ w).grown hap.2.1 (Nat.le_refl _) fun q hq => by cases hq
  clear hap hr1
  go_wp2_with fail
  go_ret
  exact ⟨ad1, cap1, rfl, HR1.out, HB1.out⟩
/-- The bytes so far. -/
structure By8 (w wr : World) (base : Int) (v : Value) (l : List En) (i : Nat) : Prop where
  below : Below w.heap.size w wr
  own : OwnRow byteK wr w.heap.size v (bytesE base (l.take i))
theorem own_room (W : World) (c b : Nat) (hb : b ≤ W.heap.size) (hc : c ≤ 1000000) : OwnRow byteK (W.alloc (.cells (vals (List.replicate c 0)).toArray 5)) b (.slice (some ⟨W.heap.size, 0, none⟩) 0 c) [] :=
  ⟨rfl, .inr ⟨W.heap.size, c, _, rfl, hb, heap_alloc_new W _, Nat.zero_le _, by unfold maxLen; omega, by simp [vals, byteK], by simp [Kind.all]⟩⟩
set_option maxRecDepth 100000 in
set_option maxHeartbeats 8000000 in
theorem ixBytes_any {w : World} {k : Nat} {F : Nat → Prop} {base every : Int} {bs : List Ba} (h : IxOk w k F base every bs) (hs : Small bs) (n : Nat) (hn : 16 * (ents every bs).length = n) : Calls Try.prog 11 #[.pointer (some ⟨k, 0, none⟩)] w fun e w' => ∃ ad cap, e = .returned (.slice ad n cap) ∧ Hid (Row w' ad n cap (bytesE base (ents every bs))) ∧ Hid (Below w.heap.size w w') := by
  obtain ⟨h0, hm, ve, vb, hat, hf⟩ := h
  have hne : (ents every bs).length ≤ 1000 := by have := ents_len every bs; have := hs.1; omega
  have HALL : Hid (∀ e ∈ ents every bs, (-9223372036854775808 ≤ e.off - base ∧ e.off - base ≤ 9223372036854775807) ∧ -9223372036854775808 ≤ e.pos ∧ e.pos ≤ 9223372036854775807) := fun e he => by
    obtain ⟨b, hb, rfl⟩ := ents_mem hm e he
    have h1 := made_all hm b hb
    have h2 := hs.2 b hb
    exact ⟨⟨by show _ ≤ b.off - base; omega, by show b.off - base ≤ _; omega⟩, by show _ ≤ b.pos; omega, by show b.pos ≤ _; omega⟩
  obtain ⟨es, hes⟩ : ∃ l, l = ents every bs := ⟨_, rfl⟩
  rw [← hes] at hat hne hn HALL
  rw [← hes]
  obtain ⟨ad, cap, hv, hr⟩ := hat.eat
  obtain ⟨m, hm'⟩ : ∃ m, m = es.length := ⟨_, rfl⟩
  rw [← hm'] at hv hr hne hn
  have HNN := Lib.hid hn
  clear hn
  subst hv
  have HM := Lib.hid hm'
  have HX := Lib.hid hat.box
  have HR := Lib.hid hr
  have q2 := HX.out.c2
  have hmk : ∀ W, (Instr.makeSlice 29 (.int .i64 0) (.int .i64 (16 * (m : Int)))).run Try.prog W = .ok (.slice (some ⟨W.heap.size, 0, none⟩) 0 (16 * m)) (W.alloc (.cells (vals (List.replicate (16 * m) 0)).toArray 5)) := fun W => by
    have := run_make_part W 0 (16 * m) (by omega) (by omega)
    have e : ((16 * m : Nat) : Int) = 16 * (m : Int) := by omega
    rw [e] at this
    exact this
  have HOW := Lib.hid (own_room w (16 * m) w.heap.size (Nat.le_refl _) (by omega))
  have HBW : Hid (Below w.heap.size w (w.alloc (.cells (vals (List.replicate (16 * m) 0)).toArray 5))) := (Below.refl _ w).alloc (Nat.le_refl _) _
  have hw0 : IntKind.i64.wrap (16 * (m : Int)) = 16 * (m : Int) := by rw [IntKind.wrap_i64]; omega
  clear h0 hm hat hf hes hr hm' hs
  go_enter Try.func11, Try.ntmps11
  go_upto_region 2 with fail
  obtain ⟨w1, hw1⟩ : ∃ z, z = w.alloc (.cells (vals (List.replicate (16 * m) 0)).toArray 5) := ⟨_, rfl⟩
  obtain ⟨g, hg⟩ : ∃ z, z = w.heap.size := ⟨_, rfl⟩
  rw [← hw1] at HOW HBW
  have HOW1 : Hid (OwnRow byteK w1 w.heap.size (.slice (some ⟨g, 0, none⟩) 0 (16 * m)) []) := by show OwnRow _ _ _ _ _; rw [hg]; exact HOW.out
  rw [← hw1, ← hg]
  clear hw1 hg hmk hw0 q2 HOW
  have HX1 := Lib.hid (HX.out.same (HBW.out.block k HX.out.lt))
  have q2 := HX1.out.c2
  have HBY0 : Hid (By8 w w1 base (.slice (some ⟨g, 0, none⟩) 0 (16 * m)) es 0) := ⟨HBW.out, HOW1.out⟩
  go_wp2_with fail
  go_loopw [3, 18] (fun v3 v18 wr => ∃ i : Nat, v18 = .int .i64 (i : Int) ∧ i ≤ m ∧ Hid (By8 w wr base v3 es i)) (fun _ v18 _ => m - (intOf v18).toNat)
  case atStart => exact ⟨0, rfl, Nat.zero_le _, HBY0.out⟩
  case round =>
    obtain ⟨i, rfl, him, HBI⟩ := hrel
    obtain ⟨wo, hwo⟩ : ∃ wo : World, wo = wr := ⟨_, rfl⟩
    subst hwo
    clear HBY0 HOW1 q2 HX1
    by_cases hlt : i < m
    · have hd : decide (i < m) = true := decide_eq_true hlt
      have hij : (i : Int) < (m : Int) := by omega
      obtain ⟨b, o, x, el, hb, hx, c0, c1⟩ := en_get HR.out hlt
      subst el
      obtain ⟨ad3, cap3, hv3, _, _⟩ := OwnRow.row byteK_ok HBI.out.own (n := 16 * i) (by rw [bytesE_len, List.length_take, ← HM.out]; omega)
      subst hv3
      have HV := Lib.hid (HALL.out x (List.mem_of_getElem? hx))
      obtain ⟨xo, hxo⟩ : ∃ z, z = x.off := ⟨_, rfl⟩
      obtain ⟨xp, hxp⟩ : ∃ z, z = x.pos := ⟨_, rfl⟩
      rw [← hxo, ← hxp] at HV
      rw [← hxo] at c0
      rw [← hxp] at c1
      have HT : Hid (bytesE base (es.take (i + 1)) = (bytesE base (es.take i) ++ longB (xo - base)) ++ longB xp) := by show _ = _; rw [take_snoc hx, bytesE_snoc, hxo, hxp, List.append_assoc]
      have hsub : IntKind.i64.wrap (xo - base) = xo - base := by rw [IntKind.wrap_i64]; have := HV.out.1; omega
      have c0 := (HBI.out.below.cell (p := ⟨b, o + i * 2, none⟩) hb).trans c0
      have c1 := (HBI.out.below.cell (p := ⟨b, o + i * 2 + 1, none⟩) hb).trans c1
      clear hx hxo hxp
      go_upto_region 5 with fail
      obtain ⟨w4, hw4⟩ : ∃ z, z = wo.alloc (.cells #[.int .i64 xo, .int .i64 xp] 46) := ⟨_, rfl⟩
      obtain ⟨ke, hke⟩ : ∃ z, z = wo.heap.size := ⟨_, rfl⟩
      have HB4 : Hid (Below wo.heap.size wo w4) := by show Below _ _ _; rw [hw4]; exact (Below.refl _ wo).alloc (Nat.le_refl _) _
      have HE4 := Lib.hid (show w4.heap[ke]? = some (.cells #[.int .i64 xo, .int .i64 xp] 46 (0, 0)) by rw [hw4, hke]; exact heap_alloc_new wo _)
      have HKE : Hid (w.heap.size ≤ ke) := by show _ ≤ _; rw [hke]; exact HBI.out.below.size
      rw [← hw4, ← hke]
      clear hw4 hke c0 c1
      have HB4W : Hid (Below w.heap.size w w4) := HBI.out.below.trans (HB4.out.mono HBI.out.below.size)
      have HO4 : Hid (OwnRow byteK w4 w.heap.size (.slice ad3 (16 * i) cap3) (bytesE base (es.take i))) := HBI.out.own.on HB4.out
      have HLT : Hid (ke < w4.heap.size) := lt_of_block HE4.out
      have hdr : Below w4.heap.size w4 w4.drew := (Below.refl _ w4).drew
      have KS : Hid (∀ V, Below w4.heap.size w4 V → (fun (V : World) => V.cell? ⟨k, 0, none⟩ = some (.int .i64 base) ∧ V.cell? ⟨ke, 0, none⟩ = some (.int .i64 xo) ∧ V.cell? ⟨ke, 1, none⟩ = some (.int .i64 xp)) V) := fun V hV => by
        have hb : V.heap[ke]? = _ := (hV.block ke HLT.out).trans HE4.out
        have hX := (HX.out.same (HB4W.out.block k HX.out.lt))
        exact ⟨(hX.same (hV.block k hX.lt)).c0, cell_of_row _ _ 0 _ _ _ hb, cell_of_row _ _ 1 _ _ _ hb⟩
      refine wp_region_noPanic ?_
      refine wp_region_z [] (fun (V : World) => V.cell? ⟨k, 0, none⟩ = some (.int .i64 base) ∧ V.cell? ⟨ke, 0, none⟩ = some (.int .i64 xo) ∧ V.cell? ⟨ke, 1, none⟩ = some (.int .i64 xp)) (by kernel_rfl) ?_
      have hHeld : (fun (V : World) => V.cell? ⟨k, 0, none⟩ = some (.int .i64 base) ∧ V.cell? ⟨ke, 0, none⟩ = some (.int .i64 xo) ∧ V.cell? ⟨ke, 1, none⟩ = some (.int .i64 xp)) _ := KS.out _ hdr
      obtain ⟨u0, hu0⟩ : ∃ u, u = w4.drew := ⟨_, rfl⟩
      rw [← hu0] at hHeld hdr
      rw [← hu0]
      clear hu0
      have HQ0 := Lib.hid hdr
      clear hdr
      refine wpAnyZ_take (i := 0) (oi := ⟨_, _, _, _, _, _⟩) (v := ?_) rfl (by kernel_rfl) (by kernel_rfl) (by kernel_rfl) (by kernel_rfl) (by kernel_rfl) (fun _ _ _ h => h) (Or.inl ⟨by rfl, ?_⟩) (by assumption) ?_
      rotate_left
      · intro W hSw
        (try dsimp only at hSw)
        go_simp
        (try with_reducible rfl)
      (try simp only [Act.put, List.setIfInBounds_toArray, List.set_cons_zero, List.set_cons_succ])
      refine wpAnyZ_take (i := 1) (oi := ⟨_, _, _, _, _, _⟩) (v := ?_) rfl (by kernel_rfl) (by kernel_rfl) (by kernel_rfl) (by kernel_rfl) (by kernel_rfl) (fun _ _ _ h => h) (Or.inl ⟨by rfl, ?_⟩) (by assumption) ?_
      rotate_left
      · intro W hSw
        (try dsimp only at hSw)
        go_simp
        (try with_reducible rfl)
      (try simp only [Act.put, List.setIfInBounds_toArray, List.set_cons_zero, List.set_cons_succ])
      refine wpAnyZ_take (i := 2) (oi := ⟨_, _, _, _, _, _⟩) (v := ?_) rfl (by kernel_rfl) (by kernel_rfl) (by kernel_rfl) (by kernel_rfl) (by kernel_rfl) (fun _ _ _ h => h) (Or.inl ⟨by rfl, ?_⟩) (by assumption) ?_
      rotate_left
      · intro W hSw
        (try dsimp only at hSw)
        go_simp
        (try with_reducible rfl)
      (try simp only [Act.put, List.setIfInBounds_toArray, List.set_cons_zero, List.set_cons_succ])
      refine wpAnyZ_take (i := 3) (oi := ⟨_, _, _, _, _, _⟩) (v := ?_) rfl (by kernel_rfl) (by kernel_rfl) (by kernel_rfl) (by kernel_rfl) (by kernel_rfl) (fun _ _ _ h => h) (Or.inl ⟨by rfl, ?_⟩) (by assumption) ?_
      rotate_left
      · intro W hSw
        (try dsimp only at hSw)
        go_simp
        (try with_reducible rfl)
      (try simp only [Act.put, List.setIfInBounds_toArray, List.set_cons_zero, List.set_cons_succ])
      refine wpAnyZ_take (i := 4) (oi := ⟨_, _, _, _, _, _⟩) (v := ?_) rfl (by kernel_rfl) (by kernel_rfl) (by kernel_rfl) (by kernel_rfl) (by kernel_rfl) (fun _ _ _ h => h) (Or.inl ⟨by rfl, ?_⟩) (by assumption) ?_
      rotate_left
      · intro W hSw
        (try dsimp only at hSw)
        go_simp
        (try with_reducible rfl)
      (try simp only [Act.put, List.setIfInBounds_toArray, List.set_cons_zero, List.set_cons_succ])
      refine wpAnyZ_take (i := 5) (oi := ⟨_, _, _, _, _, _⟩) (v := ?_) rfl (by kernel_rfl) (by kernel_rfl) (by kernel_rfl) (by kernel_rfl) (by kernel_rfl) (fun _ _ _ h => h) (Or.inl ⟨by rfl, ?_⟩) (by assumption) ?_
      rotate_left
      · intro W hSw
        (try dsimp only at hSw)
        go_simp
        (try with_reducible rfl)
      (try simp only [Act.put, List.setIfInBounds_toArray, List.set_cons_zero, List.set_cons_succ])
      refine wpAnyZ_take (i := 6) (oi := ⟨_, _, _, _, _, _⟩) (v := ?_) rfl (by kernel_rfl) (by kernel_rfl) (by kernel_rfl) (by kernel_rfl) (by kernel_rfl) (fun _ _ _ h => h) (Or.inl ⟨by rfl, ?_⟩) (by assumption) ?_
      rotate_left
      · intro W hSw
        (try dsimp only at hSw)
        go_simp
        (try with_reducible rfl)
      (try simp only [Act.put, List.setIfInBounds_toArray, List.set_cons_zero, List.set_cons_succ])
      refine wpAnyZ_take (i := 7) (oi := ⟨_, _, _, _, _, _⟩) (v := ?_) rfl (by kernel_rfl) (by kernel_rfl) (by kernel_rfl) (by kernel_rfl) (by kernel_rfl) (fun _ _ _ h => h) (Or.inl ⟨by rfl, ?_⟩) (by assumption) ?_
      rotate_left
      · intro W hSw
        (try dsimp only at hSw)
        go_simp
        (try with_reducible rfl)
      (try simp only [Act.put, List.setIfInBounds_toArray, List.set_cons_zero, List.set_cons_succ])
      refine wpAnyZ_ready (rs := [8]) (by kernel_rfl) (by simp) ?_
      refine AllReadyZ.cons (o := ⟨_, _, _, _, _, _⟩) rfl (fun C hC => ?_) AllReadyZ.nil
      go_simp
      refine (long_any u0 none 0 0 [] (xo - base) ⟨Byt.nil u0, fun _ => rfl⟩ (by omega) HV.out.1.1 HV.out.1.2).mono ?_
      rintro e u1 ⟨g1, cp1, rfl, ho1, hb1⟩
      have HQ1 : Hid (Below w4.heap.size w4 u1) := HQ0.out.trans (hb1.mono HQ0.out.size)
      have HRX : Hid (RowAt byteK u1 (some ⟨g1, 0, none⟩) 8 cp1 (longB (xo - base))) := by
        show RowAt _ _ _ _ _ _
        have h1 := row_bytes (owns_row ho1 (longB_all _))
        rw [List.nil_append, length_longB] at h1
        exact h1
      rw [List.nil_append, length_longB]
      clear ho1 hb1
      have hHeld : (fun (V : World) => V.cell? ⟨k, 0, none⟩ = some (.int .i64 base) ∧ V.cell? ⟨ke, 0, none⟩ = some (.int .i64 xo) ∧ V.cell? ⟨ke, 1, none⟩ = some (.int .i64 xp)) u1 := KS.out _ HQ1.out
      refine hC.out _ _ (fun _ => hHeld) (fun _ => ?_)
      clear hC C
      (try simp only [Act.put, List.setIfInBounds_toArray, List.set_cons_zero, List.set_cons_succ])
      refine wpAnyZ_ready (rs := [9]) (by kernel_rfl) (by simp) ?_
      refine AllReadyZ.cons (o := ⟨_, _, _, _, _, _⟩) rfl (fun C hC => ?_) AllReadyZ.nil
      refine held_row (by rfl) byteK_ok (.tmp 22) (.tmp 30) rfl w.heap.size (bytesE base (es.take i)) (longB (xo - base)) (.slice ad3 (16 * i) cap3) rfl (HO4.out.on HQ1.out) (Nat.le_trans HB4W.out.size HQ1.out.size) (some ⟨g1, 0, none⟩) 8 cp1 rfl HRX.out (by rw [bytesE_len, List.length_take]; omega) ?_
      rintro v2 u2 hap
      have hbl2 : ∀ (B : Nat), w.heap.size ≤ B → True := fun _ _ => trivial
      obtain ⟨ad2, cap2, hv2, _, _⟩ := OwnRow.row byteK_ok hap.1 (n := 16 * i + 8) (by rw [List.length_append, bytesE_len, List.length_take, length_longB, ← HM.out]; omega)
      subst hv2
      have HO2 : Hid (OwnRow byteK u2 w.heap.size (.slice ad2 (16 * i + 8) cap2) (bytesE base (es.take i) ++ longB (xo - base))) := hap.1
      have HBW2 : Hid (Below w.heap.size w u2) := (HB4W.out.trans (HQ1.out.mono HB4W.out.size)).grown hap.2.1 (Nat.le_trans HB4W.out.size HQ1.out.size) fun q hq => ((HO4.out.on HQ1.out).lt q hq).1
      have HE2 := Lib.hid (show u2.heap[ke]? = some (.cells #[.int .i64 xo, .int .i64 xp] 46 (0, 0)) from (hap.2.1.block ke (Nat.lt_of_lt_of_le HLT.out HQ1.out.size) fun e => by
        obtain ⟨cur, hc⟩ := own_type HO4.out e.symm
        rw [HE4.out] at hc
        simp [byteK] at hc).trans ((HQ1.out.block ke HLT.out).trans HE4.out))
      have hs2 : (fun (V : World) => V.cell? ⟨k, 0, none⟩ = some (.int .i64 base) ∧ V.cell? ⟨ke, 0, none⟩ = some (.int .i64 xo) ∧ V.cell? ⟨ke, 1, none⟩ = some (.int .i64 xp)) u2 := ⟨(HX.out.same (HBW2.out.block k HX.out.lt)).c0, cell_of_row _ _ 0 _ _ _ HE2.out, cell_of_row _ _ 1 _ _ _ HE2.out⟩
      clear hap
      have hHeld : (fun (V : World) => V.cell? ⟨k, 0, none⟩ = some (.int .i64 base) ∧ V.cell? ⟨ke, 0, none⟩ = some (.int .i64 xo) ∧ V.cell? ⟨ke, 1, none⟩ = some (.int .i64 xp)) u2 := hs2
      refine hC.out _ _ (fun _ => hHeld) (fun _ => ?_)
      clear hC C
      (try simp only [Act.put, List.setIfInBounds_toArray, List.set_cons_zero, List.set_cons_succ])
      refine wpAnyZ_take (i := 10) (oi := ⟨_, _, _, _, _, _⟩) (v := ?_) rfl (by kernel_rfl) (by kernel_rfl) (by kernel_rfl) (by kernel_rfl) (by kernel_rfl) (fun _ _ _ h => h) (Or.inl ⟨by rfl, ?_⟩) (by assumption) ?_
      rotate_left
      · intro W hSw
        (try dsimp only at hSw)
        go_simp
        (try with_reducible rfl)
      (try simp only [Act.put, List.setIfInBounds_toArray, List.set_cons_zero, List.set_cons_succ])
      refine wpAnyZ_done (by kernel_rfl) ?_ _
      refine NoPanic.normal ?_
      clear hHeld KS hs2 hbl2
      have t1 : u2.cell? ⟨ke, 1, none⟩ = some (.int .i64 xp) := cell_of_row _ _ 1 _ _ _ HE2.out
      go_wp2_with fail
      refine (long_any u2 none 0 0 [] xp ⟨Byt.nil u2, fun _ => rfl⟩ (by omega) HV.out.2.1 HV.out.2.2).mono ?_
      rintro e u3 ⟨g3, cp3, rfl, ho3, hb3⟩
      have HB3 := Lib.hid hb3
      have HRY : Hid (RowAt byteK u3 (some ⟨g3, 0, none⟩) 8 cp3 (longB xp)) := by
        show RowAt _ _ _ _ _ _
        have h1 := row_bytes (owns_row ho3 (longB_all _))
        rw [List.nil_append, length_longB] at h1
        exact h1
      rw [List.nil_append, length_longB]
      have HBW3 : Hid (Below w.heap.size w u3) := HBW2.out.trans (hb3.mono HBW2.out.size)
      clear ho3 hb3 t1
      go_wp2_with (at_builtin; refine list_row (by rfl) byteK_ok (.tmp 32) (.tmp 35) rfl w.heap.size (bytesE base (es.take i) ++ longB (xo - base)) (longB xp) (.slice ad2 (16 * i + 8) cap2) rfl (HO2.out.on HB3.out) HBW3.out.size (some ⟨g3, 0, none⟩) 8 cp3 rfl HRY.out (by rw [List.length_append, bytesE_len, List.length_take, length_longB]; omega) ?_)
      intro v5 u5 hap
      have HO5 : Hid (OwnRow byteK u5 w.heap.size v5 (bytesE base (es.take (i + 1)))) := by show OwnRow _ _ _ _ _; rw [HT.out]; first | exact hap.1 | (rw [List.append_assoc]; exact hap.1)
      have HBW5 : Hid (Below w.heap.size w u5) := HBW3.out.grown hap.2.1 HBW3.out.size fun q hq => ((HO2.out.on HB3.out).lt q hq).1
      clear hap
      go_wp2_with fail
      go_roundw
      case rel => exact ⟨i + 1, by go_num, by omega, HBW5.out, HO5.out⟩
      case measure => simp [intOf]; omega
    · have hd : decide (i < m) = false := decide_eq_false hlt
      have hi : i = m := by omega
      have hfull : es.take i = es := List.take_of_length_le (by rw [← HM.out]; omega)
      obtain ⟨ad3, cap3, hv3, hr3⟩ := own_byt HBI.out.own (bytesE_all base _) (n := n) (by rw [bytesE_len, hfull, ← HM.out]; exact HNN.out)
      rw [hfull] at hr3
      subst hv3
      have HR3 := Lib.hid hr3
      clear hr3 hfull
      go_wp2_with fail
      go_ret
      exact ⟨ad3, cap3, rfl, HR3.out, HBI.out.below⟩
end Go.Proofs.Ytelbignfecjjhaa
