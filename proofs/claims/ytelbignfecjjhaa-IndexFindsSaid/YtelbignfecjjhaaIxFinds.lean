/- IndexFinds: a place that is found is that of a batch that was added, not far ahead of the one that is looked for. -/
import Derived.Test.YtelbignfecjjhaaIxRow
namespace Go.Proofs.Ytelbignfecjjhaa
open Go.RowKit
open Go.IxMath
open Go.VarMath hiding AllB
set_option linter.unusedVariables false

theorem infoIn : (Try.prog.info? 3).map (fun i => (i.zero, i.size, i.bytes)) = some (some (.int .i64 0), 1, 8) := by kernel_rfl
def inK : Kind Int := ⟨fun x => [.int .i64 x], 1, 3, 37⟩
theorem inK_ok : inK.Ok 8 where
  und := Try.underlying37
  info := by
    obtain ⟨i, hi, hz, hs, hb⟩ := info_parts infoIn
    exact ⟨i, _, hi, hz, hs, hb, rfl⟩
  len := fun _ => rfl
  pos := by decide
  one := fun r u hu => by
    simp only [inK, List.mem_cons, List.not_mem_nil, or_false] at hu
    subst hu
    rfl
  few := by decide
theorem in_get {w : World} {ad : Option Addr} {len cap : Nat} {l : List Int} (h : RowAt inK w ad len cap l) {i : Nat} (hi : i < len) : ∃ b off x, ad = some ⟨b, off, none⟩ ∧ b < w.heap.size ∧ l[i]? = some x ∧ w.cell? ⟨b, off + i, none⟩ = some (.int .i64 x) := by
  obtain ⟨b, off, x, e, hb, hx, hc⟩ := h.get hi
  have := hc 0 _ rfl
  have hs : inK.size = 1 := rfl
  rw [hs, Nat.mul_one] at this
  exact ⟨b, off, x, e, hb, hx, this⟩
def Offs (bs : List Ba) : Prop := ∀ (t : Nat) (b : Ba), bs[t]? = some b → b.off = (t : Int)
theorem offs_snoc {bs : List Ba} (h : Offs bs) {i : Nat} (hi : bs.length = i) (p n : Int) : Offs (bs ++ [⟨(i : Int), p, n⟩]) := by
  intro t b hb
  rcases Nat.lt_trichotomy t i with h1 | h1 | h1
  · rw [List.getElem?_append_left (by omega)] at hb
    exact h t b hb
  · rw [List.getElem?_append_right (by omega), hi, h1, Nat.sub_self] at hb
    cases hb
    rw [h1]
  · rw [List.getElem?_eq_none (by rw [List.length_append, List.length_singleton]; omega)] at hb
    cases hb
/-- What stands before each add. -/
structure FiAt (W wr : World) (kx : Nat) (kk : Int) (v : Value) (bs : List Ba) (i : Nat) (p : Int) : Prop where
  own : Own8 W wr kx 0 kk bs
  row : OwnRow inK wr W.heap.size v (bs.map (·.pos))
  ri : RowI bs 0 1 i p
  offs : Offs bs
  far : ∃ F, IxOk wr kx F 0 kk bs ∧ (∀ j, F j → W.heap.size ≤ j) ∧ ∀ g, v.ownBlock = some g → ¬ F g
theorem fi_start {W w : World} {kx : Nat} {kk : Int} (h : Own8 W w kx 0 kk []) : FiAt W w kx kk (.slice none 0 0) [] 0 0 := by
  obtain ⟨F, h1, h2⟩ := h.ex
  exact ⟨h, ownRow_nil inK w _, rowI_nil (by decide), fun t b hb => (by cases hb), F, h1, h2, fun g hg => by cases hg⟩
/-- What a step gives: the batch is added, its place appended. -/
theorem fi_add {W wo : World} {kx : Nat} {kk : Int} {v : Value} {bs : List Ba} {i : Nat} {p n : Int} (h : FiAt W wo kx kk v bs i p) (hi : i < 40) (hn : 1 ≤ n ∧ n ≤ 61) :
    Calls Try.prog 10 #[.pointer (some ⟨kx, 0, none⟩), .int .i64 (i : Int), .int .i64 p, .int .i64 n] wo fun e w' => e = .returned (.bool true) ∧ Hid (Own8 W w' kx 0 kk (bs ++ [⟨(i : Int), p, p + n⟩])) ∧ Hid (OwnRow inK w' W.heap.size v (bs.map (·.pos))) ∧ Hid (∃ F, IxOk w' kx F 0 kk (bs ++ [⟨(i : Int), p, p + n⟩]) ∧ (∀ j, F j → W.heap.size ≤ j) ∧ ∀ g, v.ownBlock = some g → ¬ F g) := by
  obtain ⟨F, h1, h2, h3⟩ := h.far
  have hg := h.ri.good (base := 0) (n := n) (by omega) hn.1
  have hp := h.ri.pos
  have e1 : (0 : Int) + 1 * (i : Int) = (i : Int) := by omega
  rw [e1] at hg
  refine (ixAdd_any h1 h.ri.small (i : Int) p n ⟨by omega, by omega⟩ ⟨by omega, by omega⟩ ⟨by omega, by omega⟩).mono ?_
  rintro e w' ⟨rfl, F', h4, h5, h6⟩
  rw [hg.2] at h4
  have hbel := h.own.below
  have hfw : ∀ j, F' j → W.heap.size ≤ j := fun j hj => by
    rcases h6.out j hj with h7 | h7
    · exact h2 j h7
    · have := hbel.size; omega
  have hno : ∀ g, v.ownBlock = some g → ¬ F' g := fun g hgb hf => by
    have hlt := (h.row.lt g hgb).2
    rcases h6.out g hf with h7 | h7
    · exact h3 g hgb h7
    · omega
  refine ⟨by rw [hg.1]; rfl, ⟨hbel.trans (h5.out.below h2 hbel.size), F', h4.out, hfw⟩, ?_, F', h4.out, hfw, hno⟩
  exact h.row.same fun g hgb => h5.out.block g (h.row.lt g hgb).2 (h3 g hgb)
set_option maxRecDepth 100000 in
set_option maxHeartbeats 16000000 in
theorem ixFinds_any (W : World) (nad : Option Addr) (len cap : Nat) (zs : List Int) (hz : IsRow .i64 W nad len cap zs) (every which : Int) (hev : I64 every) (hwh : I64 which) :
    Calls Try.prog 5 #[.slice nad len cap, .int .i64 every, .int .i64 which] W fun e w' => e = .returned (.bool true) ∧ Below W.heap.size W w' := by
  have HZ := Lib.hid hz
  have HWH := Lib.hid hwh
  clear hz hwh
  go_enter Try.func5, Try.ntmps5
  go_wp2_with fail
  refine (within_any every 100 W hev (by omega)).mono ?_
  rintro e w1 ⟨k0, rfl, hk0, rfl⟩
  have hk91 : (1 : Int) + (k0 : Int) ≤ 101 := by omega
  obtain ⟨kk, hkk⟩ : ∃ z : Int, z = 1 + (k0 : Int) := ⟨_, rfl⟩
  have HKK : Hid (1 ≤ kk ∧ kk ≤ 101) := by show _ ∧ _; omega
  go_upto_region 2 with fail
  rw [← hkk]
  clear hkk hk0 hk91
  go_wp2_with fail
  refine (ix_new W W (Below.refl _ W) 0 kk ⟨by decide, by decide⟩ ⟨by have := HKK.out; omega, by have := HKK.out; omega⟩ (decide_eq_false (by have := HKK.out; omega))).mono ?_
  rintro e w2 ⟨kx, rfl, H2⟩
  have HST := Lib.hid (fi_start H2.out)
  clear H2
  go_wp2_with fail
  go_loopw [9, 10, 11, 12] (fun v9 v10 v11 v12 wr => ∃ (i : Nat) (p mz : Int) (bs : List Ba), v12 = .int .i64 (i : Int) ∧ i ≤ 40 ∧ i ≤ len ∧ v10 = .int .i64 p ∧ v11 = .int .i64 mz ∧ Hid (FiAt W wr kx kk v9 bs i p)) (fun _ _ _ v12 _ => 40 - (intOf v12).toNat)
  case atStart => exact ⟨0, 0, 0, [], rfl, by omega, by omega, rfl, rfl, HST.out⟩
  case round =>
    obtain ⟨i, p, mz, bs, rfl, hi40, hil, rfl, rfl, HF⟩ := hrel
    obtain ⟨wo, hwo⟩ : ∃ wo : World, wo = wr := ⟨_, rfl⟩
    subst hwo
    clear HST
    obtain ⟨vv, hvv⟩ : ∃ z, z = u9 := ⟨_, rfl⟩
    subst hvv
    by_cases hlt : i < len ∧ i < 40
    · obtain ⟨hlt1, hlt2⟩ := hlt
      have hd1 : decide (i < len) = true := decide_eq_true hlt1
      have hd2 : decide (i < 40) = true := decide_eq_true hlt2
      have hij : (i : Int) < (len : Int) := by omega
      obtain ⟨bz, oz, z, el, hbz, hc, hzi⟩ := int_get HZ.out hlt1
      have c0 : wo.cell? ⟨bz, oz + i, none⟩ = some (.int .i64 z) := (HF.out.own.below.cell (p := ⟨bz, oz + i, none⟩) hbz).trans hc
      subst el
      clear hc
      go_wp2_with fail
      refine (within_any z 60 wo hzi (by omega)).mono ?_
      rintro e w3 ⟨n0, rfl, hn0, rfl⟩
      clear c0 hzi hbz
      obtain ⟨nn, hnn⟩ : ∃ z : Int, z = 1 + (n0 : Int) := ⟨_, rfl⟩
      have HNN : Hid (1 ≤ nn ∧ nn ≤ 61) := by show _ ∧ _; omega
      have hpb := HF.out.ri.pos
      go_upto_region 11 with fail
      rw [← hnn]
      clear hnn hn0
      go_wp2_with fail
      refine (fi_add HF.out (by omega) HNN.out).mono ?_
      rintro e w4 ⟨rfl, HO4, HR4, HX4⟩
      have HN := Lib.hid (HF.out.ri.next (n := nn) (by decide) (by decide) (by omega) HNN.out)
      have e1 : (0 : Int) + 1 * (i : Int) = (i : Int) := by omega
      rw [e1] at HN
      have HOF := Lib.hid (offs_snoc HF.out.offs HF.out.ri.len p (p + nn))
      have HLN : Hid ((bs.map (·.pos)).length = i) := by show _ = _; rw [List.length_map]; exact HF.out.ri.len
      have hsum : -9223372036854775808 ≤ p + nn ∧ p + nn ≤ 9223372036854775807 := by have := HNN.out; omega
      clear e1 HF
      have HBA : Hid (Below w4.heap.size w4 (w4.alloc (.cells #[.int .i64 p] 3))) := (Below.refl _ w4).alloc (Nat.le_refl _) _
      have HRX : Hid (RowAt inK (w4.alloc (.cells #[.int .i64 p] 3)) (some ⟨w4.heap.size, 0, none⟩) 1 1 [p]) := rowAt_lit inK_ok w4 [p] (by simp) _ rfl 1 rfl
      go_wp2_with (at_builtin; refine list_row (by rfl) inK_ok (.tmp 47) (.tmp 49) rfl W.heap.size (bs.map (·.pos)) [p] _ rfl (HR4.out.alloc _) (Nat.le_trans HO4.out.below.size HBA.out.size) (some ⟨w4.heap.size, 0, none⟩) 1 1 rfl HRX.out (by have := HLN.out; omega) ?_)
      intro v5 w5 hap
      have HFN : Hid (FiAt W w5 kx kk v5 (bs ++ [⟨(i : Int), p, p + nn⟩]) (i + 1) (p + nn)) := by
        obtain ⟨F, f1, f2, f3⟩ := HX4.out
        have hk : ∀ g, vv.ownBlock = some g → ¬ F g := f3
        have hix : IxOk w5 kx F 0 kk (bs ++ [⟨(i : Int), p, p + nn⟩]) := by
          refine (f1.on HBA.out).kept (Kept.of_own (F := fun j => vv.ownBlock = some j) hap.2.1 fun g hg => .inl hg) fun j hj hg => hk j hg hj
        have hb5 : Below W.heap.size W w5 := (HO4.out.below.trans (HBA.out.mono HO4.out.below.size)).grown hap.2.1 (Nat.le_trans HO4.out.below.size HBA.out.size) fun g hg => (HR4.out.lt g hg).1
        refine ⟨⟨hb5, F, hix, f2⟩, ?_, HN.out, HOF.out, F, hix, f2, fun g hg hf => ?_⟩
        · rw [List.map_append]
          exact hap.1
        · rcases hap.2.2.2 g hg with h7 | h7
          · exact hk g h7 hf
          · have h8 := (f1.on HBA.out).lt g hf
            omega
      clear hap HRX HBA HX4 HR4 HO4 HN HOF HLN
      by_cases hmx : mz < nn
      · have hm1 : decide (mz < nn) = true := decide_eq_true hmx
        go_wp2_with fail
        go_roundw
        case rel => exact ⟨i + 1, p + nn, _, _, by go_num, by omega, by omega, rfl, rfl, HFN.out⟩
        case measure => simp [intOf]; omega
      · have hm1 : decide (mz < nn) = false := decide_eq_false hmx
        go_wp2_with fail
        go_roundw
        case rel => exact ⟨i + 1, p + nn, _, _, by go_num, by omega, by omega, rfl, rfl, HFN.out⟩
        case measure => simp [intOf]; omega
    · have HNL : Hid (¬ (i < len ∧ i < 40)) := hlt
      by_cases hle : i < len
      · have e1 : decide (i < len) = true := decide_eq_true hle
        have e2 : decide (i < 40) = false := decide_eq_false (by have := HNL.out; omega)
        clear HNL
        obtain ⟨aad, acap, hv, hrow, hfar⟩ := OwnRow.row inK_ok HF.out.row (n := i) (by rw [List.length_map]; exact HF.out.ri.len)
        subst hv
        have HAR := Lib.hid hrow
        have HO := Lib.hid HF.out.own
        have HRI := Lib.hid HF.out.ri
        have HOF := Lib.hid HF.out.offs
        have HAF : Hid (∀ a, aad = some a → a.block < wo.heap.size) := fun a ha => (hfar a ha).2
        clear hrow hfar HF
        rcases Nat.eq_zero_or_pos i with hi0 | hi0
        · rw [hi0] at e2
          exact absurd e2 (by decide)
        · have hz0 : ((i : Int) == 0) = false := by simp; omega
          have hw1 : (i : Int) - 1 ≤ 9223372036854775807 := by omega
          go_wp2_with fail
          refine (within_any which ((i : Int) - 1) wo HWH.out (by omega)).mono ?_
          rintro e w6 ⟨q, rfl, hq, rfl⟩
          have hq1 : q < i := by omega
          obtain ⟨m, hm⟩ : ∃ m, (ents kk bs).length = m := ⟨_, rfl⟩
          have hm1 : m ≤ 1000 := by have h1 := ents_len kk bs; have h2 := HRI.out.small.1; omega
          have HML := Lib.hid hm
          clear hm hq
          go_wp2_with fail
          refine (ix_find HO.out HRI.out.small (q : Int) ⟨by omega, by omega⟩).mono ?_
          rintro e w7 ⟨rfl, HB7⟩
          obtain ⟨f, hf⟩ : ∃ z, z = findE (ents kk bs) (q : Int) := ⟨_, rfl⟩
          have HFE := Lib.hid hf
          rw [← hf]
          clear hf
          have HO7 := Lib.hid (HO.out.on HB7.out)
          have HA7 := Lib.hid (HAR.out.keep HB7.out)
          clear HO HAR HB7
          have HNEAR : Hid (∃ t : Nat, t ≤ q ∧ (bs.map (·.pos))[t]? = some f ∧ ∀ x, (bs.map (·.pos))[q]? = some x → x - f < kk) := by
            have hM := ix_made HO7.out
            have hql : q < bs.length := by rw [HRI.out.len]; exact hq1
            have hbq : bs[q]? = some (bs[q]'hql) := List.getElem?_eq_getElem hql
            obtain ⟨c, hc, h1, h2, h3⟩ := find_near hM.2.2 hM.1 _ (List.mem_of_getElem? hbq)
            obtain ⟨t, ht⟩ := List.mem_iff_getElem?.1 hc
            rw [HOF.out q _ hbq] at h1 h2
            rw [HOF.out t c ht] at h1
            refine ⟨t, by omega, ?_, fun x hx => ?_⟩
            · rw [List.getElem?_map, ht, HFE.out, h2]
              rfl
            · rw [List.getElem?_map, hbq] at hx
              cases hx
              rw [HFE.out, h2]
              exact h3
          obtain ⟨al, hal⟩ : ∃ al, al = bs.map (·.pos) := ⟨_, rfl⟩
          have HRB : Hid (∀ x ∈ al, -9223372036854775808 ≤ x - f ∧ x - f ≤ 9223372036854775807) := fun x hx => by
            have hM := ix_made HO7.out
            have key : ∀ y, y ∈ al → 0 ≤ y ∧ y ≤ 4611686018427387904 := fun y hy => by
              rw [hal] at hy
              obtain ⟨b, hb, rfl⟩ := List.mem_map.1 hy
              have g1 := made_all hM.1 b hb
              have g2 := HRI.out.small.2 b hb
              exact ⟨by show 0 ≤ b.pos; omega, by show b.pos ≤ _; omega⟩
            obtain ⟨t, _, ht, _⟩ := HNEAR.out
            rw [← hal] at ht
            have k1 := key x hx
            have k2 := key f (List.mem_of_getElem? ht)
            omega
          rw [← hal] at HA7 HNEAR
          clear hal
          have HST : Hid (false = true ↔ ∃ t : Nat, t < 0 ∧ al[t]? = some f) := ⟨fun h => (by cases h), fun ⟨t, ht, _⟩ => by omega⟩
          go_wp2_with fail
          go_loopw [16, 17] (fun v16 v17 wr => ∃ (j : Nat) (b : Bool), v17 = .int .i64 (j : Int) ∧ j ≤ q + 1 ∧ v16 = .bool b ∧ w7 = wr ∧ Hid (b = true ↔ ∃ t : Nat, t < j ∧ al[t]? = some f)) (fun _ v17 _ => q + 1 - (intOf v17).toNat)
          case atStart => exact ⟨0, false, rfl, by omega, rfl, rfl, HST.out⟩
          case round =>
            obtain ⟨j, b, rfl, hjq, rfl, rfl, HB⟩ := hrel
            clear HST
            by_cases hlj : j ≤ q
            · have hd : decide (j ≤ q) = true := decide_eq_true hlj
              have hji : (j : Int) < (i : Int) := by omega
              obtain ⟨ba, oa, x, el, hba, hx, ca⟩ := in_get HA7.out (show j < i by omega)
              subst el
              have HX := Lib.hid hx
              clear hx hba
              cases b
              · by_cases hxf : x = f
                · have hq1 : (x == f) = true := by simp [hxf]
                  have hq1d : decide (x = f) = true := decide_eq_true hxf
                  have HB2 : Hid (true = true ↔ ∃ t : Nat, t < j + 1 ∧ al[t]? = some f) := ⟨fun _ => ⟨j, by omega, by rw [HX.out, hxf]⟩, fun _ => rfl⟩
                  have HXF := Lib.hid hxf
                  clear hxf
                  go_wp2_with fail
                  go_roundw
                  case rel => exact ⟨j + 1, true, by go_num, by omega, by first | rfl | trivial, by first | rfl | trivial, HB2.out⟩
                  case measure => simp [intOf]; omega
                · have hq1 : (x == f) = false := by simp [hxf]
                  have hq1d : decide (x = f) = false := decide_eq_false hxf
                  have HB2 : Hid (false = true ↔ ∃ t : Nat, t < j + 1 ∧ al[t]? = some f) := ⟨fun h => (by cases h), fun ⟨t, ht, h⟩ => by
                    rcases Nat.lt_or_ge t j with h1 | h1
                    · exact HB.out.2 ⟨t, h1, h⟩
                    · have : t = j := by omega
                      rw [this, HX.out] at h
                      exact absurd (Option.some.inj h) hxf⟩
                  go_wp2_with fail
                  go_roundw
                  case rel => exact ⟨j + 1, false, by go_num, by omega, by first | rfl | trivial, by first | rfl | trivial, HB2.out⟩
                  case measure => simp [intOf]; omega
              · have HB2 : Hid (true = true ↔ ∃ t : Nat, t < j + 1 ∧ al[t]? = some f) := ⟨fun _ => by
                  obtain ⟨t, h1, h2⟩ := HB.out.1 rfl
                  exact ⟨t, by omega, h2⟩, fun _ => rfl⟩
                go_wp2_with fail
                go_roundw
                case rel => exact ⟨j + 1, true, by go_num, by omega, by first | rfl | trivial, by first | rfl | trivial, HB2.out⟩
                case measure => simp [intOf]; omega
            · have hd : decide (j ≤ q) = false := decide_eq_false hlj
              obtain ⟨t0, ht0, hat, hdist⟩ := HNEAR.out
              have hb : b = true := HB.out.2 ⟨t0, by omega, hat⟩
              subst hb
              obtain ⟨ba, oa, x, el, hba, hx, ca⟩ := in_get HA7.out hq1
              have hxk := hdist x hx
              have hxr := HRB.out x (List.mem_of_getElem? hx)
              have hxk : decide (x - f < kk) = true := decide_eq_true hxk
              have hqi : (q : Int) < (i : Int) := by omega
              subst el
              clear hdist hat ht0 hba hx
              go_wp2_with fail
              refine (ix_bytes HO7.out HRI.out.small (16 * m) (by rw [HML.out])).mono ?_
              rintro e w8 ⟨ad8, cap8, rfl, _, HB8⟩
              have HO8 := Lib.hid (HO7.out.on HB8.out)
              clear HO7 HB8 ca
              go_wp2_with fail
              refine (ix_entries HO8.out HRI.out.small m HML.out).mono ?_
              rintro e w9 ⟨ad9, cap9, rfl, _, HB9⟩
              have HO9 := Lib.hid (HO8.out.on HB9.out)
              clear HO8 HB9
              go_wp2_with fail
              refine (ixKnown_any _).mono ?_
              rintro e w10 ⟨rfl, hb10⟩
              have HB10 : Hid (Below W.heap.size W w10) := HO9.out.below.trans (hb10.mono HO9.out.below.size)
              clear hb10
              go_wp2
              go_ret
              exact ⟨rfl, HB10.out⟩
      · have e1 : decide (i < len) = false := decide_eq_false hle
        clear HNL
        obtain ⟨aad, acap, hv, hrow, hfar⟩ := OwnRow.row inK_ok HF.out.row (n := i) (by rw [List.length_map]; exact HF.out.ri.len)
        subst hv
        have HAR := Lib.hid hrow
        have HO := Lib.hid HF.out.own
        have HRI := Lib.hid HF.out.ri
        have HOF := Lib.hid HF.out.offs
        have HAF : Hid (∀ a, aad = some a → a.block < wo.heap.size) := fun a ha => (hfar a ha).2
        clear hrow hfar HF
        rcases Nat.eq_zero_or_pos i with hi0 | hi0
        · have HFZ : Hid (findE (ents kk bs) 5 = 0) := by
            show _ = _
            rw [List.eq_nil_of_length_eq_zero (HRI.out.len.trans hi0)]
            rfl
          have hz0 : ((i : Int) == 0) = true := by simp [hi0]
          go_wp2_with fail
          refine (ix_find HO.out HRI.out.small 5 ⟨by decide, by decide⟩).mono ?_
          rintro e w6 ⟨rfl, HB6⟩
          have HO6 := Lib.hid (HO.out.on HB6.out)
          rw [HFZ.out]
          clear HO HB6
          go_wp2_with fail
          refine (ixKnown_any _).mono ?_
          rintro e w7 ⟨rfl, hb7⟩
          have HB7 : Hid (Below W.heap.size W w7) := HO6.out.below.trans (hb7.mono HO6.out.below.size)
          clear hb7
          go_wp2
          go_ret
          exact ⟨rfl, HB7.out⟩
        · have hz0 : ((i : Int) == 0) = false := by simp; omega
          have hw1 : (i : Int) - 1 ≤ 9223372036854775807 := by omega
          go_wp2_with fail
          refine (within_any which ((i : Int) - 1) wo HWH.out (by omega)).mono ?_
          rintro e w6 ⟨q, rfl, hq, rfl⟩
          have hq1 : q < i := by omega
          obtain ⟨m, hm⟩ : ∃ m, (ents kk bs).length = m := ⟨_, rfl⟩
          have hm1 : m ≤ 1000 := by have h1 := ents_len kk bs; have h2 := HRI.out.small.1; omega
          have HML := Lib.hid hm
          clear hm hq
          go_wp2_with fail
          refine (ix_find HO.out HRI.out.small (q : Int) ⟨by omega, by omega⟩).mono ?_
          rintro e w7 ⟨rfl, HB7⟩
          obtain ⟨f, hf⟩ : ∃ z, z = findE (ents kk bs) (q : Int) := ⟨_, rfl⟩
          have HFE := Lib.hid hf
          rw [← hf]
          clear hf
          have HO7 := Lib.hid (HO.out.on HB7.out)
          have HA7 := Lib.hid (HAR.out.keep HB7.out)
          clear HO HAR HB7
          have HNEAR : Hid (∃ t : Nat, t ≤ q ∧ (bs.map (·.pos))[t]? = some f ∧ ∀ x, (bs.map (·.pos))[q]? = some x → x - f < kk) := by
            have hM := ix_made HO7.out
            have hql : q < bs.length := by rw [HRI.out.len]; exact hq1
            have hbq : bs[q]? = some (bs[q]'hql) := List.getElem?_eq_getElem hql
            obtain ⟨c, hc, h1, h2, h3⟩ := find_near hM.2.2 hM.1 _ (List.mem_of_getElem? hbq)
            obtain ⟨t, ht⟩ := List.mem_iff_getElem?.1 hc
            rw [HOF.out q _ hbq] at h1 h2
            rw [HOF.out t c ht] at h1
            refine ⟨t, by omega, ?_, fun x hx => ?_⟩
            · rw [List.getElem?_map, ht, HFE.out, h2]
              rfl
            · rw [List.getElem?_map, hbq] at hx
              cases hx
              rw [HFE.out, h2]
              exact h3
          obtain ⟨al, hal⟩ : ∃ al, al = bs.map (·.pos) := ⟨_, rfl⟩
          have HRB : Hid (∀ x ∈ al, -9223372036854775808 ≤ x - f ∧ x - f ≤ 9223372036854775807) := fun x hx => by
            have hM := ix_made HO7.out
            have key : ∀ y, y ∈ al → 0 ≤ y ∧ y ≤ 4611686018427387904 := fun y hy => by
              rw [hal] at hy
              obtain ⟨b, hb, rfl⟩ := List.mem_map.1 hy
              have g1 := made_all hM.1 b hb
              have g2 := HRI.out.small.2 b hb
              exact ⟨by show 0 ≤ b.pos; omega, by show b.pos ≤ _; omega⟩
            obtain ⟨t, _, ht, _⟩ := HNEAR.out
            rw [← hal] at ht
            have k1 := key x hx
            have k2 := key f (List.mem_of_getElem? ht)
            omega
          rw [← hal] at HA7 HNEAR
          clear hal
          have HST : Hid (false = true ↔ ∃ t : Nat, t < 0 ∧ al[t]? = some f) := ⟨fun h => (by cases h), fun ⟨t, ht, _⟩ => by omega⟩
          go_wp2_with fail
          go_loopw [16, 17] (fun v16 v17 wr => ∃ (j : Nat) (b : Bool), v17 = .int .i64 (j : Int) ∧ j ≤ q + 1 ∧ v16 = .bool b ∧ w7 = wr ∧ Hid (b = true ↔ ∃ t : Nat, t < j ∧ al[t]? = some f)) (fun _ v17 _ => q + 1 - (intOf v17).toNat)
          case atStart => exact ⟨0, false, rfl, by omega, rfl, rfl, HST.out⟩
          case round =>
            obtain ⟨j, b, rfl, hjq, rfl, rfl, HB⟩ := hrel
            clear HST
            by_cases hlj : j ≤ q
            · have hd : decide (j ≤ q) = true := decide_eq_true hlj
              have hji : (j : Int) < (i : Int) := by omega
              obtain ⟨ba, oa, x, el, hba, hx, ca⟩ := in_get HA7.out (show j < i by omega)
              subst el
              have HX := Lib.hid hx
              clear hx hba
              cases b
              · by_cases hxf : x = f
                · have hq1 : (x == f) = true := by simp [hxf]
                  have hq1d : decide (x = f) = true := decide_eq_true hxf
                  have HB2 : Hid (true = true ↔ ∃ t : Nat, t < j + 1 ∧ al[t]? = some f) := ⟨fun _ => ⟨j, by omega, by rw [HX.out, hxf]⟩, fun _ => rfl⟩
                  have HXF := Lib.hid hxf
                  clear hxf
                  go_wp2_with fail
                  go_roundw
                  case rel => exact ⟨j + 1, true, by go_num, by omega, by first | rfl | trivial, by first | rfl | trivial, HB2.out⟩
                  case measure => simp [intOf]; omega
                · have hq1 : (x == f) = false := by simp [hxf]
                  have hq1d : decide (x = f) = false := decide_eq_false hxf
                  have HB2 : Hid (false = true ↔ ∃ t : Nat, t < j + 1 ∧ al[t]? = some f) := ⟨fun h => (by cases h), fun ⟨t, ht, h⟩ => by
                    rcases Nat.lt_or_ge t j with h1 | h1
                    · exact HB.out.2 ⟨t, h1, h⟩
                    · have : t = j := by omega
                      rw [this, HX.out] at h
                      exact absurd (Option.some.inj h) hxf⟩
                  go_wp2_with fail
                  go_roundw
                  case rel => exact ⟨j + 1, false, by go_num, by omega, by first | rfl | trivial, by first | rfl | trivial, HB2.out⟩
                  case measure => simp [intOf]; omega
              · have HB2 : Hid (true = true ↔ ∃ t : Nat, t < j + 1 ∧ al[t]? = some f) := ⟨fun _ => by
                  obtain ⟨t, h1, h2⟩ := HB.out.1 rfl
                  exact ⟨t, by omega, h2⟩, fun _ => rfl⟩
                go_wp2_with fail
                go_roundw
                case rel => exact ⟨j + 1, true, by go_num, by omega, by first | rfl | trivial, by first | rfl | trivial, HB2.out⟩
                case measure => simp [intOf]; omega
            · have hd : decide (j ≤ q) = false := decide_eq_false hlj
              obtain ⟨t0, ht0, hat, hdist⟩ := HNEAR.out
              have hb : b = true := HB.out.2 ⟨t0, by omega, hat⟩
              subst hb
              obtain ⟨ba, oa, x, el, hba, hx, ca⟩ := in_get HA7.out hq1
              have hxk := hdist x hx
              have hxr := HRB.out x (List.mem_of_getElem? hx)
              have hxk : decide (x - f < kk) = true := decide_eq_true hxk
              have hqi : (q : Int) < (i : Int) := by omega
              subst el
              clear hdist hat ht0 hba hx
              go_wp2_with fail
              refine (ix_bytes HO7.out HRI.out.small (16 * m) (by rw [HML.out])).mono ?_
              rintro e w8 ⟨ad8, cap8, rfl, _, HB8⟩
              have HO8 := Lib.hid (HO7.out.on HB8.out)
              clear HO7 HB8 ca
              go_wp2_with fail
              refine (ix_entries HO8.out HRI.out.small m HML.out).mono ?_
              rintro e w9 ⟨ad9, cap9, rfl, _, HB9⟩
              have HO9 := Lib.hid (HO8.out.on HB9.out)
              clear HO8 HB9
              go_wp2_with fail
              refine (ixKnown_any _).mono ?_
              rintro e w10 ⟨rfl, hb10⟩
              have HB10 : Hid (Below W.heap.size W w10) := HO9.out.below.trans (hb10.mono HO9.out.below.size)
              clear hb10
              go_wp2
              go_ret
              exact ⟨rfl, HB10.out⟩
end Go.Proofs.Ytelbignfecjjhaa
