/- The law's reads: any bytes, read as an index. -/
import Derived.Test.YtelbignfecjjhaaIxRow
namespace Go.Proofs.Ytelbignfecjjhaa
open Go.RowKit
open Go.IxMath
open Go.VarMath hiding AllB
set_option linter.unusedVariables false

/-- b[i:], read. -/
theorem cut_byt {w : World} {ad : Option Addr} {len cap : Nat} {bl : List Nat} (h : Row w ad len cap bl) (i : Nat) (hi : i ≤ len) : ∃ ad' cap', (∀ V, (Instr.slice 29 (.slice ad len cap) (some (.int .i64 (i : Int))) none none).run Try.prog V = .ok (.slice ad' (len - i) cap') V) ∧ ∀ V, Below w.heap.size w V → Byt V ad' (len - i) cap' (bl.drop i) := by
  obtain ⟨ad', cap', h1, h2, h3⟩ := row_from byteK_ok (row_bytes h) i hi
  exact ⟨ad', cap', h1, fun V hV => byt_of (h2.keep hV) (fun x hx => h.all x (List.mem_of_mem_drop hx))⟩
structure RdAt (w wr : World) (v : Value) (ls : List En) (j : Nat) : Prop where
  below : Below w.heap.size w wr
  own : OwnRow enK wr w.heap.size v ls
  n : ls.length = j
set_option maxRecDepth 100000 in
set_option maxHeartbeats 16000000 in
theorem ixReads_any (W : World) (base every : Int) (hbase : I64 base) (hev : I64 every) (ad : Option Addr) (len cap : Nat) (bl : List Nat) (hr : Row W ad len cap bl) (hn : len ≤ 1000) (h1 : Read8 base every len bl) :
    Calls Try.prog 12 #[.int .i64 base, .int .i64 every, .slice ad len cap] W fun e w' => e = .returned (.bool true) ∧ Below W.heap.size W w' := by
  have HE1 := Lib.hid h1
  clear h1
  have HR := Lib.hid hr
  have HBI := Lib.hid hbase
  have HEI := Lib.hid hev
  clear hr hbase hev
  go_enter Try.func12, Try.ntmps12
  go_wp2_with fail
  refine (ixRead_any W base every HBI.out HEI.out ad len cap bl HR.out (by omega) HE1.out).mono ?_
  rintro e w1 ⟨HB1, hc⟩
  obtain ⟨r, hr⟩ : ∃ r : Nat, r = len % 16 := ⟨_, rfl⟩
  have hrem : (len : Int) % 16 = (r : Int) := by omega
  have HRR := Lib.hid hr
  clear hr
  by_cases d1 : base < 0
  · have d1d : decide (base < 0) = true := decide_eq_true d1
    rcases hc with ⟨rfl, _⟩ | ⟨hbn, _⟩
    · go_wp2_with fail
      go_ret
      exact ⟨rfl, HB1.out⟩
    · exact absurd hbn (by rw [show badN base every = true from decide_eq_true (by omega)]; decide)
  have d1d : decide (base < 0) = false := decide_eq_false d1
  by_cases d2 : 1099511627776 < base
  · have d2d : decide (1099511627776 < base) = true := decide_eq_true d2
    rcases hc with ⟨rfl, _⟩ | ⟨hbn, _⟩
    · go_wp2_with fail
      go_ret
      exact ⟨rfl, HB1.out⟩
    · exact absurd hbn (by rw [show badN base every = true from decide_eq_true (by omega)]; decide)
  have d2d : decide (1099511627776 < base) = false := decide_eq_false d2
  by_cases d3 : every < 1
  · have d3d : decide (every < 1) = true := decide_eq_true d3
    rcases hc with ⟨rfl, _⟩ | ⟨hbn, _⟩
    · go_wp2_with fail
      go_ret
      exact ⟨rfl, HB1.out⟩
    · exact absurd hbn (by rw [show badN base every = true from decide_eq_true (by omega)]; decide)
  have d3d : decide (every < 1) = false := decide_eq_false d3
  by_cases d4 : 1073741824 < every
  · have d4d : decide (1073741824 < every) = true := decide_eq_true d4
    rcases hc with ⟨rfl, _⟩ | ⟨hbn, _⟩
    · go_wp2_with fail
      go_ret
      exact ⟨rfl, HB1.out⟩
    · exact absurd hbn (by rw [show badN base every = true from decide_eq_true (by omega)]; decide)
  have d4d : decide (1073741824 < every) = false := decide_eq_false d4
  have HBN : Hid (badN base every = false) := decide_eq_false (by omega)
  rcases Nat.eq_zero_or_pos r with hr0 | hr0
  rotate_left
  · have e1 : ((r : Int) != 0) = true := by simp; omega
    have e2 : ((r : Int) == 0) = false := by simp; omega
    rcases hc with ⟨rfl, _⟩ | ⟨_, k, F, bs, rfl, _, _, hbl, _⟩
    · go_wp2_with fail
      go_ret
      exact ⟨rfl, HB1.out⟩
    · have h1 := congrArg List.length hbl.out
      rw [bytesE_len, HR.out.len] at h1
      have := HRR.out
      omega
  obtain ⟨m, hm⟩ : ∃ m : Nat, len = 16 * m := ⟨len / 16, by have := HRR.out; omega⟩
  have HM := Lib.hid hm
  subst hr0
  clear hm hrem
  have hrem : (len : Int) % 16 = 0 := by have := HRR.out; omega
  rcases hc with ⟨rfl, HNO⟩ | ⟨_, kx, F, bs, rfl, HIX, HSM, HBL, _⟩
  · have HPOS : Hid (0 < len) := by
      show 0 < len
      refine Nat.pos_of_ne_zero fun h0 => HNO.out HBN.out [] MadeI.nil small_nil ?_
      exact List.eq_nil_of_length_eq_zero (HR.out.len.trans h0)
    clear HNO
    have HST : Hid (RdAt w1 w1 (.slice none 0 0) [] 0) := ⟨Below.refl _ w1, ownRow_nil enK w1 _, rfl⟩
    go_wp2_with fail
    clear hrem
    go_loopw [9, 10, 11] (fun v9 v10 v11 wr => ∃ (i j : Nat) (g : Bool) (ls : List En), v11 = .int .i64 (i : Int) ∧ i ≤ len ∧ Hid (i = 16 * j) ∧ v10 = .bool g ∧ Hid (RdAt w1 wr v9 ls j)) (fun _ _ v11 _ => len - (intOf v11).toNat)
    case atStart => exact ⟨0, 0, true, [], rfl, by omega, rfl, rfl, HST.out⟩
    case round =>
      obtain ⟨i, j, g, ls, rfl, hil, HIJ, rfl, HD⟩ := hrel
      obtain ⟨wo, hwo⟩ : ∃ wo : World, wo = wr := ⟨_, rfl⟩
      subst hwo
      clear HST
      obtain ⟨vv, hvv⟩ : ∃ z, z = u9 := ⟨_, rfl⟩
      subst hvv
      by_cases hlt : i < len
      · have hd1 : decide (i < len) = true := decide_eq_true hlt
        have h16 : i + 16 ≤ len := by have h1 := HIJ.out; have h2 := HM.out; omega
        obtain ⟨ad1, cap1, sl1, hb1⟩ := cut_byt HR.out i (by omega)
        obtain ⟨ad2, cap2, sl2, hb2⟩ := cut_byt HR.out (i + 8) (by omega)
        rw [show ((i + 8 : Nat) : Int) = (i : Int) + 8 by omega] at sl2
        have HB3 : Hid (Below W.heap.size W wo) := HB1.out.trans (HD.out.below.mono HB1.out.size)
        have HY1 := Lib.hid (hb1 wo HB3.out)
        have HY2 := Lib.hid (hb2 wo HB3.out)
        clear hb1 hb2
        obtain ⟨lad, lcap, hv, hrow, hfar⟩ := OwnRow.row enK_ok HD.out.own HD.out.n
        have HRW := Lib.hid hrow
        have HOW := Lib.hid HD.out.own
        subst hv
        clear hrow hfar
        go_wp2_with fail
        refine (refBack_any wo ad1 (len - i) cap1 _ HY1.out (by omega)).mono ?_
        rintro e w3 ⟨rfl, rfl⟩
        obtain ⟨n1, hn1⟩ : ∃ z, z = (backB (bl.drop i)).1 := ⟨_, rfl⟩
        obtain ⟨k1, hk1⟩ : ∃ z, z = (backB (bl.drop i)).2 := ⟨_, rfl⟩
        rw [← hn1, ← hk1]
        clear hn1 hk1
        go_wp2_with fail
        refine (refBack_any wo ad2 (len - (i + 8)) cap2 _ HY2.out (by omega)).mono ?_
        rintro e w3 ⟨rfl, rfl⟩
        obtain ⟨n2, hn2⟩ : ∃ z, z = (backB (bl.drop (i + 8))).1 := ⟨_, rfl⟩
        obtain ⟨k2, hk2⟩ : ∃ z, z = (backB (bl.drop (i + 8))).2 := ⟨_, rfl⟩
        rw [← hn2, ← hk2]
        clear hn2 hk2 sl1 sl2 HY1 HY2
        obtain ⟨q, hq⟩ : ∃ z : Int, wrap64 (base + n1) = z := ⟨_, rfl⟩
        go_upto_region 12 with fail
        go_cut [10] from 50 to 123 (fun s10 wx => wo = wx ∧ ∃ g2, s10 = .bool g2)
        case first =>
          cases g
          · go_wp2_with fail
            go_meet
            exact ⟨rfl, _, rfl⟩
          · by_cases m1 : 0 ≤ n1
            rotate_left
            · have m1d : decide (0 ≤ n1) = false := decide_eq_false m1
              go_wp2_with fail
              go_meet
              exact ⟨rfl, _, rfl⟩
            have m1d : decide (0 ≤ n1) = true := decide_eq_true m1
            by_cases m2 : n1 ≤ 1099511627776
            rotate_left
            · have m2d : decide (n1 ≤ 1099511627776) = false := decide_eq_false m2
              go_wp2_with fail
              go_meet
              exact ⟨rfl, _, rfl⟩
            have m2d : decide (n1 ≤ 1099511627776) = true := decide_eq_true m2
            by_cases m3 : 0 ≤ n2
            rotate_left
            · have m3d : decide (0 ≤ n2) = false := decide_eq_false m3
              go_wp2_with fail
              go_meet
              exact ⟨rfl, _, rfl⟩
            have m3d : decide (0 ≤ n2) = true := decide_eq_true m3
            by_cases m4 : n2 < 1099511627776
            rotate_left
            · have m4d : decide (n2 < 1099511627776) = false := decide_eq_false m4
              go_wp2_with fail
              go_meet
              exact ⟨rfl, _, rfl⟩
            have m4d : decide (n2 < 1099511627776) = true := decide_eq_true m4
            rcases Nat.eq_zero_or_pos j with hj0 | hj0
            · have ej : ((j : Int) == 0) = true := by simp [hj0]
              clear hj0
              go_wp2_with fail
              go_meet
              exact ⟨rfl, _, rfl⟩
            · have ej : ((j : Int) == 0) = false := by simp; omega
              obtain ⟨bz, oz, x, el, hbz, hx, c0, c1⟩ := en_get HRW.out (show j - 1 < j by omega)
              cases el
              obtain ⟨xo, hxo⟩ : ∃ z, z = x.off := ⟨_, rfl⟩
              obtain ⟨xp, hxp⟩ : ∃ z, z = x.pos := ⟨_, rfl⟩
              rw [← hxo] at c0
              rw [← hxp] at c1
              clear hxo hxp hx hbz
              have hjb : (j : Int) ≤ 100 := by have := HIJ.out; omega
              have hw2 : ((j : Int) - 1).toNat = j - 1 := by omega
              have hw3 : (1 : Int) ≤ (j : Int) := by omega
              have hw4 : (j : Int) - 1 < (j : Int) := by omega
              by_cases m5 : xo < base + n1
              rotate_left
              · have m5d : decide (xo < base + n1) = false := decide_eq_false m5
                go_wp2_with fail
                go_meet
                exact ⟨rfl, _, rfl⟩
              have m5d : decide (xo < base + n1) = true := decide_eq_true m5
              by_cases m6 : xp < n2
              rotate_left
              · have m6d : decide (xp < n2) = false := decide_eq_false m6
                go_wp2_with fail
                go_meet
                exact ⟨rfl, _, rfl⟩
              have m6d : decide (xp < n2) = true := decide_eq_true m6
              go_wp2_with fail
              go_meet
              exact ⟨rfl, _, rfl⟩
        case rest =>
          obtain ⟨rfl, g2, rfl⟩ := hcut
          have HBA : Hid (Below w1.heap.size w1 (wo.alloc (.cells #[.int .i64 q, .int .i64 n2] 46))) := HD.out.below.alloc HD.out.below.size _
          have HRX : Hid (RowAt enK (wo.alloc (.cells #[.int .i64 q, .int .i64 n2] 46)) (some ⟨wo.heap.size, 0, none⟩) 1 1 [⟨q, n2⟩]) := rowAt_lit enK_ok wo [⟨q, n2⟩] (by simp) _ rfl 1 rfl
          go_wp2_with (at_builtin; refine list_row (by rfl) enK_ok (.tmp 116) (.tmp 122) rfl w1.heap.size ls [⟨q, n2⟩] _ rfl (HOW.out.alloc _) HBA.out.size (some ⟨wo.heap.size, 0, none⟩) 1 1 rfl HRX.out (by have := HD.out.n; have := HIJ.out; omega) ?_)
          intro v5 w5 hap
          have HDN : Hid (RdAt w1 w5 v5 (ls ++ [⟨q, n2⟩]) (j + 1)) := ⟨HBA.out.grown hap.2.1 HBA.out.size fun k hk => (HOW.out.lt k hk).1, hap.1, by rw [List.length_append, HD.out.n]; rfl⟩
          have HIN : Hid (i + 16 = 16 * (j + 1)) := by show _ = _; have := HIJ.out; omega
          clear hap HRX HBA HOW HD hq HIJ
          go_wp2_with fail
          go_roundw
          case rel => exact ⟨i + 16, j + 1, g2, _, by go_num, by omega, HIN.out, rfl, HDN.out⟩
          case measure => simp [intOf]; omega
      · have hd1 : decide (i < len) = false := decide_eq_false hlt
        obtain ⟨lad, lcap, hv, hrow, hfar⟩ := OwnRow.row enK_ok HD.out.own HD.out.n
        subst hv
        have HB3 : Hid (Below W.heap.size W wo) := HB1.out.trans (HD.out.below.mono HB1.out.size)
        have HQB := Lib.hid HD.out.below
        clear hrow hfar HD
        have hjp : (0 : Int) < (j : Int) := by have h1 := HIJ.out; have h2 := HPOS.out; omega
        have hjd : decide (0 < j) = true := decide_eq_true (by omega)
        cases g
        · go_wp2_with fail
          go_ret
          exact ⟨rfl, HB3.out⟩
        · go_wp2_with fail
          go_ret
          exact ⟨rfl, HB3.out⟩
  · have HL16 : Hid (16 * (ents every bs).length = len) := by
      show _ = len
      rw [← bytesE_len base, ← HBL.out]
      exact HR.out.len
    have HST : Hid (RdAt w1 w1 (.slice none 0 0) [] 0) := ⟨Below.refl _ w1, ownRow_nil enK w1 _, rfl⟩
    go_wp2_with fail
    clear hrem
    go_loopw [9, 10, 11] (fun v9 v10 v11 wr => ∃ (i j : Nat) (g : Bool) (ls : List En), v11 = .int .i64 (i : Int) ∧ i ≤ len ∧ Hid (i = 16 * j) ∧ v10 = .bool g ∧ Hid (RdAt w1 wr v9 ls j)) (fun _ _ v11 _ => len - (intOf v11).toNat)
    case atStart => exact ⟨0, 0, true, [], rfl, by omega, rfl, rfl, HST.out⟩
    case round =>
      obtain ⟨i, j, g, ls, rfl, hil, HIJ, rfl, HD⟩ := hrel
      obtain ⟨wo, hwo⟩ : ∃ wo : World, wo = wr := ⟨_, rfl⟩
      subst hwo
      clear HST
      obtain ⟨vv, hvv⟩ : ∃ z, z = u9 := ⟨_, rfl⟩
      subst hvv
      by_cases hlt : i < len
      · have hd1 : decide (i < len) = true := decide_eq_true hlt
        have h16 : i + 16 ≤ len := by have h1 := HIJ.out; have h2 := HM.out; omega
        obtain ⟨ad1, cap1, sl1, hb1⟩ := cut_byt HR.out i (by omega)
        obtain ⟨ad2, cap2, sl2, hb2⟩ := cut_byt HR.out (i + 8) (by omega)
        rw [show ((i + 8 : Nat) : Int) = (i : Int) + 8 by omega] at sl2
        have HB3 : Hid (Below W.heap.size W wo) := HB1.out.trans (HD.out.below.mono HB1.out.size)
        have HY1 := Lib.hid (hb1 wo HB3.out)
        have HY2 := Lib.hid (hb2 wo HB3.out)
        clear hb1 hb2
        obtain ⟨lad, lcap, hv, hrow, hfar⟩ := OwnRow.row enK_ok HD.out.own HD.out.n
        have HRW := Lib.hid hrow
        have HOW := Lib.hid HD.out.own
        subst hv
        clear hrow hfar
        go_wp2_with fail
        refine (refBack_any wo ad1 (len - i) cap1 _ HY1.out (by omega)).mono ?_
        rintro e w3 ⟨rfl, rfl⟩
        obtain ⟨n1, hn1⟩ : ∃ z, z = (backB (bl.drop i)).1 := ⟨_, rfl⟩
        obtain ⟨k1, hk1⟩ : ∃ z, z = (backB (bl.drop i)).2 := ⟨_, rfl⟩
        rw [← hn1, ← hk1]
        clear hn1 hk1
        go_wp2_with fail
        refine (refBack_any wo ad2 (len - (i + 8)) cap2 _ HY2.out (by omega)).mono ?_
        rintro e w3 ⟨rfl, rfl⟩
        obtain ⟨n2, hn2⟩ : ∃ z, z = (backB (bl.drop (i + 8))).1 := ⟨_, rfl⟩
        obtain ⟨k2, hk2⟩ : ∃ z, z = (backB (bl.drop (i + 8))).2 := ⟨_, rfl⟩
        rw [← hn2, ← hk2]
        clear hn2 hk2 sl1 sl2 HY1 HY2
        obtain ⟨q, hq⟩ : ∃ z : Int, wrap64 (base + n1) = z := ⟨_, rfl⟩
        go_upto_region 12 with fail
        go_cut [10] from 50 to 123 (fun s10 wx => wo = wx ∧ ∃ g2, s10 = .bool g2)
        case first =>
          cases g
          · go_wp2_with fail
            go_meet
            exact ⟨rfl, _, rfl⟩
          · by_cases m1 : 0 ≤ n1
            rotate_left
            · have m1d : decide (0 ≤ n1) = false := decide_eq_false m1
              go_wp2_with fail
              go_meet
              exact ⟨rfl, _, rfl⟩
            have m1d : decide (0 ≤ n1) = true := decide_eq_true m1
            by_cases m2 : n1 ≤ 1099511627776
            rotate_left
            · have m2d : decide (n1 ≤ 1099511627776) = false := decide_eq_false m2
              go_wp2_with fail
              go_meet
              exact ⟨rfl, _, rfl⟩
            have m2d : decide (n1 ≤ 1099511627776) = true := decide_eq_true m2
            by_cases m3 : 0 ≤ n2
            rotate_left
            · have m3d : decide (0 ≤ n2) = false := decide_eq_false m3
              go_wp2_with fail
              go_meet
              exact ⟨rfl, _, rfl⟩
            have m3d : decide (0 ≤ n2) = true := decide_eq_true m3
            by_cases m4 : n2 < 1099511627776
            rotate_left
            · have m4d : decide (n2 < 1099511627776) = false := decide_eq_false m4
              go_wp2_with fail
              go_meet
              exact ⟨rfl, _, rfl⟩
            have m4d : decide (n2 < 1099511627776) = true := decide_eq_true m4
            rcases Nat.eq_zero_or_pos j with hj0 | hj0
            · have ej : ((j : Int) == 0) = true := by simp [hj0]
              clear hj0
              go_wp2_with fail
              go_meet
              exact ⟨rfl, _, rfl⟩
            · have ej : ((j : Int) == 0) = false := by simp; omega
              obtain ⟨bz, oz, x, el, hbz, hx, c0, c1⟩ := en_get HRW.out (show j - 1 < j by omega)
              cases el
              obtain ⟨xo, hxo⟩ : ∃ z, z = x.off := ⟨_, rfl⟩
              obtain ⟨xp, hxp⟩ : ∃ z, z = x.pos := ⟨_, rfl⟩
              rw [← hxo] at c0
              rw [← hxp] at c1
              clear hxo hxp hx hbz
              have hjb : (j : Int) ≤ 100 := by have := HIJ.out; omega
              have hw2 : ((j : Int) - 1).toNat = j - 1 := by omega
              have hw3 : (1 : Int) ≤ (j : Int) := by omega
              have hw4 : (j : Int) - 1 < (j : Int) := by omega
              by_cases m5 : xo < base + n1
              rotate_left
              · have m5d : decide (xo < base + n1) = false := decide_eq_false m5
                go_wp2_with fail
                go_meet
                exact ⟨rfl, _, rfl⟩
              have m5d : decide (xo < base + n1) = true := decide_eq_true m5
              by_cases m6 : xp < n2
              rotate_left
              · have m6d : decide (xp < n2) = false := decide_eq_false m6
                go_wp2_with fail
                go_meet
                exact ⟨rfl, _, rfl⟩
              have m6d : decide (xp < n2) = true := decide_eq_true m6
              go_wp2_with fail
              go_meet
              exact ⟨rfl, _, rfl⟩
        case rest =>
          obtain ⟨rfl, g2, rfl⟩ := hcut
          have HBA : Hid (Below w1.heap.size w1 (wo.alloc (.cells #[.int .i64 q, .int .i64 n2] 46))) := HD.out.below.alloc HD.out.below.size _
          have HRX : Hid (RowAt enK (wo.alloc (.cells #[.int .i64 q, .int .i64 n2] 46)) (some ⟨wo.heap.size, 0, none⟩) 1 1 [⟨q, n2⟩]) := rowAt_lit enK_ok wo [⟨q, n2⟩] (by simp) _ rfl 1 rfl
          go_wp2_with (at_builtin; refine list_row (by rfl) enK_ok (.tmp 116) (.tmp 122) rfl w1.heap.size ls [⟨q, n2⟩] _ rfl (HOW.out.alloc _) HBA.out.size (some ⟨wo.heap.size, 0, none⟩) 1 1 rfl HRX.out (by have := HD.out.n; have := HIJ.out; omega) ?_)
          intro v5 w5 hap
          have HDN : Hid (RdAt w1 w5 v5 (ls ++ [⟨q, n2⟩]) (j + 1)) := ⟨HBA.out.grown hap.2.1 HBA.out.size fun k hk => (HOW.out.lt k hk).1, hap.1, by rw [List.length_append, HD.out.n]; rfl⟩
          have HIN : Hid (i + 16 = 16 * (j + 1)) := by show _ = _; have := HIJ.out; omega
          clear hap HRX HBA HOW HD hq HIJ
          go_wp2_with fail
          go_roundw
          case rel => exact ⟨i + 16, j + 1, g2, _, by go_num, by omega, HIN.out, rfl, HDN.out⟩
          case measure => simp [intOf]; omega
      · have hd1 : decide (i < len) = false := decide_eq_false hlt
        obtain ⟨lad, lcap, hv, hrow, hfar⟩ := OwnRow.row enK_ok HD.out.own HD.out.n
        subst hv
        have HB3 : Hid (Below W.heap.size W wo) := HB1.out.trans (HD.out.below.mono HB1.out.size)
        have HQB := Lib.hid HD.out.below
        clear hrow hfar HD
        cases g
        · go_upto_region 16 with fail
          go_quiet (fail)
          go_wp2_with fail
          go_ret
          exact ⟨rfl, HB3.out.trans ((below_drewN _ _).mono HB3.out.size)⟩
        · go_upto_region 16 with fail
          obtain ⟨B, hB⟩ : ∃ B, B = str bl := ⟨_, rfl⟩
          have KS : Hid (∀ V, Below W.heap.size W V → (fun (V : World) => (convert 29 9 (.slice ad len cap)).run Try.prog V = .ok (.string B) V) V) := fun V hV => run_str_at (HR.out.keep hV (Nat.le_refl _)).1 hB
          have HQ0 : Hid (Below wo.heap.size wo wo.drew) := (Below.refl _ wo).drew
          refine wp_region_noPanic ?_
          refine wp_region_z [] (fun (V : World) => (convert 29 9 (.slice ad len cap)).run Try.prog V = .ok (.string B) V) (by kernel_rfl) ?_
          have hHeld : (fun (V : World) => (convert 29 9 (.slice ad len cap)).run Try.prog V = .ok (.string B) V) _ := KS.out _ (HB3.out.trans (HQ0.out.mono HB3.out.size))
          obtain ⟨u0, hu0⟩ : ∃ u, u = wo.drew := ⟨_, rfl⟩
          rw [← hu0] at hHeld HQ0
          rw [← hu0]
          clear hu0
          refine wpAnyZ_take (i := 0) (oi := ⟨_, _, _, _, _, _⟩) (v := ?_) rfl (by kernel_rfl) (by kernel_rfl) (by kernel_rfl) (by kernel_rfl) (by kernel_rfl) (fun _ _ _ h => h) (Or.inl ⟨by rfl, ?_⟩) (by assumption) ?_
          rotate_left
          · intro W hSw
            (try dsimp only at hSw)
            go_simp
            (try with_reducible rfl)
          (try simp only [Act.put, List.setIfInBounds_toArray, List.set_cons_zero, List.set_cons_succ])
          refine wpAnyZ_take (i := 1) (oi := ⟨_, _, _, _, _, _⟩) (v := ?_) rfl (by kernel_rfl) (by kernel_rfl) (by kernel_rfl) (by kernel_rfl) (by kernel_rfl) (fun _ _ _ h => h) (Or.inl ⟨by rfl, ?_⟩) (by assumption) ?_
          rotate_left
          · intro W hSw
            (try dsimp only at hSw)
            go_simp
            (try with_reducible rfl)
          (try simp only [Act.put, List.setIfInBounds_toArray, List.set_cons_zero, List.set_cons_succ])
          refine wpAnyZ_take (i := 2) (oi := ⟨_, _, _, _, _, _⟩) (v := ?_) rfl (by kernel_rfl) (by kernel_rfl) (by kernel_rfl) (by kernel_rfl) (by kernel_rfl) (fun _ _ _ h => h) (Or.inl ⟨by rfl, ?_⟩) (by assumption) ?_
          rotate_left
          · intro W hSw
            (try dsimp only at hSw)
            go_simp
            (try with_reducible rfl)
          (try simp only [Act.put, List.setIfInBounds_toArray, List.set_cons_zero, List.set_cons_succ])
          refine wpAnyZ_take (i := 3) (oi := ⟨_, _, _, _, _, _⟩) (v := ?_) rfl (by kernel_rfl) (by kernel_rfl) (by kernel_rfl) (by kernel_rfl) (by kernel_rfl) (fun _ _ _ h => h) (Or.inl ⟨by rfl, ?_⟩) (by assumption) ?_
          rotate_left
          · intro W hSw
            (try dsimp only at hSw)
            go_simp
            (try with_reducible rfl)
          (try simp only [Act.put, List.setIfInBounds_toArray, List.set_cons_zero, List.set_cons_succ])
          refine wpAnyZ_take (i := 4) (oi := ⟨_, _, _, _, _, _⟩) (v := ?_) rfl (by kernel_rfl) (by kernel_rfl) (by kernel_rfl) (by kernel_rfl) (by kernel_rfl) (fun _ _ _ h => h) (Or.inl ⟨by rfl, ?_⟩) (by assumption) ?_
          rotate_left
          · intro W hSw
            (try dsimp only at hSw)
            go_simp
            (try with_reducible rfl)
          (try simp only [Act.put, List.setIfInBounds_toArray, List.set_cons_zero, List.set_cons_succ])
          refine wpAnyZ_take (i := 5) (oi := ⟨_, _, _, _, _, _⟩) (v := ?_) rfl (by kernel_rfl) (by kernel_rfl) (by kernel_rfl) (by kernel_rfl) (by kernel_rfl) (fun _ _ _ h => h) (Or.inl ⟨by rfl, ?_⟩) (by assumption) ?_
          rotate_left
          · intro W hSw
            (try dsimp only at hSw)
            go_simp
            (try with_reducible rfl)
          (try simp only [Act.put, List.setIfInBounds_toArray, List.set_cons_zero, List.set_cons_succ])
          refine wpAnyZ_take (i := 6) (oi := ⟨_, _, _, _, _, _⟩) (v := ?_) rfl (by kernel_rfl) (by kernel_rfl) (by kernel_rfl) (by kernel_rfl) (by kernel_rfl) (fun _ _ _ h => h) (Or.inl ⟨by rfl, ?_⟩) (by assumption) ?_
          rotate_left
          · intro W hSw
            (try dsimp only at hSw)
            go_simp
            (try with_reducible rfl)
          (try simp only [Act.put, List.setIfInBounds_toArray, List.set_cons_zero, List.set_cons_succ])
          refine wpAnyZ_take (i := 9) (oi := ⟨_, _, _, _, _, _⟩) (v := ?_) rfl (by kernel_rfl) (by kernel_rfl) (by kernel_rfl) (by kernel_rfl) (by kernel_rfl) (fun _ _ _ h => h) (Or.inl ⟨by rfl, ?_⟩) (by assumption) ?_
          rotate_left
          · intro W hSw
            (try dsimp only at hSw)
            go_simp
            (try with_reducible rfl)
          (try simp only [Act.put, List.setIfInBounds_toArray, List.set_cons_zero, List.set_cons_succ])
          refine wpAnyZ_take (i := 10) (oi := ⟨_, _, _, _, _, _⟩) (v := ?_) rfl (by kernel_rfl) (by kernel_rfl) (by kernel_rfl) (by kernel_rfl) (by kernel_rfl) (fun _ _ _ h => h) (Or.inl ⟨by rfl, ?_⟩) (by assumption) ?_
          rotate_left
          · intro W hSw
            (try dsimp only at hSw)
            go_simp
            (try with_reducible rfl)
          (try simp only [Act.put, List.setIfInBounds_toArray, List.set_cons_zero, List.set_cons_succ])
          refine wpAnyZ_ready (rs := [7]) (by kernel_rfl) (by simp) ?_
          refine AllReadyZ.cons (o := ⟨_, _, _, _, _, _⟩) rfl (fun C hC => ?_) AllReadyZ.nil
          go_simp
          refine (ixBytes_any (HIX.out.on (HQB.out.trans (HQ0.out.mono HQB.out.size))) HSM.out len HL16.out).mono ?_
          rintro e u1 ⟨ad9, cap9, rfl, HR9, HB9⟩
          rw [← HBL.out] at HR9
          have HQ1 : Hid (Below wo.heap.size wo u1) := HQ0.out.trans (HB9.out.mono HQ0.out.size)
          have hHeld : (fun (V : World) => (convert 29 9 (.slice ad len cap)).run Try.prog V = .ok (.string B) V) u1 := KS.out _ (HB3.out.trans (HQ1.out.mono HB3.out.size))
          refine hC.out _ _ (fun _ => hHeld) (fun _ => ?_)
          clear hC C
          (try simp only [Act.put, List.setIfInBounds_toArray, List.set_cons_zero, List.set_cons_succ])
          have hc1 : (convert 29 9 (.slice ad9 len cap9)).run Try.prog u1 = .ok (.string B) u1 := run_str_at HR9.out.1 hB
          refine wpAnyZ_ready (rs := [8]) (by kernel_rfl) (by simp) ?_
          refine AllReadyZ.cons (o := ⟨_, _, _, _, _, _⟩) rfl (fun C hC => ?_) AllReadyZ.nil
          go_simp
          have hHeld : (fun (V : World) => (convert 29 9 (.slice ad len cap)).run Try.prog V = .ok (.string B) V) u1 := KS.out _ (HB3.out.trans (HQ1.out.mono HB3.out.size))
          refine hC.out _ _ (fun _ => hHeld) (fun _ => ?_)
          clear hC C
          (try simp only [Act.put, List.setIfInBounds_toArray, List.set_cons_zero, List.set_cons_succ])
          refine wpAnyZ_take (i := 11) (oi := ⟨_, _, _, _, _, _⟩) (v := ?_) rfl (by kernel_rfl) (by kernel_rfl) (by kernel_rfl) (by kernel_rfl) (by kernel_rfl) (fun _ _ _ h => h) (Or.inl ⟨by rfl, ?_⟩) (by assumption) ?_
          rotate_left
          · intro W hSw
            (try dsimp only at hSw)
            go_simp
            (try with_reducible rfl)
          (try simp only [Act.put, List.setIfInBounds_toArray, List.set_cons_zero, List.set_cons_succ])
          refine wpAnyZ_take (i := 12) (oi := ⟨_, _, _, _, _, _⟩) (v := ?_) rfl (by kernel_rfl) (by kernel_rfl) (by kernel_rfl) (by kernel_rfl) (by kernel_rfl) (fun _ _ _ h => h) (Or.inl ⟨by rfl, ?_⟩) (by assumption) ?_
          rotate_left
          · intro W hSw
            (try dsimp only at hSw)
            go_simp
            (try with_reducible rfl)
          (try simp only [Act.put, List.setIfInBounds_toArray, List.set_cons_zero, List.set_cons_succ])
          refine wpAnyZ_take (i := 13) (oi := ⟨_, _, _, _, _, _⟩) (v := ?_) rfl (by kernel_rfl) (by kernel_rfl) (by kernel_rfl) (by kernel_rfl) (by kernel_rfl) (fun _ _ _ h => h) (Or.inl ⟨by rfl, ?_⟩) (by assumption) ?_
          rotate_left
          · intro W hSw
            (try dsimp only at hSw)
            go_simp
            (try with_reducible rfl)
          (try simp only [Act.put, List.setIfInBounds_toArray, List.set_cons_zero, List.set_cons_succ])
          refine wpAnyZ_take (i := 14) (oi := ⟨_, _, _, _, _, _⟩) (v := ?_) rfl (by kernel_rfl) (by kernel_rfl) (by kernel_rfl) (by kernel_rfl) (by kernel_rfl) (fun _ _ _ h => h) (Or.inl ⟨by rfl, ?_⟩) (by assumption) ?_
          rotate_left
          · intro W hSw
            (try dsimp only at hSw)
            go_simp
            (try with_reducible rfl)
          (try simp only [Act.put, List.setIfInBounds_toArray, List.set_cons_zero, List.set_cons_succ])
          refine wpAnyZ_done (by kernel_rfl) ?_ _
          refine NoPanic.normal ?_
          clear hHeld
          go_wp2_with fail
          go_ret
          exact ⟨rfl, HB3.out.trans (HQ1.out.mono HB3.out.size)⟩
end Go.Proofs.Ytelbignfecjjhaa
