/- Batches in a row are read one by one, each as long as it is; sizes are what bytes they take. -/
import Derived.Test.YtlpmfhccfihnfaaModB
namespace Go.Proofs.Ytlpmfhccfihnfaa
open Go.RowKit
open Go.SeqMath
open Go.ProdMath
open Go.BatMath hiding AllB getD_lt take_all
set_option linter.unusedVariables false

def bytesAll (bs : List Bat) : List Nat := bs.flatMap bytesB
theorem bytesAll_app (a b : List Bat) : bytesAll (a ++ b) = bytesAll a ++ bytesAll b := by simp [bytesAll]
theorem bytesAll_next {bs : List Bat} {j : Nat} {b : Bat} (h : bs[j]? = some b) : bytesAll (bs.take (j + 1)) = bytesAll (bs.take j) ++ bytesB b := by
  rw [List.take_add_one, h]
  show bytesAll (bs.take j ++ [b]) = _
  rw [bytesAll_app]
  simp [bytesAll]
theorem bytesAll_from {bs : List Bat} {j : Nat} {b : Bat} (h : bs[j]? = some b) : (bytesAll bs).drop (bytesAll (bs.take j)).length = bytesB b ++ bytesAll (bs.drop (j + 1)) := by
  obtain ⟨hj, e⟩ := List.getElem?_eq_some_iff.1 h
  have h1 : bytesAll bs = bytesAll (bs.take j) ++ bytesAll (bs.drop j) := by rw [← bytesAll_app, List.take_append_drop]
  rw [h1, List.drop_left, List.drop_eq_getElem_cons hj, e]
  rfl
theorem bytesAll_all {bs : List Bat} (h : RowOk bs) : AllB (bytesAll bs) := by
  intro x hx
  obtain ⟨b, hb, hxb⟩ := List.mem_flatMap.1 hx
  exact bytes_all (ok_of (h b hb).1) x hxb
theorem bytesAll_len {bs : List Bat} (h : RowOk bs) : (bytesAll bs).length ≤ 2404 * bs.length := by
  induction bs with
  | nil => simp [bytesAll]
  | cons b l ih =>
    have h1 := ih (fun x hx => h x (List.mem_cons_of_mem _ hx))
    have h2 := (ok_len (ok_of (h b (List.mem_cons_self ..)).1)).1
    show (bytesB b ++ bytesAll l).length ≤ _
    rw [List.length_append, List.length_cons]
    omega
theorem rowOk_take {bs : List Bat} (h : RowOk bs) (j : Nat) : RowOk (bs.take j) := fun b hb => h b (List.mem_of_mem_take hb)
theorem byt_row {w : World} {ad : Option Addr} {len cap : Nat} {l : List Nat} (h : RowAt byteK w ad len cap l) (ha : AllB l) : Byt w ad len cap l := by
  have hl := h.length
  refine ⟨hl, h.fits, ha, ?_⟩
  rcases h.cells with h0 | ⟨b, off, e, hlt, hc⟩
  · exact .inl h0
  · refine .inr ⟨b, off, e, fun i hi => ?_⟩
    have hx : l[i]? = some (l[i]'(by omega)) := List.getElem?_eq_getElem (by omega)
    have := hc i _ hx 0 (.int .u8 (l[i]'(by omega) : Nat)) rfl
    rw [List.getD_eq_getElem?_getD, hx]
    rw [show off + (i * byteK.size + 0) = off + i by show off + (i * 1 + 0) = _; omega] at this
    exact this
set_option maxRecDepth 100000 in
set_option maxHeartbeats 8000000 in
theorem rows_any (w : World) (tad : Option Addr) (tlen tcap : Nat) (zs : List Int) (h : Nums w tad tlen zs) (hL : tlen ≤ 140737488355328) (n : Int) (hn : -9223372036854775808 ≤ n ∧ n ≤ 9223372036854775807) :
    Calls Try.prog 6 #[.slice tad tlen tcap, .int .i64 n] w fun e w' => e = .returned (.bool true) ∧ Below w.heap.size w w' := by
  have HN := Lib.hid h
  clear h
  go_enter Try.func6, Try.ntmps6
  go_wp2_with fail
  refine (within_any n 12 w hn (by omega)).mono ?_
  rintro e w0 ⟨k, rfl, hk, rfl⟩
  have hk12 : k ≤ 12 := by omega
  clear hk hn
  go_wp2_with fail
  refine (row_any w tad tlen tcap zs HN.out hL 9 (by omega) (by omega) k (by omega)).mono ?_
  rintro e w1 ⟨ad, len, cap, ms, rfl, HBT, HRD, hlm, HB1⟩
  have hlen := HBT.out.row.length
  obtain ⟨bs, hbs⟩ : ∃ bs, bs = bats ms := ⟨_, rfl⟩
  have hbl : bs.length = len := by rw [hbs]; unfold bats; rw [List.length_map]; exact hlen
  have HGET : Hid (∀ (i : Nat) m, ms[i]? = some m → bs[i]? = some m.b) := by
    intro i m hm
    rw [hbs]; unfold bats
    rw [List.getElem?_map, hm]; rfl
  have HOK : Hid (RowOk bs) := by show RowOk _; rw [hbs]; exact rowD_ok HRD.out
  have hl12 : len ≤ 12 := by omega
  clear hbs HRD HN hlen hlm hk12
  go_wp2
  go_loopw [6, 23] (fun v6 v23 wr => ∃ (j : Nat) (u : Value), u = v6 ∧ v23 = .int .i64 (j : Int) ∧ j ≤ len ∧ OwnRow byteK wr w1.heap.size u (bytesAll (bs.take j)) ∧ Below w1.heap.size w1 wr) (fun _ v23 _ => len - (intOf v23).toNat)
  case atStart => exact ⟨0, _, rfl, rfl, Nat.zero_le _, ownRow_nil _ _ _, Below.refl _ _⟩
  case round =>
    obtain ⟨j, u, rfl, rfl, hj, hown, hbel⟩ := hrel
    have HO := Lib.hid hown
    have HB := Lib.hid hbel
    clear hown hbel
    obtain ⟨wo, hwo⟩ : ∃ wo : World, wo = wr := ⟨_, rfl⟩
    subst hwo
    by_cases hlt : j < len
    · have hd : decide (j < len) = true := decide_eq_true hlt
      have hjl : (j : Int) < (len : Int) := by omega
      obtain ⟨bk, off, m, rfl, hbk, hm, hrec, c0, c1, c2, c3, c4, c5, c6⟩ := (HBT.out.keep HB.out).get hlt
      have hbm := HGET.out j m hm
      obtain ⟨hr0, hrw⟩ := HOK.out m.b (List.mem_of_getElem? hbm)
      have hob := ok_of hr0
      obtain ⟨N, hN⟩ : ∃ N, (bytesB m.b).length = N := ⟨_, rfl⟩
      have hNl : N ≤ 2404 := by rw [← hN]; exact (ok_len hob).1
      have hsz : sizeB m.b = (N : Int) := by unfold sizeB; rw [if_pos hr0, hN]
      have h16 := hob.recs
      have HTX := Lib.hid (texts_of hob.texts)
      have HAB := Lib.hid (bytes_all hob)
      have HNX := Lib.hid (bytesAll_next hbm)
      have hal := bytesAll_len (rowOk_take HOK.out j)
      rw [List.length_take] at hal
      have HR0 := Lib.hid hr0
      have HRW := Lib.hid hrw
      have HNN := Lib.hid hN
      have HSZ := Lib.hid hsz
      have HRC := Lib.hid hrec
      clear hbm hr0 hrw hob hN hsz hm hrec hbk
      go_upto_region 6 with fail
      obtain ⟨W1, hW1⟩ : ∃ W1, W1 = wo.alloc (.cells #[.int .i64 m.b.base, .int .i64 m.b.prod, .int .i64 m.b.epoch, .int .i64 m.b.seq, .bool m.b.txn, .int .i64 m.b.marker, .slice m.ad m.b.recs.length m.cap] 24) := ⟨_, rfl⟩
      have hb1 : Below wo.heap.size wo W1 := by rw [hW1]; exact (Below.refl _ _).alloc (Nat.le_refl _) _
      obtain ⟨K, hK⟩ : ∃ K, K = wo.heap.size := ⟨_, rfl⟩
      have HX1 : Hid (BoxAt W1 K m.b.base m.b.prod m.b.epoch m.b.seq m.b.txn m.b.marker (.slice m.ad m.b.recs.length m.cap)) := by show BoxAt _ _ _ _ _ _ _ _ _; rw [hW1, hK]; exact boxAt_new wo _ _ _ _ _ _ _
      have HRC1 := Lib.hid (HRC.out.keep hb1)
      have HO1 := Lib.hid (HO.out.on hb1)
      have HBo := Lib.hid (HB.out.trans (hb1.mono HB.out.size))
      rw [← hW1, ← hK]
      clear hW1 hK hb1 c0 c1 c2 c3 c4 c5 c6 HB HO HRC
      have p0 := HX1.out.c0
      have p1 := HX1.out.c1
      have p2 := HX1.out.c2
      have p3 := HX1.out.c3
      have p4 := HX1.out.c4
      have p5 := HX1.out.c5
      have p6 := HX1.out.c6
      go_wp2_with fail
      refine (bytes_right W1 m.b m.ad m.b.recs.length m.cap N HRC1.out HR0.out HRW.out HNN.out).mono ?_
      rintro e w2 ⟨g2, c2, rfl, HP2, HG2, hb2⟩
      have HX2 := Lib.hid (HX1.out.on hb2.out)
      have HRC2 := Lib.hid (HRC1.out.keep hb2.out)
      have HO2 := Lib.hid (HO1.out.on hb2.out)
      have HB2 := Lib.hid (HBo.out.trans (hb2.out.mono HBo.out.size))
      clear hb2 HX1 HRC1 HO1 HBo p0 p1 p2 p3 p4 p5 p6
      have p0 := HX2.out.c0
      have p1 := HX2.out.c1
      have p2 := HX2.out.c2
      have p3 := HX2.out.c3
      have p4 := HX2.out.c4
      have p5 := HX2.out.c5
      have p6 := HX2.out.c6
      go_wp2_with fail
      have CS := batSize_any w2 m.b m.ad m.b.recs.length m.cap HRC2.out HTX.out (by omega)
      rw [HSZ.out] at CS
      refine CS.mono ?_
      clear CS
      rintro e w3 ⟨rfl, hb3⟩
      have HO3 := Lib.hid (HO2.out.on hb3)
      have HB3 := Lib.hid (HB2.out.trans (hb3.mono HB2.out.size))
      have HP3 := Lib.hid (row_bytes (HP2.out.keep hb3 (Nat.le_refl _)))
      clear hb3 HX2 HRC2 HO2 HB2 HP2 HG2 p0 p1 p2 p3 p4 p5 p6
      go_wp2_with (at_builtin; refine list_row (by rfl) byteK_ok (.tmp 41) (.tmp 42) rfl w1.heap.size (bytesAll (bs.take j)) (bytesB m.b) _ rfl HO3.out HB3.out.size (some ⟨g2, 0, none⟩) N c2 rfl HP3.out (by omega) ?_)
      intro v4 w4 hap
      have HO4 : Hid (OwnRow byteK w4 w1.heap.size v4 (bytesAll (bs.take (j + 1)))) := by show OwnRow _ _ _ _ _; rw [HNX.out]; exact hap.1
      have HB4 : Hid (Below w1.heap.size w1 w4) := HB3.out.grown hap.2.1 HB3.out.size fun q hq => (HO3.out.lt q hq).1
      clear hap HO3 HB3 HP3
      go_wp2
      go_roundw
      case rel => exact ⟨j + 1, _, rfl, by go_num, by omega, HO4.out, HB4.out⟩
      case measure => simp [intOf]; omega
    · have hd : decide (j < len) = false := decide_eq_false hlt
      have htk : bs.take j = bs := List.take_of_length_le (by omega)
      have hal := bytesAll_len HOK.out
      obtain ⟨N, hN⟩ : ∃ N, (bytesAll bs).length = N := ⟨_, rfl⟩
      rw [hN, hbl] at hal
      have hob : OwnRow byteK wo w1.heap.size u (bytesAll bs) := by have := HO.out; rw [htk] at this; exact this
      obtain ⟨pad, pcap, hu, hpr, _⟩ := OwnRow.row byteK_ok hob hN
      subst hu
      have HPR := Lib.hid hpr
      have HNN := Lib.hid hN
      have HBW := Lib.hid (HB1.out.trans (HB.out.mono HB1.out.size))
      clear htk hob hpr hN HO
      go_wp2
      go_loopw [11, 47] (fun v11 v47 wr => ∃ j : Nat, v11 = .int .i64 ((bytesAll (bs.take j)).length : Int) ∧ v47 = .int .i64 (j : Int) ∧ j ≤ len ∧ Below wo.heap.size wo wr) (fun _ v47 _ => len - (intOf v47).toNat)
      case atStart => exact ⟨0, rfl, rfl, Nat.zero_le _, Below.refl _ _⟩
      case round =>
        obtain ⟨i, rfl, rfl, hi, hbel⟩ := hrel
        have HC := Lib.hid hbel
        clear hbel
        obtain ⟨wp, hwp⟩ : ∃ wp : World, wp = wr := ⟨_, rfl⟩
        subst hwp
        obtain ⟨at_, hat⟩ : ∃ a, (bytesAll (bs.take i)).length = a := ⟨_, rfl⟩
        rw [hat]
        by_cases hlt2 : i < len
        · have hd2 : decide (i < len) = true := decide_eq_true hlt2
          have hil : (i : Int) < (len : Int) := by omega
          obtain ⟨bk, off, m, rfl, hbk, hm, hrec, c0, c1, c2, c3, c4, c5, c6⟩ := (HBT.out.keep (HB.out.trans (HC.out.mono HB.out.size))).get hlt2
          have hbm := HGET.out i m hm
          obtain ⟨hr0, hrw⟩ := HOK.out m.b (List.mem_of_getElem? hbm)
          have hob := ok_of hr0
          obtain ⟨k, hk⟩ : ∃ k, (bytesB m.b).length = k := ⟨_, rfl⟩
          have hkl : k ≤ 2404 := by rw [← hk]; exact (ok_len hob).1
          have hsz : sizeB m.b = (k : Int) := by unfold sizeB; rw [if_pos hr0, hk]
          have h16 := hob.recs
          have HTX := Lib.hid (texts_of hob.texts)
          have hdrop := bytesAll_from hbm
          rw [hat] at hdrop
          have hnx := bytesAll_next hbm
          have HNX : Hid ((bytesAll (bs.take (i + 1))).length = at_ + k) := by show _ = _; rw [hnx, List.length_append, hat, hk]
          have hle : at_ + k ≤ N := by
            have h1 := congrArg List.length hdrop
            rw [List.length_drop, List.length_append, hk, HNN.out] at h1
            have h2 : 0 < k := by rw [← hk]; have := (ok_len hob).2; omega
            omega
          obtain ⟨fd, fc, hfr, hfrow, _⟩ := row_from byteK_ok (HPR.out.keep HC.out) at_ (by omega)
          have hfr : ∀ W, (Instr.slice 34 (.slice pad N pcap) (some (.int .i64 (at_ : Int))) none none).run Try.prog W = .ok (.slice fd (N - at_) fc) W := hfr
          rw [hdrop] at hfrow
          have hba : AllB (bytesB m.b ++ bytesAll (bs.drop (i + 1))) := all_append (bytes_all hob) (bytesAll_all fun b hb => HOK.out b (List.mem_of_mem_drop hb))
          have HFB := Lib.hid (byt_row hfrow hba)
          have HGD := Lib.hid (good_of hr0 hrw (bytesAll (bs.drop (i + 1))))
          have HSZ := Lib.hid hsz
          have HKK := Lib.hid hk
          have HRC := Lib.hid hrec
          clear hbm hr0 hrw hob hk hsz hm hrec hbk hdrop hnx hfrow hba hat
          go_upto_region 15 with fail
          obtain ⟨W1, hW1⟩ : ∃ W1, W1 = wp.alloc (.cells #[.int .i64 m.b.base, .int .i64 m.b.prod, .int .i64 m.b.epoch, .int .i64 m.b.seq, .bool m.b.txn, .int .i64 m.b.marker, .slice m.ad m.b.recs.length m.cap] 24) := ⟨_, rfl⟩
          have hb1 : Below wp.heap.size wp W1 := by rw [hW1]; exact (Below.refl _ _).alloc (Nat.le_refl _) _
          obtain ⟨K, hK⟩ : ∃ K, K = wp.heap.size := ⟨_, rfl⟩
          have HX1 : Hid (BoxAt W1 K m.b.base m.b.prod m.b.epoch m.b.seq m.b.txn m.b.marker (.slice m.ad m.b.recs.length m.cap)) := by show BoxAt _ _ _ _ _ _ _ _ _; rw [hW1, hK]; exact boxAt_new wp _ _ _ _ _ _ _
          have HRC1 := Lib.hid (HRC.out.keep hb1)
          have HFB1 := Lib.hid (HFB.out.keep hb1 (Nat.le_refl _))
          have HC1 := Lib.hid (HC.out.trans (hb1.mono HC.out.size))
          rw [← hW1, ← hK]
          clear hW1 hK hb1 c0 c1 c2 c3 c4 c5 c6 HRC HFB HC
          go_wp2_with fail
          refine (read_good W1 fd (N - at_) fc _ HFB1.out (by omega) m.b HGD.out m.b.recs.length k rfl HKK.out).mono ?_
          rintro e w5 ⟨ad5, cap5, rfl, hre5, _, hb5⟩
          have HX5 := Lib.hid (HX1.out.on hb5.out)
          have HRC5 := Lib.hid (HRC1.out.keep hb5.out)
          have HC5 := Lib.hid (HC1.out.trans (hb5.out.mono HC1.out.size))
          clear hb5 HX1 HRC1 HFB1 HC1 hfr
          go_upto_region 16 with fail
          obtain ⟨W6, hW6⟩ : ∃ W6, W6 = w5.alloc (.cells #[.int .i64 m.b.base, .int .i64 m.b.prod, .int .i64 m.b.epoch, .int .i64 m.b.seq, .bool m.b.txn, .int .i64 m.b.marker, .slice ad5 m.b.recs.length cap5] 24) := ⟨_, rfl⟩
          have hb6 : Below w5.heap.size w5 W6 := by rw [hW6]; exact (Below.refl _ _).alloc (Nat.le_refl _) _
          obtain ⟨Q, hQ⟩ : ∃ Q, Q = w5.heap.size := ⟨_, rfl⟩
          have HY6 : Hid (BoxAt W6 Q m.b.base m.b.prod m.b.epoch m.b.seq m.b.txn m.b.marker (.slice ad5 m.b.recs.length cap5)) := by show BoxAt _ _ _ _ _ _ _ _ _; rw [hW6, hQ]; exact boxAt_new w5 _ _ _ _ _ _ _
          have HX6 := Lib.hid (HX5.out.on hb6)
          have HRC6 := Lib.hid (HRC5.out.keep hb6)
          have HRE6 := Lib.hid (hre5.out.keep hb6)
          have HC6 := Lib.hid (HC5.out.trans (hb6.mono HC5.out.size))
          rw [← hW6, ← hQ]
          clear hW6 hb6 hQ HX5 HRC5 HC5 hre5
          have p0 := HX6.out.c0
          have p1 := HX6.out.c1
          have p2 := HX6.out.c2
          have p3 := HX6.out.c3
          have p4 := HX6.out.c4
          have p5 := HX6.out.c5
          have p6 := HX6.out.c6
          have y0 := HY6.out.c0
          have y1 := HY6.out.c1
          have y2 := HY6.out.c2
          have y3 := HY6.out.c3
          have y4 := HY6.out.c4
          have y5 := HY6.out.c5
          have y6 := HY6.out.c6
          go_wp2_with fail
          refine (refSame_any W6 m.b m.b m.ad ad5 m.b.recs.length m.b.recs.length m.cap cap5 HRC6.out HRE6.out (by omega) true (by simp)).mono ?_
          rintro e w7 ⟨rfl, hb7⟩
          have HX7 := Lib.hid (HX6.out.on hb7)
          have HRC7 := Lib.hid (HRC6.out.keep hb7)
          have HC7 := Lib.hid (HC6.out.trans (hb7.mono HC6.out.size))
          clear hb7 HX6 HY6 HRC6 HRE6 HC6 p0 p1 p2 p3 p4 p5 p6 y0 y1 y2 y3 y4 y5 y6
          have p0 := HX7.out.c0
          have p1 := HX7.out.c1
          have p2 := HX7.out.c2
          have p3 := HX7.out.c3
          have p4 := HX7.out.c4
          have p5 := HX7.out.c5
          have p6 := HX7.out.c6
          go_wp2_with fail
          have CS := batSize_any w7 m.b m.ad m.b.recs.length m.cap HRC7.out HTX.out (by omega)
          rw [HSZ.out] at CS
          refine CS.mono ?_
          clear CS
          rintro e w8 ⟨rfl, hb8⟩
          have HC8 := Lib.hid (HC7.out.trans (hb8.mono HC7.out.size))
          clear hb8 HX7 HRC7 HC7 p0 p1 p2 p3 p4 p5 p6
          go_wp2
          go_roundw
          case rel => exact ⟨i + 1, by rw [HNX.out]; go_num, by go_num, by omega, HC8.out⟩
          case measure => simp [intOf]; omega
        · have hd2 : decide (i < len) = false := decide_eq_false hlt2
          have hae : at_ = N := by rw [← hat, List.take_of_length_le (by omega), HNN.out]
          clear hat
          subst hae
          go_wp2_with fail
          refine (known_any wp).mono ?_
          rintro e w9 ⟨rfl, hb9⟩
          go_wp2
          go_ret
          exact ⟨rfl, HBW.out.trans ((HC.out.trans (hb9.mono HC.out.size)).mono HBW.out.size)⟩
end Go.Proofs.Ytlpmfhccfihnfaa
