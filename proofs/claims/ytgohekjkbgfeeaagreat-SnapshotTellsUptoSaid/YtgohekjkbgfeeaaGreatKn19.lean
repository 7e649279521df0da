/- Parts of a proof, merged: ModRow, TapeRow, SnNumbers. -/
import Derived.Test.YtgohekjkbgfeeaaGreatKn18
import Derived.Test.YtgohekjkbgfeeaaGreatKn2
import Derived.Test.YtgohekjkbgfeeaaGreatKn5
import Derived.Test.YtgohekjkbgfeeaaGreatKn17
namespace Go.Proofs.YtgohekjkbgfeeaaGreat
open Go.RowKit
open Go.SeqMath
open Go.ProdMath
open Go.BatMath hiding AllB take_all
set_option linter.unusedVariables false

theorem wf_right {b : Bat} (h : rightE b = 0) (hp : b.prod ≤ 9223372036854775807) : b.wf := by
 have := ok_of h
 exact ⟨⟨by have := this.base0; omega, by have := this.base1; omega⟩, ⟨by have := this.prod; omega, hp⟩, ⟨by have := this.epoch0; omega, by have := this.epoch1; omega⟩, ⟨by have := this.seq0; omega, by have := this.seq1; omega⟩, ⟨by have := this.marker0; omega, by have := this.marker1; omega⟩⟩
/-- What is laid behind a row that a partition may have leaves one. -/
def Grows (start : Int) (bs : List Bat) (r : (Int × Int) × List Bat) : Prop := RowD start r.2 ∧ r.2.length ≤ bs.length + 1
theorem put_grows {cap start : Int} {bs : List Bat} {b : Bat} (h : RowD start bs) (hb : b.base = endD start bs) (hp : b.prod ≤ 9223372036854775807) : Grows start bs (putD cap start bs b) := by
 have h0 : Grows start bs ((0, 0), bs) := ⟨h, by show bs.length ≤ _; omega⟩
 unfold putD
 split
 · exact h0
 · rename_i h1
   split
   · exact h0
   · rename_i h2
     split
     · exact h0
     · split
       · exact h0
       · rename_i h3 h4
         have hz : (tcheckD (foldP [] bs) b).2 = 0 := Classical.byContradiction fun h => h1 h
         exact ⟨RowD.snoc h hb (wf_right (tcheck_right hz) hp) hz (by omega) (by omega), by show (bs ++ [b]).length ≤ _; simp⟩
theorem produce_grows {cap start : Int} {bs : List Bat} {b : Bat} (h : RowD start bs) (hp : b.prod ≤ 9223372036854775807) : Grows start bs (produceD cap start bs b) := by
 have h0 : Grows start bs ((0, 0), bs) := ⟨h, by show bs.length ≤ _; omega⟩
 unfold produceD
 split
 · exact h0
 · split
   · exact h0
   · exact put_grows h rfl hp
theorem mark_grows {cap start : Int} {bs : List Bat} {p e m : Int} (h : RowD start bs) (hp : p ≤ 9223372036854775807) : Grows start bs (markD cap start bs p e m) := by
 have h0 : Grows start bs ((0, 0), bs) := ⟨h, by show bs.length ≤ _; omega⟩
 unfold markD
 split
 · exact h0
 · exact put_grows h rfl hp
def GivesRow2 (w : World) (start : Int) (most : Nat) (e : Ending) (w' : World) : Prop :=
 ∃ ad len cap ms, e = .returned (.slice ad len cap) ∧ Hid (BatsAt w' ad len cap ms) ∧ Hid (RowD start (bats ms)) ∧ len ≤ most ∧ Hid (Below w.heap.size w w')
/-- What stands ahead of each round. -/
def RowLoop (w : World) (start : Int) (tad : Option Addr) (tlen tcap most kt km : Nat) (wr : World) : Prop :=
 ∃ ad len cap ms, TapeT wr kt tad tlen tcap ∧ MOk wr km 1073741824 start ad len cap ms ∧ RowD start (bats ms) ∧ len ≤ most ∧ Below w.heap.size w wr
set_option maxRecDepth 100000 in
set_option maxHeartbeats 8000000 in
theorem row_any (w : World) (tad : Option Addr) (tlen tcap : Nat) (zs : List Int) (h : Nums w tad tlen zs) (hL : tlen ≤ 140737488355328) (start : Int) (hs0 : 0 ≤ start) (hs1 : start ≤ 1099511627776) (most : Nat) (hmost : most ≤ 10000) :
 Calls Tryz.prog 7 #[.slice tad tlen tcap, .int .i64 start, .int .i64 (most : Int)] w (GivesRow2 w start most) := by
 obtain ⟨W1, hW1⟩ : ∃ W1, W1 = w.alloc (.cells #[.slice tad tlen tcap, .int .i64 0] 67) := ⟨_, rfl⟩
 obtain ⟨W2, hW2⟩ : ∃ W2, W2 = W1.alloc (.cells #[.int .i64 1073741824, .int .i64 start, .slice none 0 0] 70) := ⟨_, rfl⟩
 have hb1 : Below w.heap.size w W1 := by rw [hW1]; exact (Below.refl _ _).alloc (Nat.le_refl _) _
 have hb2 : Below W1.heap.size W1 W2 := by rw [hW2]; exact (Below.refl _ _).alloc (Nat.le_refl _) _
 have ht1 : TapeAt W1 w.heap.size tad tlen tcap 0 := by rw [hW1]; exact tape_new h hL
 obtain ⟨kt, hkt⟩ : ∃ k, k = w.heap.size := ⟨_, rfl⟩
 obtain ⟨km, hkm⟩ : ∃ k, k = W1.heap.size := ⟨_, rfl⟩
 rw [← hkt] at ht1
 have hkk : kt < km := by rw [hkm]; exact ht1.lt
 have hktw : w.heap.size ≤ kt := by omega
 have hkmw : w.heap.size ≤ km := by omega
 have HT2 : Hid (TapeAt W2 kt tad tlen tcap 0) := ht1.on hb2
 have HM2 : Hid (MOk W2 km 1073741824 start none 0 0 []) := by
  show MOk _ _ _ _ _ _ _ _
  refine ⟨?_, ⟨rowAt_nil _, (fun m hm => by cases hm)⟩, (fun a ha => by cases ha), (fun m hm => by cases hm)⟩
  show W2.heap[km]? = _
  rw [hW2, hkm]
  exact heap_alloc_new W1 _
 have HB2 := Lib.hid (hb1.trans (hb2.mono hb1.size))
 have HW1 := Lib.hid hW1
 have HW2 := Lib.hid hW2
 have HK1 := Lib.hid hkt
 have HK2 := Lib.hid hkm
 clear hb1 hb2 ht1 hW1 hW2 hkt hkm
 go_enter Tryz.func7, Tryz.ntmps7
 go_upto_region 3 with fail
 have hsz : w.heap.size + 1 = km := by rw [HK2.out, HW1.out]; simp
 try rw [hsz]
 rw [← HW1.out, ← HW2.out, ← HK1.out]
 try rw [← HK2.out]
 clear hsz HW1 HW2 HK1 HK2
 go_wp2
 go_loopw [9] (fun v9 wr => ∃ i : Nat, v9 = .int .i64 (i : Int) ∧ i ≤ 4 * most ∧ RowLoop w start tad tlen tcap most kt km wr) (fun v9 _ => 4 * most - (intOf v9).toNat)
 case atStart => exact ⟨0, rfl, Nat.zero_le _, none, 0, 0, [], ⟨0, HT2.out⟩, HM2.out, RowD.nil, Nat.zero_le _, HB2.out⟩
 case round =>
  obtain ⟨i, rfl, hi, ad, len, cap, ms, ht, hm, hrow, hlm, hbel⟩ := hrel
  obtain ⟨ix, htx⟩ := ht
  have HT := Lib.hid htx
  have HM := Lib.hid hm
  have HR := Lib.hid hrow
  have HB := Lib.hid hbel
  clear htx hm hrow hbel HT2 HM2 HB2
  obtain ⟨wo, hwo⟩ : ∃ wo : World, wo = wr := ⟨_, rfl⟩
  subst hwo
  have t1 := HT.out.c1
  have m2 := HM.out.box.c2
  by_cases hgo : i < 4 * most ∧ len < most ∧ ix < tlen
  · obtain ⟨hg1, hg2, hg3⟩ := hgo
    have hd1 : decide ((i : Int) < 4 * (most : Int)) = true := decide_eq_true (by omega)
    have hd2 : decide (len < most) = true := decide_eq_true hg2
    have hd3 : decide (ix < tlen) = true := decide_eq_true hg3
    go_wp2_with fail
    refine (ask_any wo kt tad tlen tcap ix HT.out km 1073741824 start ad len cap ms HM.out hkk (by omega) (rowD_ok HR.out)).mono ?_
    rintro e w3 ⟨b0, b1, b2, b3, b4, b5, recs, rd, rc, rfl, HP, HTX, HN, HRE3, HT3, HG3⟩
    have HM3 := Lib.hid (HM.out.grown HG3.out (by omega) (fun a ha e => by have := (HM.out.row a ha).1; omega) (fun m hm a ha e => by have := (HM.out.ins m hm a ha).1; omega))
    have HB3 : Hid (Below w.heap.size w w3) := HB.out.trans (below_grown HG3.out hktw HB.out.size)
    clear HT HM HB HG3 t1 m2
    go_upto_region 7 with fail
    obtain ⟨w4, hw4⟩ : ∃ w4, w4 = w3.alloc (.cells #[.int .i64 b0, .int .i64 b1, .int .i64 b2, .int .i64 b3, .bool b4, .int .i64 b5, .slice rd recs.length rc] 56) := ⟨_, rfl⟩
    have hb4 : Below w3.heap.size w3 w4 := by rw [hw4]; exact (Below.refl _ _).alloc (Nat.le_refl _) _
    obtain ⟨X, hX⟩ : ∃ X, X = w3.heap.size := ⟨_, rfl⟩
    have HX4 : Hid (BoxAt w4 X b0 b1 b2 b3 b4 b5 (.slice rd recs.length rc)) := by show BoxAt _ _ _ _ _ _ _ _ _; rw [hw4, hX]; exact boxAt_new w3 _ _ _ _ _ _ _
    have HM4 := Lib.hid (HM3.out.keep hb4)
    have HRE4 := Lib.hid (HRE3.out.keep hb4)
    have HB4 := Lib.hid (HB3.out.trans (hb4.mono HB3.out.size))
    obtain ⟨i4, ht4⟩ := HT3.out
    have HT4 : Hid (TapeAt w4 kt tad tlen tcap i4) := ht4.on hb4
    have hend := rowD_end HR.out hs0 hs1
    rw [← hw4, ← hX]
    clear hw4 hb4 hX ht4 HT3 HM3 HRE3 HB3
    have p0 := HX4.out.c0
    have p1 := HX4.out.c1
    have p2 := HX4.out.c2
    have p3 := HX4.out.c3
    have p4 := HX4.out.c4
    have p5 := HX4.out.c5
    have p6 := HX4.out.c6
    by_cases hmk : b5 = 0
    · have hd5 : (b5 == 0) = true := by rw [hmk]; rfl
      have hd5n : (b5 != 0) = false := by rw [hmk]; rfl
      clear hmk
      go_wp2_with fail
      refine (produce_any w4 km 1073741824 start ad len cap ms HM4.out (by omega) (rowD_ok HR.out) (by omega) b0 b1 b2 b3 b4 b5 recs rd rc HRE4.out HTX.out (by have := HN.out; omega) HP.out _ rfl).mono ?_
      rintro e w5 ⟨ad5, len5, cap5, ms5, rfl, hm5, hbs5, hg5⟩
      have hgr := produce_grows (cap := 1073741824) (b := ⟨b0, b1, b2, b3, b4, b5, recs⟩) HR.out HP.out
      have HR5 : Hid (RowD start (bats ms5)) := by show RowD _ _; rw [hbs5]; exact hgr.1
      have hl5 : len5 ≤ most := by
       have h1 := hgr.2
       rw [← hbs5] at h1
       unfold bats at h1
       rw [List.length_map, List.length_map] at h1
       have h2 := hm5.bats.row.length
       have h3 := HM4.out.bats.row.length
       omega
      have HM5 := Lib.hid hm5
      have HT5 : Hid (TapeT w5 kt tad tlen tcap) := ⟨i4, HT4.out.grow hg5 (fun k hk => by cases hk; exact hkk)⟩
      have HB5 : Hid (Below w.heap.size w w5) := HB4.out.trans (below_grown hg5 hkmw HB4.out.size)
      clear hm5 hbs5 hg5 hgr p0 p1 p2 p3 p4 p5 p6
      go_wp2
      go_roundw
      case rel => exact ⟨i + 1, by go_num, by omega, ad5, len5, cap5, ms5, HT5.out, HM5.out, HR5.out, hl5, HB5.out⟩
      case measure => simp [intOf]; omega
    · have hd5 : (b5 == 0) = false := beq_false_of_ne hmk
      have hd5n : (b5 != 0) = true := by unfold bne; rw [hd5]; rfl
      clear hmk
      go_wp2_with fail
      refine (mark_any w4 km 1073741824 start ad len cap ms HM4.out (by omega) (rowD_ok HR.out) (by omega) b1 b2 b5 HP.out _ rfl).mono ?_
      rintro e w5 ⟨ad5, len5, cap5, ms5, rfl, hm5, hbs5, hg5⟩
      have hgr := mark_grows (cap := 1073741824) (p := b1) (e := b2) (m := b5) HR.out HP.out
      have HR5 : Hid (RowD start (bats ms5)) := by show RowD _ _; rw [hbs5]; exact hgr.1
      have hl5 : len5 ≤ most := by
       have h1 := hgr.2
       rw [← hbs5] at h1
       unfold bats at h1
       rw [List.length_map, List.length_map] at h1
       have h2 := hm5.bats.row.length
       have h3 := HM4.out.bats.row.length
       omega
      have HM5 := Lib.hid hm5
      have HT5 : Hid (TapeT w5 kt tad tlen tcap) := ⟨i4, HT4.out.grow hg5 (fun k hk => by cases hk; exact hkk)⟩
      have HB5 : Hid (Below w.heap.size w w5) := HB4.out.trans (below_grown hg5 hkmw HB4.out.size)
      clear hm5 hbs5 hg5 hgr p0 p1 p2 p3 p4 p5 p6
      go_wp2
      go_roundw
      case rel => exact ⟨i + 1, by go_num, by omega, ad5, len5, cap5, ms5, HT5.out, HM5.out, HR5.out, hl5, HB5.out⟩
      case measure => simp [intOf]; omega
  · by_cases hg1 : i < 4 * most
    · have hd1 : decide ((i : Int) < 4 * (most : Int)) = true := decide_eq_true (by omega)
      by_cases hg2 : len < most
      · have hd2 : decide (len < most) = true := decide_eq_true hg2
        have hd3 : decide (ix < tlen) = false := decide_eq_false (fun h => hgo ⟨hg1, hg2, h⟩)
        go_wp2
        go_ret
        exact ⟨ad, len, cap, ms, rfl, HM.out.bats, HR.out, hlm, HB.out⟩
      · have hd2 : decide (len < most) = false := decide_eq_false hg2
        go_wp2
        go_ret
        exact ⟨ad, len, cap, ms, rfl, HM.out.bats, HR.out, hlm, HB.out⟩
    · have hd1 : decide ((i : Int) < 4 * (most : Int)) = false := decide_eq_false (by omega)
      go_wp2
      go_ret
      exact ⟨ad, len, cap, ms, rfl, HM.out.bats, HR.out, hlm, HB.out⟩
end Go.Proofs.YtgohekjkbgfeeaaGreat
namespace Go.Proofs.YtgohekjkbgfeeaaGreat
open Go.RowKit
set_option linter.unusedVariables false

theorem infoInt : (Tryz.prog.info? 3).map (fun i => (i.zero, i.size, i.bytes)) = some (some (.int .i64 0), 1, 8) := by kernel_rfl
def intK : Kind Int := ⟨fun n => [.int .i64 n], 1, 3, 24⟩
theorem intK_ok : intK.Ok 8 where
 und := Tryz.underlying24
 info := by
  obtain ⟨i, hi, hz, hs, hb⟩ := info_parts infoInt
  exact ⟨i, _, hi, hz, hs, hb, rfl⟩
 len := fun _ => rfl
 pos := by decide
 one := fun r u hu => by
  obtain rfl := List.mem_singleton.1 hu
  rfl
 few := by decide
theorem nums_of {w : World} {ad : Option Addr} {len cap : Nat} {l : List Int} (h : RowAt intK w ad len cap l) (ha : ∀ n ∈ l, In64 n) : Nums w ad len l := by
 refine ⟨h.length, ha, ?_⟩
 rcases h.cells with h0 | ⟨b, off, e, _, hc⟩
 · exact .inl h0
 · refine .inr ⟨b, off, e, fun i hi => ?_⟩
   have hl := h.length
   have hx : l[i]? = some (l[i]'(by omega)) := List.getElem?_eq_getElem (by omega)
   have := hc i _ hx 0 (.int .i64 (l[i]'(by omega))) rfl
   rw [List.getD_eq_getElem?_getD, hx]
   show w.cell? ⟨b, off + i, none⟩ = _
   have e2 : off + (i * intK.size + 0) = off + i := by show off + (i * 1 + 0) = _; omega
   rw [e2] at this
   exact this
def TapeLoop (w : World) (v3 v4 : Value) (wr : World) : Prop :=
 ∃ (zs : List Int) (i : Nat) (u : Value), u = v3 ∧ v4 = .int .i64 (i : Int) ∧ i ≤ 400 ∧ zs.length = i ∧ (∀ z ∈ zs, In64 z) ∧ OwnRow intK wr w.heap.size u zs ∧ Below w.heap.size w wr
theorem tmod_in (x m z : Int) (hm : 0 < m ∧ m < 1000000) (h : x.tmod m = z) : In64 z := by
 have h1 : z < m := by rw [← h]; exact Int.tmod_lt_of_pos x hm.1
 have h2 : -z < m := by rw [← h, ← Int.neg_tmod]; exact Int.tmod_lt_of_pos (-x) hm.1
 exact ⟨by omega, by omega⟩
end Go.Proofs.YtgohekjkbgfeeaaGreat
namespace Go.Proofs.YtgohekjkbgfeeaaGreat
open Go.RowKit
open Go.SnapMath
open Go.ProdMath
open Go.BatMath hiding AllB take_all
set_option linter.unusedVariables false

set_option maxRecDepth 100000 in
theorem snTape_any (w : World) (k : Nat) (hk : k ≤ 60) :
 Calls Tryz.prog 8 #[.int .i64 (k : Int)] w fun e w' => ∃ ad cap zs, e = .returned (.slice ad 400 cap) ∧ Hid (Nums w' ad 400 zs) ∧ Hid (Below w.heap.size w w') := by
 go_enter Tryz.func8, Tryz.ntmps8
 go_wp2
 go_loopw [3, 4] (fun v3 v4 wr => TapeLoop w v3 v4 wr) (fun _ v4 _ => (400 - intOf v4).toNat)
 case atStart => exact ⟨[], 0, _, rfl, rfl, by omega, rfl, (fun z hz => by cases hz), ownRow_nil _ _ _, Below.refl _ _⟩
 case round =>
  obtain ⟨zs, i, u, rfl, rfl, hi, hl, ha, hown, hbel⟩ := hrel
  have HL := Lib.hid hl
  have HA := Lib.hid ha
  have HO := Lib.hid hown
  have HB := Lib.hid hbel
  clear hl ha hown hbel
  by_cases hlt : i < 400
  · have hd : decide ((i : Int) < 400) = true := by simp; omega
    obtain ⟨x, hx⟩ : ∃ x, wrap64 (wrap64 (wrap64 (wrap64 ((i : Int) * i) * 7) + (k : Int) * 41) + wrap64 ((i : Int) * k)) = x := ⟨_, rfl⟩
    obtain ⟨z, hz⟩ : ∃ z, x.tmod 211 = z := ⟨_, rfl⟩
    have hz64 := tmod_in x 211 z (by omega) hz
    obtain ⟨wo, rfl⟩ : ∃ wo : World, wo = wr := ⟨_, rfl⟩
    have HBA : Hid (Below w.heap.size w (wo.alloc (.cells #[.int .i64 z] 3))) := HB.out.alloc HB.out.size _
    have HRW : Hid (RowAt intK (wo.alloc (.cells #[.int .i64 z] 3)) (some ⟨wo.heap.size, 0, none⟩) 1 1 [z]) := rowAt_lit intK_ok wo [z] (by simp) _ rfl 1 rfl
    go_wp2_with (at_builtin; refine list_row (by rfl) intK_ok (.tmp 9) (.tmp 22) rfl w.heap.size zs [z] _ rfl (HO.out.alloc _) HBA.out.size (some ⟨wo.heap.size, 0, none⟩) 1 1 rfl HRW.out (by have := HL.out; omega) ?_)
    intro v' w' hap
    have HO2 := Lib.hid hap.1
    have HB2 : Hid (Below w.heap.size w w') := HBA.out.grown hap.2.1 HBA.out.size fun q hq => (HO.out.lt q hq).1
    have HL2 : Hid ((zs ++ [z]).length = i + 1) := by show _ = _; rw [List.length_append, HL.out]; rfl
    have HA2 : Hid (∀ y ∈ zs ++ [z], In64 y) := by
     intro y hy
     rcases List.mem_append.1 hy with hy | hy
     · exact HA.out y hy
     · rw [List.mem_singleton.1 hy]; exact hz64
    clear hap hx hz
    go_wp2
    go_roundw
    case rel => exact ⟨zs ++ [z], i + 1, _, rfl, by go_num, by omega, HL2.out, HA2.out, HO2.out, HB2.out⟩
    case measure => simp [intOf]; omega
  · have hd : decide ((i : Int) < 400) = false := by simp; omega
    go_wp2
    go_ret
    obtain ⟨ad, cap, rfl, hr, _⟩ := HO.out.at intK_ok
    have hl := HL.out
    obtain rfl : i = 400 := by omega
    rw [hl] at hr
    rw [hl]
    exact ⟨ad, cap, zs, rfl, nums_of hr HA.out, HB.out⟩
theorem rowDoes_any (w : World) (tad : Option Addr) (tlen tcap : Nat) (zs : List Int) (h : Nums w tad tlen zs) (hL : tlen ≤ 140737488355328) (most : Nat) (hm : most ≤ 10000) :
 Calls Tryz.prog 7 #[.slice tad tlen tcap, .int .i64 0, .int .i64 (most : Int)] w (RowDoes w 0 most) := by
 refine (row_any w tad tlen tcap zs h hL 0 (by decide) (by decide) most hm).mono ?_
 rintro e w2 ⟨ad, len, cap, ms, rfl, HBA, HRD, hlen, hb2⟩
 exact ⟨ad, len, cap, ms, rfl, HBA.out, batsOk_of (rowD_ok HRD.out), HRD.out, hlen, hb2.out⟩
theorem row_mid {α : Type} {K : Kind α} {bytes : Nat} (hK : K.Ok bytes) {w : World} {ad : Option Addr} {len cap : Nat} {l : List α} (h : RowAt K w ad len cap l) (k m : Nat) (hkm : k ≤ m) (hm : m ≤ len) :
 ∃ ad' cap', (∀ W, (Instr.slice K.sl (.slice ad len cap) (some (.int .i64 (k : Int))) (some (.int .i64 (m : Int))) none).run Tryz.prog W = .ok (.slice ad' (m - k) cap') W) ∧ RowAt K w ad' (m - k) cap' ((l.take m).drop k) := by
 obtain ⟨ad', cap', hr, hrow, _⟩ := row_from hK (h.take m hm) k hkm
 refine ⟨ad', cap', fun W => ?_, hrow⟩
 rw [← hr W, run_slice_lh _ _ _ _ _ (by rw [hK.elem]; exact hK.und) _ _ _ _ (by omega) (by omega) (by have := h.fits; omega), run_slice_l _ _ _ _ _ (by rw [hK.elem]; exact hK.und) _ _ (by omega) (by omega), hK.sizeOf]
 simp only [Result.andThen, sliced, Int.toNat_natCast]
def nm3 : ByteArray := ⟨#[48, 48, 48, 48, 48, 48, 48, 48, 48, 48, 48, 48, 48, 48, 48, 48, 48, 48, 48, 51, 46, 115, 110, 97, 112, 115, 104, 111, 116]⟩
def nm12 : ByteArray := ⟨#[48, 48, 48, 48, 48, 48, 48, 48, 48, 48, 48, 48, 48, 48, 48, 48, 48, 48, 49, 50, 46, 115, 110, 97, 112, 115, 104, 111, 116]⟩
def nmX : ByteArray := ⟨#[120]⟩
def nm5 : ByteArray := ⟨#[48, 48, 48, 48, 48, 48, 48, 48, 48, 48, 48, 48, 48, 48, 48, 48, 48, 48, 48, 53, 46, 108, 111, 103]⟩
def nmS : ByteArray := ⟨#[55, 46, 115, 110, 97, 112, 115, 104, 111, 116]⟩
theorem six_one : [nm3, nm12, nm7, nmX, nm5, nmS].Pairwise (· ≠ ·) := by decide +kernel
theorem six_size : ∀ s ∈ [nm3, nm12, nm7, nmX, nm5, nmS], s.size ≤ 1073741824 := by decide +kernel
set_option maxRecDepth 100000 in
set_option maxHeartbeats 8000000 in
theorem snNumbers_any {T : World → Addr → List Pd → Prop} (C : SnapCode T) (K : ∀ W, Calls Tryz.prog 15 #[] W (GivesBool W true)) (w : World) :
 Calls Tryz.prog 3 #[] w (GivesBool w true) := by
 have HC := Lib.hid C
 have HK := Lib.hid K
 clear C K
 go_enter Tryz.func3, Tryz.ntmps3
 go_wp2
 go_loopw [1] (fun v1 wr => ∃ k : Nat, v1 = .int .i64 (k : Int) ∧ k ≤ 40 ∧ Hid (Below w.heap.size w wr)) (fun v1 _ => 40 - (intOf v1).toNat)
 case atStart => exact ⟨0, rfl, by omega, Below.refl _ _⟩
 case round =>
  obtain ⟨k, rfl, hk, HB⟩ := hrel
  obtain ⟨wo, hwo⟩ : ∃ wo : World, wo = wr := ⟨_, rfl⟩
  subst hwo
  by_cases hlt : k < 40
  · have hd1 : decide ((k : Int) < 40) = true := decide_eq_true (by omega)
    have hd1n : decide (k < 40) = true := decide_eq_true hlt
    go_wp2_with fail
    refine (snTape_any wo k (by omega)).mono ?_
    rintro e w1 ⟨tad, tcap, zs, rfl, hnum, hb1⟩
    have HNUM := Lib.hid hnum.out
    have HB1 := Lib.hid (HB.out.trans (hb1.out.mono HB.out.size))
    clear hnum hb1 HB
    go_wp2_with fail
    refine (rowDoes_any w1 tad 400 tcap zs HNUM.out (by omega) 20 (by decide)).mono ?_
    rintro e w2 ⟨ad, len, cap, ms, rfl, hba, hok, hrd, hlen, hb2⟩
    have hacc := row_acc hrd (by decide) (by decide)
    have hfl : (foldP [] (bats ms)).length ≤ 5000 := by
     have h1 := fold_len (bats ms) []
     have h2 : (bats ms).length = len := by unfold bats; rw [List.length_map]; exact hba.row.length
     rw [h2, List.length_nil] at h1
     omega
    obtain ⟨l, hl⟩ : ∃ l, foldP [] (bats ms) = l := ⟨_, rfl⟩
    rw [hl] at hacc hfl
    have HACC := Lib.hid hacc
    have HFL : Hid (l.length ≤ 5000) := hfl
    have HE := Lib.hid hl
    have HBA := Lib.hid hba
    have HOK := Lib.hid hok
    have HRD := Lib.hid hrd
    have HB2 := Lib.hid (HB1.out.trans (hb2.mono HB1.out.size))
    clear hba hok hrd hb2 hacc hfl hl HB1 HNUM
    obtain ⟨n, hn⟩ : ∃ n : Int, n = (k : Int) * 100 := ⟨_, rfl⟩
    have hn0 : 0 ≤ n ∧ n ≤ 1099511627776 := by omega
    have hmu : wrap64 ((k : Int) * 100) = n := by unfold wrap64; omega
    have hmu2 : IntKind.i64.wrap ((k : Int) * 100) = n := by rw [IntWalk.i64_in _ (by omega)]; exact hn.symm
    clear hn
    go_wp2_with fail
    refine (snSame_any HC.out w2 ad len cap ms HBA.out (by omega) HOK.out HRD.out (by decide) (by decide) n hn0.1 hn0.2).mono ?_
    rintro e w3 ⟨rfl, hb⟩
    have HBA3 := Lib.hid (HBA.out.keep hb)
    have HB3 := Lib.hid (HB2.out.trans (hb.mono HB2.out.size))
    clear hb HBA HB2 hmu hmu2 hn0
    go_wp2_with fail
    refine (fold_any w3 ad len cap ms HBA3.out (by omega) HOK.out).mono ?_
    rintro e w4 ⟨kt, fad, flen, fcap, ps, dd, dn, dc, rfl, htab, hps, _, _, hb2⟩
    rw [HE.out] at hps
    have HTAB := Lib.hid htab
    have HPS := Lib.hid hps
    have HB4 := Lib.hid (HB3.out.trans (hb2.mono HB3.out.size))
    clear htab hps hb2 HB3 HBA3
    have t0 := HTAB.out.tab.box.c0
    go_wp2_with fail
    refine (snBytes_any w4 fad flen fcap ps HTAB.out.tab.pds (by rw [HPS.out]; exact ⟨Nat.le_trans HFL.out (by omega), HACC.out.pdIn⟩) (by rw [HPS.out]; exact HACC.out.few) 5 ⟨by decide, by decide⟩).mono ?_
    rintro e w5 ⟨v, rfl, g, cg, rfl, hcg, hg, hpre, hb3⟩
    rw [HPS.out] at hpre hcg ⊢
    have hn64 : In64 5 := ⟨by decide, by decide⟩
    have hallB : CrcMath.AllB (bodyS l 5) := bodyS_all ⟨Nat.le_trans HFL.out (by omega), HACC.out.pdIn⟩ hn64
    have hsn : snapS l 5 = CrcMath.sealB (bodyS l 5) := rfl
    have hall : CrcMath.AllB (snapS l 5) := by rw [hsn]; exact CrcMath.sealB_all hallB
    have h6 := snap_long l hn64 HFL.out
    have hsz := snap_size HACC.out HFL.out hn64
    have hbd : (snapS l 5).drop 4 = bodyS l 5 := by rw [hsn]; exact CrcMath.drop_sealB _
    obtain ⟨bs, hbs⟩ : ∃ bs, bs = snapS l 5 := ⟨_, rfl⟩
    rw [← hbs] at hpre hcg hall h6 hsz hbd ⊢
    obtain ⟨B, hBB⟩ : ∃ B, B = bodyS l 5 := ⟨_, rfl⟩
    rw [← hBB] at hallB hbd
    obtain ⟨L, hL⟩ : ∃ L, bs.length = L := ⟨_, rfl⟩
    have hBL : B.length = L - 4 := by rw [← hbd, List.length_drop, hL]
    rw [hL] at hcg h6 hsz ⊢
    have hy : Byt w5 (some ⟨g, 0, none⟩) L cg bs := by
     have h1 := hpre.byt hall cg (by rw [hL]; exact hcg)
     rw [hL] at h1
     exact h1
    have HY := Lib.hid hy
    have HALL : Hid (CrcMath.AllB bs) := hall
    have HALB : Hid (CrcMath.AllB B) := hallB
    have HBL := Lib.hid hBL
    have HBD := Lib.hid hbd
    have HLL := Lib.hid hL
    have HB5 := Lib.hid (HB4.out.trans (hb3.mono HB4.out.size))
    have hsz2 : L ≤ 1048600 := hsz
    have hcg2 : L ≤ cg := hcg
    clear hpre hcg hg hbs hall hsn hallB hbd hL hBL hy hBB hb3 HB4 HTAB HPS t0 HE HACC HFL HOK HRD hsz
    go_wp2
    go_loopw [6] (fun v6 wr => ∃ i : Nat, v6 = .int .i64 (i : Int) ∧ i ≤ L ∧ Hid (Below w5.heap.size w5 wr)) (fun v6 _ => L - (intOf v6).toNat)
    case atStart => exact ⟨0, rfl, Nat.zero_le _, Below.refl _ _⟩
    case round =>
     obtain ⟨i, rfl, hi, HBI⟩ := hrel
     obtain ⟨wi, hwi⟩ : ∃ wi : World, wi = wr := ⟨_, rfl⟩
     subst hwi
     by_cases hgo : i < L ∧ k < 10
     · obtain ⟨hiL, hk10⟩ := hgo
       have hd2 : decide (i < L) = true := decide_eq_true hiL
       have hd3 : decide ((k : Int) < 10) = true := decide_eq_true (by omega)
       have hd4 : decide (k < 10) = true := decide_eq_true hk10
       have hYi := HY.out.keep HBI.out (Nat.le_refl _)
       have hrow3 : RowAt byteK wi (some ⟨g, 0, none⟩) L cg bs := row_bytes ⟨hYi, fun e => by cases e⟩
       obtain ⟨fa, fc, hsf, hfr, _⟩ := row_from byteK_ok hrow3 4 (by omega)
       rw [HBD.out] at hfr
       have HFR := Lib.hid hfr
       have HYI := Lib.hid hYi
       obtain ⟨m, hm⟩ : ∃ m, m = max 4 i := ⟨_, rfl⟩
       have hm4 : 4 ≤ m ∧ m ≤ L := by omega
       obtain ⟨pa, pc, hsp, hpr⟩ := row_mid byteK_ok hrow3 4 m hm4.1 hm4.2
       obtain ⟨M4, hM4⟩ : ∃ z, z = (bs.take m).drop 4 := ⟨_, rfl⟩
       rw [← hM4] at hpr
       have HPR := Lib.hid hpr
       have hsp2 : ∀ W, (Instr.slice 31 (.slice (some ⟨g, 0, none⟩) L cg) (some (.int .i64 4)) (some (.int .i64 (m : Int))) none).run Tryz.prog W = .ok (.slice pa (m - 4) pc) W := hsp
       have hmx : max (4 : Int) (i : Int) = (m : Int) := by omega
       have hmx2 : (if (4 : Int) < (i : Int) then (i : Int) else 4) = (m : Int) := by omega
       have hsf2 : ∀ W, (Instr.slice 31 (.slice (some ⟨g, 0, none⟩) L cg) (some (.int .i64 4)) none none).run Tryz.prog W = .ok (.slice fa (L - 4) fc) W := hsf
       have hsl := run_upto (some ⟨g, 0, none⟩) L cg i (by omega)
       have HU1 : Hid (Byt wi (some ⟨g, 0, none⟩) i cg (bs.take i)) := byt_upto HYI.out i (by omega)
       have HU1L : Hid ((bs.take i).length ≤ 1048600) := by show _ ≤ _; rw [List.length_take]; omega
       have HPB : Hid (CrcMath.AllB M4) := fun x hx => HALL.out x (by rw [hM4] at hx; exact List.mem_of_mem_take (List.mem_of_mem_drop hx))
       have HPL : Hid (M4.length ≤ 1048596) := by show _ ≤ _; rw [hM4, List.length_drop, List.length_take]; omega
       obtain ⟨W4, hW4⟩ : ∃ z, z = wi.alloc (.cells #[] 5) := ⟨_, rfl⟩
       have hb4 : Below wi.heap.size wi W4 := by rw [hW4]; exact (Below.refl _ _).alloc (Nat.le_refl _) _
       have HLIT : Hid (OwnRow byteK W4 wi.heap.size (.slice (some ⟨wi.heap.size, 0, none⟩) 0 0) []) := by
        show OwnRow _ _ _ _ _
        rw [hW4]
        exact ownRow_lit byteK_ok wi _ [] (Nat.le_refl _) (by decide) _ rfl 0 rfl
       have HFR4 := Lib.hid (HFR.out.keep hb4)
       have HBS4 : Hid (wi.heap.size ≤ W4.heap.size) := hb4.size
       have HW4 := Lib.hid hW4
       have HBW4 := Lib.hid hb4
       have hmxN : max 4 i = m := hm.symm
       have hmL : m ≤ L := hm4.2
       clear hb4 hW4 hYi hrow3 hsf hfr hpr hsp hm hM4
       go_wp2_with (at_builtin; rw [← HW4.out]; refine list_row (by rfl) byteK_ok (.tmp 43) (.tmp 45) rfl wi.heap.size [] B _ rfl HLIT.out HBS4.out fa (L - 4) fc rfl HFR4.out (by simp only [List.length_nil]; omega) ?_)
       intro v5 w7 hap
       (try rw [List.nil_append] at hap)
       obtain ⟨N, hN⟩ : ∃ N, N = L - 4 := ⟨_, rfl⟩
       have hN2 : 2 ≤ N := by omega
       have hNs : N ≤ 1048596 := by omega
       have HBN : Hid (B.length = N) := by show _ = _; rw [hN]; exact HBL.out
       obtain ⟨gx, cx, cur, rfl, _, hgx, _⟩ := OwnRow.block hap.1 HBN.out (by omega)
       have HO5 : Hid (w7.ownsRow wi.heap.size 5 1 (.slice (some ⟨gx, 0, none⟩) N cx) N (vals B)) := by
        have h1 := own_bytes.1 hap.1
        rw [HBN.out] at h1
        exact h1
       have HB7 : Hid (Below wi.heap.size wi w7) := appended_below hap HLIT.out HBW4.out (Nat.le_refl _) HBS4.out
       have HGX : Hid (wi.heap.size ≤ gx) := hgx
       clear hap hgx HLIT HFR HFR4 HBS4 HW4 HBW4 hN hsf2
       by_cases hin : i < N
       · have hd5 : decide (i < N) = true := decide_eq_true hin
         have hi0 : (0 : Int) ≤ (i : Int) := by omega
         have hi1 : (i : Int) < (N : Int) := by omega
         have c0 := (pre_owns HO5.out).1.cell i (by rw [HBN.out]; exact hin)
         have f0 := (pre_owns HO5.out).1.free i
         obtain ⟨b8, hb8⟩ : ∃ b8 : Nat, B.getD i 0 = b8 := ⟨_, rfl⟩
         rw [hb8] at c0
         obtain ⟨r, hr⟩ : ∃ r, r = k % 8 := ⟨_, rfl⟩
         have hrm : (k : Int) % 8 = (r : Int) := by omega
         have hrt : (k : Int).tmod 8 = (r : Int) := by rw [Int.tmod_eq_emod_of_nonneg (by omega)]; exact hrm
         have hr8 : r < 8 := by omega
         obtain ⟨z, hz8, hz⟩ := xor_some (b8 : Int) (2 ^ r % 256)
         clear hr hb8
         go_upto_region 15 with fail
         clear c0 f0 hi0 hi1
         obtain ⟨B', hB'⟩ : ∃ B', B' = B.set i z := ⟨_, rfl⟩
         have HAB' : Hid (CrcMath.AllB B') := by show CrcMath.AllB _; rw [hB']; exact all_set HALB.out i z hz8
         have hBl' : B'.length = N := by rw [hB', List.length_set]; exact HBN.out
         obtain ⟨wq, hwq⟩ : ∃ w3, w3 = w7.setCell ⟨gx, i, none⟩ (.int .u8 (z : Int)) := ⟨_, rfl⟩
         have HO6 : Hid (wq.ownsRow wi.heap.size 5 1 (.slice (some ⟨gx, 0, none⟩) N cx) N (vals B')) := by show World.ownsRow _ _ _ _ _ _ _; rw [hwq, hB']; exact own_turned HO5.out rfl
         have HBq : Hid (Below wi.heap.size wi wq) := by show Below _ _ _; rw [hwq]; exact HB7.out.setCell HGX.out _
         rw [← hwq]
         clear hwq hB' hz8 hz hrm hrt hr8
         have HBl' := Lib.hid hBl'
         have HXR : Hid (Byt wq (some ⟨gx, 0, none⟩) N cx B') := by
          have h1 := own_bytes.2 (show wq.ownsRow wi.heap.size 5 1 (.slice (some ⟨gx, 0, none⟩) N cx) B'.length (vals B') by rw [hBl']; exact HO6.out)
          obtain ⟨a9, c9, e9, hr9⟩ := own_byt h1 HAB'.out hBl'
          cases e9
          exact hr9.1
         have HU1q : Hid (Byt wq (some ⟨g, 0, none⟩) i cg (bs.take i)) := HU1.out.keep HBq.out (Nat.le_refl _)
         have HPRq := Lib.hid (HPR.out.keep HBq.out)
         have HBIq := Lib.hid (HBI.out.trans (HBq.out.mono HBI.out.size))
         clear hBl' HO5 HO6 HB7 HGX HBN HBq HBI HU1 HPR HYI
         go_wp2_with fail
         refine (snReads_any T HC.out.keep HC.out.all wq _ i cg _ HU1q.out HU1L.out (HC.out.read wq _ i cg _ HU1q.out HU1L.out)).mono ?_
         rintro e wa ⟨rfl, hb⟩
         have HXRa := Lib.hid (HXR.out.keep hb (Nat.le_refl _))
         have HPRa := Lib.hid (HPRq.out.keep hb)
         have HBIa := Lib.hid (HBIq.out.trans (hb.mono HBIq.out.size))
         clear hb HXR HU1q HU1L HPRq HBIq hsl
         go_wp2_with fail
         refine (sealed_any wa _ N cx B' HXRa.out (fun e => by cases e) (by omega)).mono ?_
         rintro e wb ⟨v, rfl, g1, c1, rfl, hc1, hg1, hpre, hb⟩
         have HYb : Hid (Byt wb (some ⟨g1, 0, none⟩) (CrcMath.sealB B').length c1 (CrcMath.sealB B')) := hpre.byt (CrcMath.sealB_all HAB'.out) c1 hc1
         have HLE : Hid ((CrcMath.sealB B').length ≤ 1048600) := by show _ ≤ _; rw [CrcMath.length_sealB, HBl'.out]; omega
         have HPRb := Lib.hid (HPRa.out.keep hb)
         have HBIb := Lib.hid (HBIa.out.trans (hb.mono HBIa.out.size))
         obtain ⟨Q, hQ⟩ : ∃ Q, Q = CrcMath.sealB B' := ⟨_, rfl⟩
         rw [← hQ] at HYb HLE ⊢
         obtain ⟨q, hq⟩ : ∃ q, q = Q.length := ⟨_, rfl⟩
         rw [← hq] at HYb ⊢
         clear hpre hc1 hg1 hb HXRa HPRa HBIa hQ hq
         go_wp2_with fail
         refine (snReads_any T HC.out.keep HC.out.all wb _ q c1 Q HYb.out HLE.out (HC.out.read wb _ q c1 Q HYb.out HLE.out)).mono ?_
         rintro e wc ⟨rfl, hb⟩
         have HPRc := Lib.hid (HPRb.out.keep hb)
         have HBIc := Lib.hid (HBIb.out.trans (hb.mono HBIb.out.size))
         clear hb HYb HLE HPRb HBIb
         go_wp2_with fail
         refine (sealed_any wc pa (m - 4) pc M4 (byt_of HPRc.out HPB.out) HPRc.out.room (by omega)).mono ?_
         rintro e we ⟨v, rfl, g1, c1, rfl, hc1, hg1, hpre, hb⟩
         have HYe : Hid (Byt we (some ⟨g1, 0, none⟩) (CrcMath.sealB M4).length c1 (CrcMath.sealB M4)) := hpre.byt (CrcMath.sealB_all HPB.out) c1 hc1
         have HLE : Hid ((CrcMath.sealB M4).length ≤ 1048600) := by show _ ≤ _; rw [CrcMath.length_sealB]; have := HPL.out; omega
         have HBIe := Lib.hid (HBIc.out.trans (hb.mono HBIc.out.size))
         obtain ⟨Q, hQ⟩ : ∃ Q, Q = CrcMath.sealB M4 := ⟨_, rfl⟩
         rw [← hQ] at HYe HLE ⊢
         obtain ⟨q, hq⟩ : ∃ q, q = Q.length := ⟨_, rfl⟩
         rw [← hq] at HYe ⊢
         clear hpre hc1 hg1 hb HPRc HBIc hQ hq hsp2 hmx hmx2 hmxN HPB HPL
         go_wp2_with fail
         refine (snReads_any T HC.out.keep HC.out.all we _ q c1 Q HYe.out HLE.out (HC.out.read we _ q c1 Q HYe.out HLE.out)).mono ?_
         rintro e wf ⟨rfl, hb⟩
         have HBIf := Lib.hid (HBIe.out.trans (hb.mono HBIe.out.size))
         clear hb HYe HLE HBIe
         go_wp2
         go_roundw
         case rel => exact ⟨i + 1, by go_num, by omega, HBIf.out⟩
         case measure => simp [intOf]; omega
       · have hd5 : decide (i < N) = false := decide_eq_false hin
         obtain ⟨B', hB'⟩ : ∃ B', B' = B := ⟨_, rfl⟩
         have HAB' : Hid (CrcMath.AllB B') := by show CrcMath.AllB _; rw [hB']; exact HALB.out
         have hBl' : B'.length = N := by rw [hB']; exact HBN.out
         obtain ⟨wq, hwq⟩ : ∃ w3, w3 = w7 := ⟨_, rfl⟩
         have HO6 : Hid (wq.ownsRow wi.heap.size 5 1 (.slice (some ⟨gx, 0, none⟩) N cx) N (vals B')) := by show World.ownsRow _ _ _ _ _ _ _; rw [hwq, hB']; exact HO5.out
         have HBq : Hid (Below wi.heap.size wi wq) := by show Below _ _ _; rw [hwq]; exact HB7.out
         rw [← hwq]
         clear hwq hB'
         have HBl' := Lib.hid hBl'
         have HXR : Hid (Byt wq (some ⟨gx, 0, none⟩) N cx B') := by
          have h1 := own_bytes.2 (show wq.ownsRow wi.heap.size 5 1 (.slice (some ⟨gx, 0, none⟩) N cx) B'.length (vals B') by rw [hBl']; exact HO6.out)
          obtain ⟨a9, c9, e9, hr9⟩ := own_byt h1 HAB'.out hBl'
          cases e9
          exact hr9.1
         have HU1q : Hid (Byt wq (some ⟨g, 0, none⟩) i cg (bs.take i)) := HU1.out.keep HBq.out (Nat.le_refl _)
         have HPRq := Lib.hid (HPR.out.keep HBq.out)
         have HBIq := Lib.hid (HBI.out.trans (HBq.out.mono HBI.out.size))
         clear hBl' HO5 HO6 HB7 HGX HBN HBq HBI HU1 HPR HYI
         go_wp2_with fail
         refine (snReads_any T HC.out.keep HC.out.all wq _ i cg _ HU1q.out HU1L.out (HC.out.read wq _ i cg _ HU1q.out HU1L.out)).mono ?_
         rintro e wa ⟨rfl, hb⟩
         have HXRa := Lib.hid (HXR.out.keep hb (Nat.le_refl _))
         have HPRa := Lib.hid (HPRq.out.keep hb)
         have HBIa := Lib.hid (HBIq.out.trans (hb.mono HBIq.out.size))
         clear hb HXR HU1q HU1L HPRq HBIq hsl
         go_wp2_with fail
         refine (sealed_any wa _ N cx B' HXRa.out (fun e => by cases e) (by omega)).mono ?_
         rintro e wb ⟨v, rfl, g1, c1, rfl, hc1, hg1, hpre, hb⟩
         have HYb : Hid (Byt wb (some ⟨g1, 0, none⟩) (CrcMath.sealB B').length c1 (CrcMath.sealB B')) := hpre.byt (CrcMath.sealB_all HAB'.out) c1 hc1
         have HLE : Hid ((CrcMath.sealB B').length ≤ 1048600) := by show _ ≤ _; rw [CrcMath.length_sealB, HBl'.out]; omega
         have HPRb := Lib.hid (HPRa.out.keep hb)
         have HBIb := Lib.hid (HBIa.out.trans (hb.mono HBIa.out.size))
         obtain ⟨Q, hQ⟩ : ∃ Q, Q = CrcMath.sealB B' := ⟨_, rfl⟩
         rw [← hQ] at HYb HLE ⊢
         obtain ⟨q, hq⟩ : ∃ q, q = Q.length := ⟨_, rfl⟩
         rw [← hq] at HYb ⊢
         clear hpre hc1 hg1 hb HXRa HPRa HBIa hQ hq
         go_wp2_with fail
         refine (snReads_any T HC.out.keep HC.out.all wb _ q c1 Q HYb.out HLE.out (HC.out.read wb _ q c1 Q HYb.out HLE.out)).mono ?_
         rintro e wc ⟨rfl, hb⟩
         have HPRc := Lib.hid (HPRb.out.keep hb)
         have HBIc := Lib.hid (HBIb.out.trans (hb.mono HBIb.out.size))
         clear hb HYb HLE HPRb HBIb
         go_wp2_with fail
         refine (sealed_any wc pa (m - 4) pc M4 (byt_of HPRc.out HPB.out) HPRc.out.room (by omega)).mono ?_
         rintro e we ⟨v, rfl, g1, c1, rfl, hc1, hg1, hpre, hb⟩
         have HYe : Hid (Byt we (some ⟨g1, 0, none⟩) (CrcMath.sealB M4).length c1 (CrcMath.sealB M4)) := hpre.byt (CrcMath.sealB_all HPB.out) c1 hc1
         have HLE : Hid ((CrcMath.sealB M4).length ≤ 1048600) := by show _ ≤ _; rw [CrcMath.length_sealB]; have := HPL.out; omega
         have HBIe := Lib.hid (HBIc.out.trans (hb.mono HBIc.out.size))
         obtain ⟨Q, hQ⟩ : ∃ Q, Q = CrcMath.sealB M4 := ⟨_, rfl⟩
         rw [← hQ] at HYe HLE ⊢
         obtain ⟨q, hq⟩ : ∃ q, q = Q.length := ⟨_, rfl⟩
         rw [← hq] at HYe ⊢
         clear hpre hc1 hg1 hb HPRc HBIc hQ hq hsp2 hmx hmx2 hmxN HPB HPL
         go_wp2_with fail
         refine (snReads_any T HC.out.keep HC.out.all we _ q c1 Q HYe.out HLE.out (HC.out.read we _ q c1 Q HYe.out HLE.out)).mono ?_
         rintro e wf ⟨rfl, hb⟩
         have HBIf := Lib.hid (HBIe.out.trans (hb.mono HBIe.out.size))
         clear hb HYe HLE HBIe
         go_wp2
         go_roundw
         case rel => exact ⟨i + 1, by go_num, by omega, HBIf.out⟩
         case measure => simp [intOf]; omega
     · have HBE := Lib.hid (HB5.out.trans (HBI.out.mono HB5.out.size))
       have hdd : decide (i < L) = false ∨ (decide (i < L) = true ∧ decide ((k : Int) < 10) = false ∧ decide (k < 10) = false) := by
        by_cases h : i < L
        · exact .inr ⟨decide_eq_true h, decide_eq_false (by omega), decide_eq_false (by omega)⟩
        · exact .inl (decide_eq_false h)
       clear hgo HBI
       rcases hdd with hd2 | ⟨hd2, hd3, hd4⟩
       · go_wp2
         go_roundw
         case rel => exact ⟨k + 1, by go_num, by omega, HBE.out⟩
         case measure => simp [intOf]; omega
       · go_wp2
         go_roundw
         case rel => exact ⟨k + 1, by go_num, by omega, HBE.out⟩
         case measure => simp [intOf]; omega
  · have hd1 : decide ((k : Int) < 40) = false := decide_eq_false (by omega)
    have hd1n : decide (k < 40) = false := decide_eq_false hlt
    clear hlt
    obtain ⟨W1, hW1⟩ : ∃ z, z = wo.alloc (.cells #[.string nm3, .string nm12, .string nm7, .string nmX, .string nm5, .string nmS] 9) := ⟨_, rfl⟩
    have hr1 : RowAt nameK W1 (some ⟨wo.heap.size, 0, none⟩) 6 6 [nm3, nm12, nm7, nmX, nm5, nmS] := by rw [hW1]; exact rowAt_lit nameK_ok wo [nm3, nm12, nm7, nmX, nm5, nmS] (by simp) _ rfl 6 rfl
    have HB1 : Hid (Below w.heap.size w W1) := by show Below _ _ _; rw [hW1]; exact HB.out.alloc HB.out.size _
    obtain ⟨gn, hgn⟩ : ∃ z, z = wo.heap.size := ⟨_, rfl⟩
    rw [← hgn] at hr1
    obtain ⟨ma, mc, hsm, hmr⟩ := row_mid nameK_ok hr1 1 3 (by decide) (by decide)
    have hsm2 : ∀ W, (Instr.slice 39 (.slice (some ⟨gn, 0, none⟩) 6 6) (some (.int .i64 1)) (some (.int .i64 3)) none).run Tryz.prog W = .ok (.slice ma 2 mc) W := hsm
    have HR1 := Lib.hid hr1
    have HMR : Hid (RowAt nameK W1 ma 2 mc [nm12, nm7]) := hmr
    have HW1 : Hid (W1 = wo.alloc (.cells #[.string nm3, .string nm12, .string nm7, .string nmX, .string nm5, .string nmS] 9)) := hW1
    unfold nm3 nm12 nm7 nmX nm5 nmS at hW1
    have HSM := Lib.hid hsm2
    clear hr1 hmr hsm hsm2 HW1 HB
    go_upto_region 18 with fail
    rw [← hW1, ← hgn]
    clear hW1 hgn
    have hsm2 := HSM.out
    go_wp2
    go_loopw [9] (fun v9 wr => ∃ n : Nat, v9 = .int .i64 ((n : Int) - 1) ∧ n ≤ 16 ∧ Hid (Below W1.heap.size W1 wr)) (fun v9 _ => (15 - intOf v9).toNat)
    case atStart => exact ⟨0, rfl, by omega, Below.refl _ _⟩
    case round =>
     obtain ⟨n, rfl, hn, HBN⟩ := hrel
     obtain ⟨wn, hwn⟩ : ∃ z : World, z = wr := ⟨_, rfl⟩
     subst hwn
     by_cases hn15 : n < 16
     · have hd2 : decide ((n : Int) - 1 < 15) = true := decide_eq_true (by omega)
       go_wp2
       go_loopw [10] (fun v10 wr => ∃ m : Nat, v10 = .int .i64 ((m : Int) - 1) ∧ m ≤ 6 ∧ Hid (Below W1.heap.size W1 wr)) (fun v10 _ => (5 - intOf v10).toNat)
       case atStart => exact ⟨0, rfl, by omega, HBN.out⟩
       case round =>
        obtain ⟨m, rfl, hm, HBM⟩ := hrel
        clear HBN
        obtain ⟨wm, hwm⟩ : ∃ z : World, z = wr := ⟨_, rfl⟩
        subst hwm
        by_cases hm6 : m < 6
        · have hd3 : decide ((m : Int) - 1 < 5) = true := decide_eq_true (by omega)
          have hmb : -9223372036854775808 ≤ (m : Int) - 1 ∧ (m : Int) - 1 ≤ 9223372036854775807 := by omega
          have hmw : wrap64 ((m : Int) - 1 + 1) = ((m + 1 : Nat) : Int) - 1 := by unfold wrap64; omega
          go_wp2_with fail
          refine (lists_do wm _ 6 6 _ (HR1.out.keep HBM.out) (by decide) six_size six_one ((n : Int) - 1) ((m : Int) - 1) hmb).mono ?_
          rintro e wa ⟨rfl, hb⟩
          have HBa := Lib.hid (HBM.out.trans (hb.mono HBM.out.size))
          clear hb HBM
          go_wp2_with fail
          refine (lists_do wa ma 2 mc _ (HMR.out.keep HBa.out) (by decide) (fun s hs => six_size s (by simp only [List.mem_cons, List.not_mem_nil, or_false] at hs ⊢; rcases hs with h | h; exact .inr (.inl h); exact .inr (.inr (.inl h)))) (by decide +kernel) ((n : Int) - 1) ((m : Int) - 1) hmb).mono ?_
          rintro e wb ⟨rfl, hb⟩
          have HBb := Lib.hid (HBa.out.trans (hb.mono HBa.out.size))
          clear hb HBa
          go_wp2
          go_roundw
          case rel => exact ⟨m + 1, by refine congrArg (Value.int .i64) ?_; first | omega | (unfold wrap64; omega), by omega, HBb.out⟩
          case measure => simp [intOf]; first | omega | (rw [hmw]; omega)
        · have hd3 : decide ((m : Int) - 1 < 5) = false := decide_eq_false (by omega)
          have hnw : wrap64 ((n : Int) - 1 + 1) = ((n + 1 : Nat) : Int) - 1 := by unfold wrap64; omega
          go_wp2
          go_roundw
          case rel => exact ⟨n + 1, by refine congrArg (Value.int .i64) ?_; first | omega | (unfold wrap64; omega), by omega, HBM.out⟩
          case measure => simp [intOf]; first | omega | (rw [hnw]; omega)
     · have hd2 : decide ((n : Int) - 1 < 15) = false := decide_eq_false (by omega)
       have HBF := Lib.hid (HB1.out.trans (HBN.out.mono HB1.out.size))
       go_wp2_with fail
       refine (lists_do wn none 0 0 [] (rowAt_nil wn) (by decide) (fun s hs => by cases hs) List.Pairwise.nil 5 1 ⟨by decide, by decide⟩).mono ?_
       rintro e wa ⟨rfl, hb⟩
       have HBa := Lib.hid (HBF.out.trans (hb.mono HBF.out.size))
       clear hb HBF
       go_wp2_with fail
       refine (HK.out wa).mono ?_
       rintro e wb ⟨rfl, hb⟩
       have HBb := Lib.hid (HBa.out.trans (hb.mono HBa.out.size))
       clear hb HBa
       go_wp2
       go_ret
       exact ⟨rfl, HBb.out⟩
end Go.Proofs.YtgohekjkbgfeeaaGreat
