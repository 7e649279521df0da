/- Parts of a proof, merged: ModRow, TapeRow, AbIface, MapAs, TcMem, AcMem, AcPut, AcAdd, AcAll, AcCut. -/
import Derived.Maps.RangeRun
import Derived.Maps.RangeWalk
import Derived.Maps.Keyed
import Derived.Lib.SliceRun
import Derived.Deep.QuietTactic
import Derived.BigQuiet
import Derived.Test.YtbejincejbnbaaaKa10
import Derived.Test.YtbejincejbnbaaaKa2
import Derived.Test.YtbejincejbnbaaaKa3
import Derived.Test.YtbejincejbnbaaaKa5
import Derived.Test.YtbejincejbnbaaaKa9
import Derived.Test.YtbejincejbnbaaaKa7
import Derived.Test.YtbejincejbnbaaaKa1
namespace Go.Proofs.Ytbejincejbnbaaa
open Go.RowKit
open Go.SeqMath
open Go.ProdMath
open Go.BatMath hiding AllB getD_lt take_all
set_option linter.unusedVariables false

theorem wf_right {b : Bat} (h : rightE b = 0) (hp : b.prod ≤ 9223372036854775807) : b.wf := by
 have := ok_of h
 exact ⟨⟨by have := this.base0; omega, by have := this.base1; omega⟩, ⟨by have := this.prod; omega, hp⟩, ⟨by have := this.epoch0; omega, by have := this.epoch1; omega⟩, ⟨by have := this.seq0; omega, by have := this.seq1; omega⟩, ⟨by have := this.marker0; omega, by have := this.marker1; omega⟩⟩
/-- What is laid behind a row that a partition may have leaves one. -/
def Grows (start : Int) (bs : List Bat) (r : (Int × Int) × List Bat) : Prop := RowD start r.2 ∧ r.2.length ≤ bs.length + 1
theorem put_grows {cap start : Int} {bs : List Bat} {b : Bat} (h : RowD start bs) (hb : b.base = endD start bs) (hp : b.prod ≤ 9223372036854775807) : Grows start bs (putD cap start bs b) := by
 have h0 : Grows start bs ((0, 0), bs) := ⟨h, by show bs.length ≤ _; omega⟩
 unfold putD
 split
 · exact h0
 · rename_i h1
   split
   · exact h0
   · rename_i h2
     split
     · exact h0
     · split
       · exact h0
       · rename_i h3 h4
         have hz : (tcheckD (foldP [] bs) b).2 = 0 := Classical.byContradiction fun h => h1 h
         exact ⟨RowD.snoc h hb (wf_right (tcheck_right hz) hp) hz (by omega) (by omega), by show (bs ++ [b]).length ≤ _; simp⟩
theorem produce_grows {cap start : Int} {bs : List Bat} {b : Bat} (h : RowD start bs) (hp : b.prod ≤ 9223372036854775807) : Grows start bs (produceD cap start bs b) := by
 have h0 : Grows start bs ((0, 0), bs) := ⟨h, by show bs.length ≤ _; omega⟩
 unfold produceD
 split
 · exact h0
 · split
   · exact h0
   · exact put_grows h rfl hp
theorem mark_grows {cap start : Int} {bs : List Bat} {p e m : Int} (h : RowD start bs) (hp : p ≤ 9223372036854775807) : Grows start bs (markD cap start bs p e m) := by
 have h0 : Grows start bs ((0, 0), bs) := ⟨h, by show bs.length ≤ _; omega⟩
 unfold markD
 split
 · exact h0
 · exact put_grows h rfl hp
def GivesRow2 (w : World) (start : Int) (most : Nat) (e : Ending) (w' : World) : Prop :=
 ∃ ad len cap ms, e = .returned (.slice ad len cap) ∧ Hid (BatsAt w' ad len cap ms) ∧ Hid (RowD start (bats ms)) ∧ len ≤ most ∧ Hid (Below w.heap.size w w')
/-- What stands ahead of each round. -/
def RowLoop (w : World) (start : Int) (tad : Option Addr) (tlen tcap most kt km : Nat) (wr : World) : Prop :=
 ∃ ad len cap ms, TapeT wr kt tad tlen tcap ∧ MOk wr km 1073741824 start ad len cap ms ∧ RowD start (bats ms) ∧ len ≤ most ∧ Below w.heap.size w wr
set_option maxRecDepth 100000 in
set_option maxHeartbeats 8000000 in
theorem row_any (w : World) (tad : Option Addr) (tlen tcap : Nat) (zs : List Int) (h : Nums w tad tlen zs) (hL : tlen ≤ 140737488355328) (start : Int) (hs0 : 0 ≤ start) (hs1 : start ≤ 1099511627776) (most : Nat) (hmost : most ≤ 10000) :
 Calls Try.prog 8 #[.slice tad tlen tcap, .int .i64 start, .int .i64 (most : Int)] w (GivesRow2 w start most) := by
 obtain ⟨W1, hW1⟩ : ∃ W1, W1 = w.alloc (.cells #[.slice tad tlen tcap, .int .i64 0] 66) := ⟨_, rfl⟩
 obtain ⟨W2, hW2⟩ : ∃ W2, W2 = W1.alloc (.cells #[.int .i64 1073741824, .int .i64 start, .slice none 0 0] 69) := ⟨_, rfl⟩
 have hb1 : Below w.heap.size w W1 := by rw [hW1]; exact (Below.refl _ _).alloc (Nat.le_refl _) _
 have hb2 : Below W1.heap.size W1 W2 := by rw [hW2]; exact (Below.refl _ _).alloc (Nat.le_refl _) _
 have ht1 : TapeAt W1 w.heap.size tad tlen tcap 0 := by rw [hW1]; exact tape_new h hL
 obtain ⟨kt, hkt⟩ : ∃ k, k = w.heap.size := ⟨_, rfl⟩
 obtain ⟨km, hkm⟩ : ∃ k, k = W1.heap.size := ⟨_, rfl⟩
 rw [← hkt] at ht1
 have hkk : kt < km := by rw [hkm]; exact ht1.lt
 have hktw : w.heap.size ≤ kt := by omega
 have hkmw : w.heap.size ≤ km := by omega
 have HT2 : Hid (TapeAt W2 kt tad tlen tcap 0) := ht1.on hb2
 have HM2 : Hid (MOk W2 km 1073741824 start none 0 0 []) := by
  show MOk _ _ _ _ _ _ _ _
  refine ⟨?_, ⟨rowAt_nil _, (fun m hm => by cases hm)⟩, (fun a ha => by cases ha), (fun m hm => by cases hm)⟩
  show W2.heap[km]? = _
  rw [hW2, hkm]
  exact heap_alloc_new W1 _
 have HB2 := Lib.hid (hb1.trans (hb2.mono hb1.size))
 have HW1 := Lib.hid hW1
 have HW2 := Lib.hid hW2
 have HK1 := Lib.hid hkt
 have HK2 := Lib.hid hkm
 clear hb1 hb2 ht1 hW1 hW2 hkt hkm
 go_enter Try.func8, Try.ntmps8
 go_upto_region 3 with fail
 have hsz : w.heap.size + 1 = km := by rw [HK2.out, HW1.out]; simp
 try rw [hsz]
 rw [← HW1.out, ← HW2.out, ← HK1.out]
 try rw [← HK2.out]
 clear hsz HW1 HW2 HK1 HK2
 go_wp2
 go_loopw [9] (fun v9 wr => ∃ i : Nat, v9 = .int .i64 (i : Int) ∧ i ≤ 4 * most ∧ RowLoop w start tad tlen tcap most kt km wr) (fun v9 _ => 4 * most - (intOf v9).toNat)
 case atStart => exact ⟨0, rfl, Nat.zero_le _, none, 0, 0, [], ⟨0, HT2.out⟩, HM2.out, RowD.nil, Nat.zero_le _, HB2.out⟩
 case round =>
  obtain ⟨i, rfl, hi, ad, len, cap, ms, ht, hm, hrow, hlm, hbel⟩ := hrel
  obtain ⟨ix, htx⟩ := ht
  have HT := Lib.hid htx
  have HM := Lib.hid hm
  have HR := Lib.hid hrow
  have HB := Lib.hid hbel
  clear htx hm hrow hbel HT2 HM2 HB2
  obtain ⟨wo, hwo⟩ : ∃ wo : World, wo = wr := ⟨_, rfl⟩
  subst hwo
  have t1 := HT.out.c1
  have m2 := HM.out.box.c2
  by_cases hgo : i < 4 * most ∧ len < most ∧ ix < tlen
  · obtain ⟨hg1, hg2, hg3⟩ := hgo
    have hd1 : decide ((i : Int) < 4 * (most : Int)) = true := decide_eq_true (by omega)
    have hd2 : decide (len < most) = true := decide_eq_true hg2
    have hd3 : decide (ix < tlen) = true := decide_eq_true hg3
    go_wp2_with fail
    refine (ask_any wo kt tad tlen tcap ix HT.out km 1073741824 start ad len cap ms HM.out hkk (by omega) (rowD_ok HR.out)).mono ?_
    rintro e w3 ⟨b0, b1, b2, b3, b4, b5, recs, rd, rc, rfl, HP, HTX, HN, HRE3, HT3, HG3⟩
    have HM3 := Lib.hid (HM.out.grown HG3.out (by omega) (fun a ha e => by have := (HM.out.row a ha).1; omega) (fun m hm a ha e => by have := (HM.out.ins m hm a ha).1; omega))
    have HB3 : Hid (Below w.heap.size w w3) := HB.out.trans (below_grown HG3.out hktw HB.out.size)
    clear HT HM HB HG3 t1 m2
    go_upto_region 7 with fail
    obtain ⟨w4, hw4⟩ : ∃ w4, w4 = w3.alloc (.cells #[.int .i64 b0, .int .i64 b1, .int .i64 b2, .int .i64 b3, .bool b4, .int .i64 b5, .slice rd recs.length rc] 58) := ⟨_, rfl⟩
    have hb4 : Below w3.heap.size w3 w4 := by rw [hw4]; exact (Below.refl _ _).alloc (Nat.le_refl _) _
    obtain ⟨X, hX⟩ : ∃ X, X = w3.heap.size := ⟨_, rfl⟩
    have HX4 : Hid (BoxAt w4 X b0 b1 b2 b3 b4 b5 (.slice rd recs.length rc)) := by show BoxAt _ _ _ _ _ _ _ _ _; rw [hw4, hX]; exact boxAt_new w3 _ _ _ _ _ _ _
    have HM4 := Lib.hid (HM3.out.keep hb4)
    have HRE4 := Lib.hid (HRE3.out.keep hb4)
    have HB4 := Lib.hid (HB3.out.trans (hb4.mono HB3.out.size))
    obtain ⟨i4, ht4⟩ := HT3.out
    have HT4 : Hid (TapeAt w4 kt tad tlen tcap i4) := ht4.on hb4
    have hend := rowD_end HR.out hs0 hs1
    rw [← hw4, ← hX]
    clear hw4 hb4 hX ht4 HT3 HM3 HRE3 HB3
    have p0 := HX4.out.c0
    have p1 := HX4.out.c1
    have p2 := HX4.out.c2
    have p3 := HX4.out.c3
    have p4 := HX4.out.c4
    have p5 := HX4.out.c5
    have p6 := HX4.out.c6
    by_cases hmk : b5 = 0
    · have hd5 : (b5 == 0) = true := by rw [hmk]; rfl
      have hd5n : (b5 != 0) = false := by rw [hmk]; rfl
      clear hmk
      go_wp2_with fail
      refine (produce_any w4 km 1073741824 start ad len cap ms HM4.out (by omega) (rowD_ok HR.out) (by omega) b0 b1 b2 b3 b4 b5 recs rd rc HRE4.out HTX.out (by have := HN.out; omega) HP.out _ rfl).mono ?_
      rintro e w5 ⟨ad5, len5, cap5, ms5, rfl, hm5, hbs5, hg5⟩
      have hgr := produce_grows (cap := 1073741824) (b := ⟨b0, b1, b2, b3, b4, b5, recs⟩) HR.out HP.out
      have HR5 : Hid (RowD start (bats ms5)) := by show RowD _ _; rw [hbs5]; exact hgr.1
      have hl5 : len5 ≤ most := by
       have h1 := hgr.2
       rw [← hbs5] at h1
       unfold bats at h1
       rw [List.length_map, List.length_map] at h1
       have h2 := hm5.bats.row.length
       have h3 := HM4.out.bats.row.length
       omega
      have HM5 := Lib.hid hm5
      have HT5 : Hid (TapeT w5 kt tad tlen tcap) := ⟨i4, HT4.out.grow hg5 (fun k hk => by cases hk; exact hkk)⟩
      have HB5 : Hid (Below w.heap.size w w5) := HB4.out.trans (below_grown hg5 hkmw HB4.out.size)
      clear hm5 hbs5 hg5 hgr p0 p1 p2 p3 p4 p5 p6
      go_wp2
      go_roundw
      case rel => exact ⟨i + 1, by go_num, by omega, ad5, len5, cap5, ms5, HT5.out, HM5.out, HR5.out, hl5, HB5.out⟩
      case measure => simp [intOf]; omega
    · have hd5 : (b5 == 0) = false := beq_false_of_ne hmk
      have hd5n : (b5 != 0) = true := by unfold bne; rw [hd5]; rfl
      clear hmk
      go_wp2_with fail
      refine (mark_any w4 km 1073741824 start ad len cap ms HM4.out (by omega) (rowD_ok HR.out) (by omega) b1 b2 b5 HP.out _ rfl).mono ?_
      rintro e w5 ⟨ad5, len5, cap5, ms5, rfl, hm5, hbs5, hg5⟩
      have hgr := mark_grows (cap := 1073741824) (p := b1) (e := b2) (m := b5) HR.out HP.out
      have HR5 : Hid (RowD start (bats ms5)) := by show RowD _ _; rw [hbs5]; exact hgr.1
      have hl5 : len5 ≤ most := by
       have h1 := hgr.2
       rw [← hbs5] at h1
       unfold bats at h1
       rw [List.length_map, List.length_map] at h1
       have h2 := hm5.bats.row.length
       have h3 := HM4.out.bats.row.length
       omega
      have HM5 := Lib.hid hm5
      have HT5 : Hid (TapeT w5 kt tad tlen tcap) := ⟨i4, HT4.out.grow hg5 (fun k hk => by cases hk; exact hkk)⟩
      have HB5 : Hid (Below w.heap.size w w5) := HB4.out.trans (below_grown hg5 hkmw HB4.out.size)
      clear hm5 hbs5 hg5 hgr p0 p1 p2 p3 p4 p5 p6
      go_wp2
      go_roundw
      case rel => exact ⟨i + 1, by go_num, by omega, ad5, len5, cap5, ms5, HT5.out, HM5.out, HR5.out, hl5, HB5.out⟩
      case measure => simp [intOf]; omega
  · by_cases hg1 : i < 4 * most
    · have hd1 : decide ((i : Int) < 4 * (most : Int)) = true := decide_eq_true (by omega)
      by_cases hg2 : len < most
      · have hd2 : decide (len < most) = true := decide_eq_true hg2
        have hd3 : decide (ix < tlen) = false := decide_eq_false (fun h => hgo ⟨hg1, hg2, h⟩)
        go_wp2
        go_ret
        exact ⟨ad, len, cap, ms, rfl, HM.out.bats, HR.out, hlm, HB.out⟩
      · have hd2 : decide (len < most) = false := decide_eq_false hg2
        go_wp2
        go_ret
        exact ⟨ad, len, cap, ms, rfl, HM.out.bats, HR.out, hlm, HB.out⟩
    · have hd1 : decide ((i : Int) < 4 * (most : Int)) = false := decide_eq_false (by omega)
      go_wp2
      go_ret
      exact ⟨ad, len, cap, ms, rfl, HM.out.bats, HR.out, hlm, HB.out⟩
end Go.Proofs.Ytbejincejbnbaaa
namespace Go.Proofs.Ytbejincejbnbaaa
open Go.RowKit
set_option linter.unusedVariables false

theorem infoInt : (Try.prog.info? 3).map (fun i => (i.zero, i.size, i.bytes)) = some (some (.int .i64 0), 1, 8) := by kernel_rfl
def intK : Kind Int := ⟨fun n => [.int .i64 n], 1, 3, 25⟩
theorem intK_ok : intK.Ok 8 where
 und := Try.underlying25
 info := by
  obtain ⟨i, hi, hz, hs, hb⟩ := info_parts infoInt
  exact ⟨i, _, hi, hz, hs, hb, rfl⟩
 len := fun _ => rfl
 pos := by decide
 one := fun r u hu => by
  obtain rfl := List.mem_singleton.1 hu
  rfl
 few := by decide
theorem nums_of {w : World} {ad : Option Addr} {len cap : Nat} {l : List Int} (h : RowAt intK w ad len cap l) (ha : ∀ n ∈ l, In64 n) : Nums w ad len l := by
 refine ⟨h.length, ha, ?_⟩
 rcases h.cells with h0 | ⟨b, off, e, _, hc⟩
 · exact .inl h0
 · refine .inr ⟨b, off, e, fun i hi => ?_⟩
   have hl := h.length
   have hx : l[i]? = some (l[i]'(by omega)) := List.getElem?_eq_getElem (by omega)
   have := hc i _ hx 0 (.int .i64 (l[i]'(by omega))) rfl
   rw [List.getD_eq_getElem?_getD, hx]
   show w.cell? ⟨b, off + i, none⟩ = _
   have e2 : off + (i * intK.size + 0) = off + i := by show off + (i * 1 + 0) = _; omega
   rw [e2] at this
   exact this
def TapeLoop (w : World) (v3 v4 : Value) (wr : World) : Prop :=
 ∃ (zs : List Int) (i : Nat) (u : Value), u = v3 ∧ v4 = .int .i64 (i : Int) ∧ i ≤ 400 ∧ zs.length = i ∧ (∀ z ∈ zs, In64 z) ∧ OwnRow intK wr w.heap.size u zs ∧ Below w.heap.size w wr
theorem tmod_in (x m z : Int) (hm : 0 < m ∧ m < 1000000) (h : x.tmod m = z) : In64 z := by
 have h1 : z < m := by rw [← h]; exact Int.tmod_lt_of_pos x hm.1
 have h2 : -z < m := by rw [← h, ← Int.neg_tmod]; exact Int.tmod_lt_of_pos (-x) hm.1
 exact ⟨by omega, by omega⟩
end Go.Proofs.Ytbejincejbnbaaa
namespace Go.Proofs.Ytbejincejbnbaaa
open Go.RowKit
open Go.AbMath
open Go.ProdMath
open Go.BatMath hiding AllB getD_lt take_all
set_option linter.unusedVariables false

/-- A call that turns a list. -/
def AbTurns (R : (Nat → Prop) → World → Addr → List Dr → Prop) (F : Nat → Prop) (W : World) (a : Addr) (l : List Dr) (v : Value) (e : Ending) (w' : World) : Prop :=
 ∃ F', e = .returned v ∧ R F' w' a l ∧ Kept W w' F ∧ ∀ k, F' k → F k ∨ W.heap.size ≤ k
/-- A call that makes one. -/
def AbMakes (R : (Nat → Prop) → World → Addr → List Dr → Prop) (W : World) (l : List Dr) (e : Ending) (w' : World) : Prop :=
 ∃ a F, e = .returned (.pointer (some a)) ∧ R F w' a l ∧ (∀ k, F k → W.heap.size ≤ k) ∧ Below W.heap.size W w'
def AbReads2 (R : (Nat → Prop) → World → Addr → List Dr → Prop) (w : World) (bs : List Nat) (e : Ending) (w' : World) : Prop :=
 Below w.heap.size w w' ∧ ((∃ a l F, e = .returned (.tuple #[.pointer (some a), .int .i64 0]) ∧ R F w' a l ∧ (∀ k, F k → w.heap.size ≤ k) ∧ IsAb bs l) ∨ (e = .returned (.tuple #[.pointer none, .int .i64 12]) ∧ ∀ l, ¬ IsAb bs l))
structure AbCode (R : (Nat → Prop) → World → Addr → List Dr → Prop) : Prop where
 lt : ∀ F W a l, R F W a l → ∀ k, F k → k < W.heap.size
 kept : ∀ F G W W' a l, R F W a l → Kept W W' G → (∀ k, F k → ¬ G k) → R F W' a l
 new : ∀ W, Calls Try.prog 28 #[] W (AbMakes R W [])
 add : ∀ F W a l (d : Dr), R F W a l → DrsOk l → l.length ≤ 1000000 → Calls Try.prog 29 #[.pointer (some a), .agg #[.int .i64 d.prod, .int .i64 d.first, .int .i64 d.last]] W (AbTurns R F W a (addD l d) (.bool (decide (okD (lastD l) d))))
 within : ∀ F W a l fr t0, R F W a l → DrsOk l → l.length ≤ 1000000 → Calls Try.prog 17 #[.pointer (some a), .int .i64 fr, .int .i64 t0] W (GivesDrs W (withinD l fr t0))
 cut : ∀ F W a l z, R F W a l → DrsOk l → l.length ≤ 1000000 → Calls Try.prog 23 #[.pointer (some a), .int .i64 z] W (AbTurns R F W a (cutD l z) (.tuple #[]))
 start : ∀ F W a l z, R F W a l → DrsOk l → l.length ≤ 1000000 → Calls Try.prog 31 #[.pointer (some a), .int .i64 z] W (AbTurns R F W a (startD l z) (.tuple #[]))
 all : ∀ F W a l, R F W a l → DrsOk l → l.length ≤ 1000000 → Calls Try.prog 19 #[.pointer (some a)] W (GivesDrs W l)
 bytes : ∀ F W a l, R F W a l → DrsOk l → l.length ≤ 5000 → (∀ d ∈ l, In64 d.prod) → Calls Try.prog 22 #[.pointer (some a)] W (GivesMade W (bytesA l))
 read : ∀ W ad len cap bs, Byt W ad len cap bs → bs.length ≤ 1048600 → Calls Try.prog 21 #[.slice ad len cap] W (AbReads2 R W bs)
 of : ∀ W ad len cap ms start, BatsAt W ad len cap ms → len ≤ 5000 → BatsOk (bats ms) → RowD start (bats ms) → 0 ≤ start → start ≤ 1099511627776 → Calls Try.prog 16 #[.slice ad len cap] W (AbMakes R W (foldR [] (bats ms)))
section
variable {R : (Nat → Prop) → World → Addr → List Dr → Prop}
theorem AbCode.keep (C : AbCode R) {F : Nat → Prop} {W W' : World} {a : Addr} {l : List Dr} (h : R F W a l) (hb : Below W.heap.size W W') : R F W' a l := C.kept F (fun _ => False) W W' a l h (Kept.of_below hb) (fun k _ h => h)
/-- The document's own reading and the code's, in one. -/
theorem AbCode.reads (C : AbCode R) (w : World) (ad : Option Addr) (len cap : Nat) (bs : List Nat) (h : Byt w ad len cap bs) (hL : bs.length ≤ 1048600) : Calls Try.prog 13 #[.slice ad len cap] w (GivesBool w true) :=
 abReads_any (fun W a l => ∃ F, R F W a l) (fun W W' a l ⟨F, h⟩ hb => ⟨F, C.keep h hb⟩) (fun W a l ⟨F, h⟩ hd hl => C.all F W a l h hd hl) w ad len cap bs h hL ((C.read w ad len cap bs h hL).mono fun e w' h => ⟨h.1, by
  rcases h.2 with ⟨a, l, F, e1, h1, _, h2⟩ | h1
  · exact .inl ⟨a, l, e1, ⟨F, h1⟩, h2⟩
  · exact .inr h1⟩)
end
theorem drSame2_any (w : World) (a1 a2 : Option Addr) (n1 n2 c1 c2 : Nat) (l : List Dr) (h1 : RowAt drK w a1 n1 c1 l) (h2 : RowAt drK w a2 n2 c2 l) (hl : l.length ≤ 1000000) :
 Calls Try.prog 18 #[.slice a1 n1 c1, .slice a2 n2 c2] w (GivesBool w true) := by
 obtain rfl : n1 = n2 := h1.length.symm.trans h2.length
 exact drSame_any w a1 a2 n1 c1 c2 l h1 h2 (by rw [← h1.length]; exact hl)
theorem abBats_take {w : World} {ad : Option Addr} {len cap : Nat} {ms : List BM} (h : BatsAt w ad len cap ms) (k : Nat) (hk : k ≤ len) : BatsAt w ad k cap (ms.take k) := ⟨h.row.take k hk, fun m hm => h.ins m (List.mem_of_mem_take hm)⟩
theorem abRow_take {start : Int} {bs : List Bat} (h : RowD start bs) : ∀ k, RowD start (bs.take k) := by
 induction h with
 | nil => intro k; rw [List.take_nil]; exact RowD.nil
 | @snoc l b hl hb hw hc hn he ih =>
   intro k
   by_cases hk : k ≤ l.length
   · rw [List.take_append_of_le_length hk]; exact ih k
   · rw [List.take_of_length_le (by rw [List.length_append, List.length_singleton]; omega)]
     exact RowD.snoc hl hb hw hc hn he
def AbRowDoes (w : World) (most : Nat) (e : Ending) (w' : World) : Prop :=
 ∃ ad len cap ms, e = .returned (.slice ad len cap) ∧ BatsAt w' ad len cap ms ∧ BatsOk (bats ms) ∧ RowD 0 (bats ms) ∧ len ≤ most ∧ Below w.heap.size w w'
theorem abRow_any (w : World) (tad : Option Addr) (tlen tcap : Nat) (zs : List Int) (h : Nums w tad tlen zs) (hL : tlen ≤ 140737488355328) (most : Nat) (hm : most ≤ 10000) :
 Calls Try.prog 8 #[.slice tad tlen tcap, .int .i64 0, .int .i64 (most : Int)] w (AbRowDoes w most) := by
 refine (row_any w tad tlen tcap zs h hL 0 (by decide) (by decide) most hm).mono ?_
 rintro e w2 ⟨ad, len, cap, ms, rfl, HBA, HRD, hlen, hb2⟩
 exact ⟨ad, len, cap, ms, rfl, HBA.out, batsOk_of (rowD_ok HRD.out), HRD.out, hlen, hb2.out⟩
set_option maxRecDepth 100000 in
set_option maxHeartbeats 4000000 in
theorem abRows_any {R : (Nat → Prop) → World → Addr → List Dr → Prop} (C : AbCode R) (w : World) (ad : Option Addr) (len cap : Nat) (ms : List BM) (h : BatsAt w ad len cap ms) (hL : len ≤ 5000) (hok : BatsOk (bats ms)) (hrd : RowD 0 (bats ms)) :
 Calls Try.prog 7 #[.slice ad len cap] w (GivesBool w true) := by
 have H := Lib.hid h
 have HC := Lib.hid C
 have HOK := Lib.hid hok
 have HRD := Lib.hid hrd
 have HDO := Lib.hid (row_drops hrd (by decide) (by decide)).1
 have hlen := h.row.length
 have HLEN : Hid ((foldR [] (bats ms)).length ≤ 1000000) := by
  show _ ≤ _
  have h1 := drops_len (bats ms) []
  unfold bats at h1 ⊢
  rw [List.length_map] at h1
  omega
 clear h C hok hrd hlen
 go_enter Try.func7, Try.ntmps7
 go_wp2_with fail
 refine (fold_any w ad len cap ms H.out (by omega) HOK.out).mono ?_
 rintro e w1 ⟨kt, ad2, len2, cap2, ps, dd, dn, dc, rfl, -, -, hdr, -, hb1⟩
 have HDR := Lib.hid hdr
 have HB1 := Lib.hid hb1
 have H1 := Lib.hid (H.out.keep hb1)
 clear hdr hb1
 go_wp2_with fail
 refine (HC.out.of w1 ad len cap ms 0 H1.out hL HOK.out HRD.out (by decide) (by decide)).mono ?_
 rintro e w2 ⟨a, F, rfl, hr, _, hb2⟩
 have HR := Lib.hid hr
 have HDR2 := Lib.hid (HDR.out.keep hb2)
 have HB2 := Lib.hid (HB1.out.trans (hb2.mono HB1.out.size))
 clear hr hb2
 go_wp2_with fail
 refine (HC.out.all F w2 a _ HR.out HDO.out HLEN.out).mono ?_
 rintro e w3 ⟨qa, qn, qc, rfl, hq, hb3⟩
 have HQ := Lib.hid hq
 have HDR3 := Lib.hid (HDR2.out.keep hb3)
 have HB3 := Lib.hid (HB2.out.trans (hb3.mono HB2.out.size))
 clear hq hb3
 go_wp2_with fail
 refine (drSame2_any w3 qa dd qn dn qc dc _ HQ.out HDR3.out HLEN.out).mono ?_
 rintro e w4 ⟨rfl, hb4⟩
 have HB4 := Lib.hid (HB3.out.trans (hb4.mono HB3.out.size))
 clear hb4
 go_wp2
 go_ret
 exact ⟨rfl, HB4.out⟩
end Go.Proofs.Ytbejincejbnbaaa
namespace Go.Proofs.Ytbejincejbnbaaa
open Go.RowKit
open Go.ChangeMaps (setBlock)
open Go.Maps (Keyed)
set_option linter.unusedVariables false

/-- An entry as the map has it. -/
def entryP (e : MapEntry) : Value × Value := (e.key, e.val)
/-- Block km is a map of these things. -/
def MapAs {α : Type} (P : Program) (k : TypeId) (f : α → Value × Value) (w : World) (km : Nat) (ps : List α) : Prop :=
 ∃ es clock, w.heap[km]? = some (.map es clock) ∧ MapKept.Stamped es clock ∧ (es.toList.map entryP).Perm (ps.map f) ∧ ∀ p ∈ ps, ∃ l, keyOf P k (f p).1 = some l
section
variable {α : Type} {P : Program} {k : TypeId} {f : α → Value × Value} {w w' : World} {km : Nat} {ps : List α}
theorem MapAs.lt (h : MapAs P k f w km ps) : km < w.heap.size := by
 obtain ⟨es, clock, hb, _⟩ := h
 exact (Array.getElem?_eq_some_iff.1 hb).1
theorem MapAs.same (h : MapAs P k f w km ps) (he : w'.heap[km]? = w.heap[km]?) : MapAs P k f w' km ps := by
 obtain ⟨es, clock, hb, r⟩ := h
 exact ⟨es, clock, he.trans hb, r⟩
theorem MapAs.on (h : MapAs P k f w km ps) (hb : Below w.heap.size w w') : MapAs P k f w' km ps := h.same (hb.block km h.lt)
theorem MapAs.grown {r : Option Nat} (h : MapAs P k f w km ps) (hg : w.grownBy w' r) (hr : r ≠ some km) : MapAs P k f w' km ps := h.same (hg.block km h.lt fun e => hr e.symm)
theorem MapAs.perm {qs : List α} (h : MapAs P k f w km ps) (hp : ps.Perm qs) : MapAs P k f w km qs := by
 obtain ⟨es, clock, hb, hs, hq, hn⟩ := h
 exact ⟨es, clock, hb, hs, hq.trans (hp.map _), fun p h => hn p (hp.mem_iff.2 h)⟩
theorem mapAs_new (P : Program) (k : TypeId) (f : α → Value × Value) (w : World) : MapAs P k f (w.alloc (.map #[] 0)) w.heap.size ([] : List α) := ⟨#[], 0, heap_alloc_new w _, MapKept.stamped_empty 0, List.Perm.refl _, fun p h => by cases h⟩
/-- No key stands twice. -/
theorem MapAs.keys (h : MapAs P k f w km ps) : (ps.map fun p => (f p).1).Pairwise (· ≠ ·) := by
 obtain ⟨es, clock, hb, hs, hq, hn⟩ := h
 have h3 := ((MapKept.stamped_iff es clock).1 hs).2.2
 have h4 : (es.toList.map entryP).Pairwise (fun a b => a.1 ≠ b.1) := by rw [List.pairwise_map]; exact h3
 have h5 : (ps.map f).Pairwise (fun a b => a.1 ≠ b.1) := (hq.pairwise_iff (fun {_ _} h => Ne.symm h)).1 h4
 rw [List.pairwise_map] at h5 ⊢
 exact h5
theorem MapAs.size (h : MapAs P k f w km ps) : ∃ es clock, w.heap[km]? = some (.map es clock) ∧ es.size = ps.length := by
 obtain ⟨es, clock, hb, hs, hq, hn⟩ := h
 refine ⟨es, clock, hb, ?_⟩
 have := hq.length_eq
 simpa using this
theorem MapAs.one (h : MapAs P k f w km ps) {p q : α} (hp : p ∈ ps) (hq : q ∈ ps) (e : (f p).1 = (f q).1) : p = q := by
 have hn := h.keys
 obtain ⟨i, hi⟩ := List.getElem?_of_mem hp
 obtain ⟨j, hj⟩ := List.getElem?_of_mem hq
 have hi' : (ps.map fun p => (f p).1)[i]? = some (f p).1 := by rw [List.getElem?_map, hi]; rfl
 have hj' : (ps.map fun p => (f p).1)[j]? = some (f p).1 := by rw [List.getElem?_map, hj, e]; rfl
 have hil : i < (ps.map fun p => (f p).1).length := (List.getElem?_eq_some_iff.1 hi').1
 have := (List.getElem?_inj (i := i) (j := j) hil hn).1 (hi'.trans hj'.symm)
 subst this
 exact Option.some.inj (hi.symm.trans hj)
theorem permAs_set {α : Type} : ∀ (l : List α) (j : Nat) (x y : α), l[j]? = some x → (l.set j y).Perm (y :: l.eraseIdx j) ∧ l.Perm (x :: l.eraseIdx j)
 | [], j, x, y, h => by cases j <;> cases h
 | a :: l, 0, x, y, h => by cases h; exact ⟨List.Perm.refl _, List.Perm.refl _⟩
 | a :: l, j + 1, x, y, h => by
   obtain ⟨h1, h2⟩ := permAs_set l j x y h
   exact ⟨(h1.cons a).trans (List.Perm.swap _ _ _), (h2.cons a).trans (List.Perm.swap _ _ _)⟩
section
variable {t e : TypeId} (ht : P.underlying t = some (.map k e)) (K : Keyed P k)
include K in
theorem mapAs_find (h : MapAs P k f w km ps) (key : Value) (hk : ∃ l, keyOf P k key = some l) : ∃ es clock, w.heap[km]? = some (.map es clock) ∧ MapKept.Stamped es clock ∧ (es.toList.map entryP).Perm (ps.map f) ∧
 (((Instr.findKey k key es.toList).run P w = .ok none w ∧ (∀ e ∈ es.toList, e.key ≠ key) ∧ ∀ p ∈ ps, (f p).1 ≠ key) ∨
  ∃ j e0 p, (Instr.findKey k key es.toList).run P w = .ok (some (j, (f p).2)) w ∧ es.toList[j]? = some e0 ∧ e0.key = key ∧ e0.val = (f p).2 ∧ p ∈ ps ∧ (f p).1 = key) := by
 obtain ⟨es, clock, hb, hs, hq, hz⟩ := h
 refine ⟨es, clock, hb, hs, hq, ?_⟩
 obtain ⟨lk, hlk⟩ := hk
 have hes : ∀ x ∈ es.toList, ∃ p ∈ ps, x.key = (f p).1 ∧ x.val = (f p).2 := fun x hx => by
  obtain ⟨p, hp, e⟩ := List.mem_map.1 (hq.mem_iff.1 (List.mem_map.2 ⟨x, hx, rfl⟩))
  exact ⟨p, hp, by rw [e]; rfl, by rw [e]; rfl⟩
 rcases K.find w hlk es.toList (fun x hx => by
  obtain ⟨p, hp, e, _⟩ := hes x hx
  obtain ⟨l, hl⟩ := hz p hp
  exact ⟨l, by rw [e]; exact hl⟩) with ⟨h1, h2⟩ | ⟨j, e0, h1, h2, h3⟩
 · refine .inl ⟨h1, h2, fun p hp en => ?_⟩
   obtain ⟨x, hx, e⟩ := List.mem_map.1 (hq.mem_iff.2 (List.mem_map.2 ⟨p, hp, rfl⟩))
   have e1 : x.key = (f p).1 := by rw [← e]; rfl
   exact h2 x hx (by rw [e1, en])
 · obtain ⟨p, hp, e1, e2⟩ := hes e0 (List.mem_of_getElem? h2)
   rw [h3] at e1
   exact .inr ⟨j, e0, p, by rw [← e2]; exact h1, h2, h3, e2, hp, e1.symm⟩
include ht K
/-- 'm[k]' where the map has no such key. -/
theorem mapAs_none (h : MapAs P k f w km ps) (key : Value) (hk : ∃ l, keyOf P k key = some l) (h0 : ∀ p ∈ ps, (f p).1 ≠ key) (z : Value) (hz : (zeroValue e).run P w = .ok z w) (ok : Bool) : (Instr.lookup t (.map (some km)) key ok).run P w = .ok (if ok = true then .tuple #[z, .bool false] else z) w := by
 obtain ⟨es, clock, hb, hs, hq, h1⟩ := mapAs_find K h key hk
 obtain ⟨lk, hlk⟩ := hk
 rcases h1 with ⟨h1, _, _⟩ | ⟨j, e0, p, _, _, _, _, hm, he⟩
 · cases ok <;> simp [Instr.lookup, run_underlying ht, MapKept.run_getObj_map hb, K.check w _ hlk, h1, hz, Result.andThen]
 · exact absurd he (h0 _ hm)
/-- 'm[k]' where it has. -/
theorem mapAs_some (h : MapAs P k f w km ps) (p : α) (hm : p ∈ ps) (ok : Bool) : (Instr.lookup t (.map (some km)) (f p).1 ok).run P w = .ok (if ok = true then .tuple #[(f p).2, .bool true] else (f p).2) w := by
 have hk : ∃ l, keyOf P k (f p).1 = some l := by obtain ⟨_, _, _, _, _, hz⟩ := h; exact hz p hm
 obtain ⟨es, clock, hb, hs, hq, h1⟩ := mapAs_find K h (f p).1 hk
 obtain ⟨lk, hlk⟩ := hk
 rcases h1 with ⟨_, _, h2⟩ | ⟨j, e0, p', h1, _, _, _, hm', he⟩
 · exact absurd rfl (h2 _ hm)
 · have e := h.one hm hm' he.symm
   subst e
   cases ok <;> simp [Instr.lookup, run_underlying ht, MapKept.run_getObj_map hb, K.check w _ hlk, h1, Result.andThen]
/-- 'm[k] = v', a new key. -/
theorem mapAs_put (h : MapAs P k f w km ps) (p : α) (hk : ∃ l, keyOf P k (f p).1 = some l) (h0 : ∀ q ∈ ps, (f q).1 ≠ (f p).1) : ∃ w', (Instr.mapUpdate t (.map (some km)) (f p).1 (f p).2).run P w = .ok () w' ∧ MapAs P k f w' km (p :: ps) ∧ w.grownBy w' (some km) ∧ w'.heap.size = w.heap.size := by
 have hz : ∀ p ∈ ps, ∃ l, keyOf P k (f p).1 = some l := by obtain ⟨_, _, _, _, _, hz⟩ := h; exact hz
 have hk2 := hk
 obtain ⟨es, clock, hb, hs, hq, h1⟩ := mapAs_find K h (f p).1 hk
 obtain ⟨lk, hlk⟩ := hk
 have hgr : ∀ o', w.grownBy (setBlock w km o') (some km) := fun o' => ⟨rfl, rfl, rfl, by simp [setBlock], fun i _ hi => ChangeMaps.heap_setBlock_other hb _ (fun e => hi (by rw [e]))⟩
 rcases h1 with ⟨h1, h2, _⟩ | ⟨j, e0, p', _, _, _, _, hm, he⟩
 · refine ⟨setBlock w km (.map (es.push ⟨(f p).1, (f p).2, clock⟩) (clock + 1)), ?_, ⟨_, _, ChangeMaps.heap_setBlock_same hb _, MapKept.stamped_push hs h2, ?_, fun q hq => ?_⟩, hgr _, by simp [setBlock]⟩
   · simp [Instr.mapUpdate, run_underlying ht, MapKept.run_getObj_map hb, K.check w false hlk, h1, MapKept.run_setObj_map _ hb, Result.andThen, setBlock]
   · rw [Array.toList_push, List.map_append, List.map_cons]
     exact (List.perm_append_singleton _ _).trans (hq.cons _)
   · rcases List.mem_cons.1 hq with rfl | hq
     · exact hk2
     · exact hz q hq
 · exact absurd he (h0 _ hm)
/-- 'm[k] = v', a key that is there. -/
theorem mapAs_set {p0 : α} (h : MapAs P k f w km (p0 :: ps)) (p : α) (h0 : (f p0).1 = (f p).1) : ∃ w', (Instr.mapUpdate t (.map (some km)) (f p).1 (f p).2).run P w = .ok () w' ∧ MapAs P k f w' km (p :: ps) ∧ w.grownBy w' (some km) ∧ w'.heap.size = w.heap.size := by
 have hz : ∀ p ∈ p0 :: ps, ∃ l, keyOf P k (f p).1 = some l := by obtain ⟨_, _, _, _, _, hz⟩ := h; exact hz
 have hk : ∃ l, keyOf P k (f p).1 = some l := by have := hz p0 (by simp); rw [h0] at this; exact this
 have hk2 := hk
 obtain ⟨es, clock, hb, hs, hq, h1⟩ := mapAs_find K h (f p).1 hk
 obtain ⟨lk, hlk⟩ := hk
 have hgr : ∀ o', w.grownBy (setBlock w km o') (some km) := fun o' => ⟨rfl, rfl, rfl, by simp [setBlock], fun i _ hi => ChangeMaps.heap_setBlock_other hb _ (fun e => hi (by rw [e]))⟩
 rcases h1 with ⟨h1, h2, h3⟩ | ⟨j, e0, p', h1, h2, h3, h4, hm, he⟩
 · exact absurd h0 (h3 _ (by simp))
 · have e2 : p0 = p' := h.one (by simp) hm (h0.trans he.symm)
   subst e2
   have hj : es[j]? = some e0 := by simpa using h2
   have hkeyf : ∀ e', es[j]? = some e' → ({ e' with key := (f p).1, val := (f p).2 } : MapEntry).key = e'.key := fun e' he' => by rw [hj] at he'; cases he'; exact h3.symm
   have hlist : (es.modify j (fun e' => { e' with key := (f p).1, val := (f p).2 })).toList = es.toList.set j { e0 with key := (f p).1, val := (f p).2 } := by rw [Array.toList_modify, ChangeMaps.modify_eq_set _ _ _ _ h2]
   refine ⟨setBlock w km (.map (es.modify j (fun e' => { e' with key := (f p).1, val := (f p).2 })) clock), ?_, ⟨_, _, ChangeMaps.heap_setBlock_same hb _, MapKept.stamped_modify hs _ _ (fun _ _ => rfl) (fun e' _ he' => hkeyf e' he'), ?_, fun q hq => ?_⟩, hgr _, by simp [setBlock]⟩
   · simp [Instr.mapUpdate, run_underlying ht, MapKept.run_getObj_map hb, K.check w false hlk, h1, hj, h3, K.stays w hlk, MapKept.run_setObj_map _ hb, Result.andThen, setBlock]
   · obtain ⟨s1, s2⟩ := permAs_set es.toList j e0 { e0 with key := (f p).1, val := (f p).2 } h2
     have e1 : entryP e0 = f p0 := by
      show (e0.key, e0.val) = _
      rw [h3, h4, ← h0]
     have a1 := (s2.map entryP).symm.trans hq
     rw [List.map_cons, List.map_cons, e1] at a1
     rw [hlist]
     refine (s1.map entryP).trans ?_
     rw [List.map_cons, List.map_cons]
     exact a1.cons_inv.cons _
   · rcases List.mem_cons.1 hq with rfl | hq
     · exact hk2
     · exact hz q (by simp [hq])
end
/-- 'for .. range m' under way: block km is the map, block r the iterator; 'dn' has come, 'left' has not come yet. -/
def RangeAs (P : Program) (k : TypeId) (f : α → Value × Value) (w : World) (km r : Nat) (ps dn left : List α) : Prop :=
 ∃ es clock since seen c0, w.heap[km]? = some (.map es clock) ∧ MapKept.Stamped es clock ∧ (es.toList.map entryP).Perm (ps.map f) ∧ (∀ p ∈ ps, ∃ l, keyOf P k (f p).1 = some l) ∧
   w.heap[r]? = some (.mapIter (some km) since seen c0) ∧ (∀ x ∈ es.toList, x.born < since) ∧ since ≤ c0 ∧ since ≤ clock ∧ ((leftOf es seen).toList.map entryP).Perm (left.map f) ∧ ps.Perm (dn ++ left)
variable {dn left : List α} {r : Nat}
theorem RangeAs.map (h : RangeAs P k f w km r ps dn left) : MapAs P k f w km ps := by
 obtain ⟨es, clock, since, seen, c0, hb, hs, hq, hz, _⟩ := h
 exact ⟨es, clock, hb, hs, hq, hz⟩
theorem RangeAs.all (h : RangeAs P k f w km r ps dn left) : ps.Perm (dn ++ left) := by
 obtain ⟨es, clock, since, seen, c0, hb, hs, hq, hz, hr, h1, h2, h3, h4, h5⟩ := h
 exact h5
theorem RangeAs.lt (h : RangeAs P k f w km r ps dn left) : r < w.heap.size := by
 obtain ⟨es, clock, since, seen, c0, hb, hs, hq, hz, hr, _⟩ := h
 exact (Array.getElem?_eq_some_iff.1 hr).1
theorem RangeAs.same (h : RangeAs P k f w km r ps dn left) (h1 : w'.heap[km]? = w.heap[km]?) (h2 : w'.heap[r]? = w.heap[r]?) : RangeAs P k f w' km r ps dn left := by
 obtain ⟨es, clock, since, seen, c0, hb, hs, hq, hz, hr, rest⟩ := h
 exact ⟨es, clock, since, seen, c0, h1.trans hb, hs, hq, hz, h2.trans hr, rest⟩
theorem RangeAs.on (h : RangeAs P k f w km r ps dn left) (hb : Below w.heap.size w w') : RangeAs P k f w' km r ps dn left := h.same (hb.block km h.map.lt) (hb.block r h.lt)
theorem RangeAs.grown {q : Option Nat} (h : RangeAs P k f w km r ps dn left) (hg : w.grownBy w' q) (h1 : q ≠ some km) (h2 : q ≠ some r) : RangeAs P k f w' km r ps dn left := h.same (hg.block km h.map.lt fun e => h1 e.symm) (hg.block r h.lt fun e => h2 e.symm)
theorem RangeAs.ne (h : RangeAs P k f w km r ps dn left) : r ≠ km := by
 obtain ⟨es, clock, since, seen, c0, hb, hs, hq, hz, hr, _⟩ := h
 intro e
 rw [e, hb] at hr
 cases hr
end
end Go.Proofs.Ytbejincejbnbaaa
namespace Go.Proofs.Ytbejincejbnbaaa
open Go.RowKit
open Go.SeqMath
open Go.ProdMath
open Go.BatMath hiding AllB getD_lt take_all
set_option linter.unusedVariables false

/-- An entry: the producer's number, and its state. -/
def pmE (m : PM) : Value × Value := (.int .i64 m.p.id, .agg #[.int .i64 m.p.id, .int .i64 m.p.epoch, .slice m.ad m.p.last.length m.cap, .int .i64 m.p.opn])
abbrev TcMap (w : World) (km : Nat) (ms : List PM) : Prop := MapAs Try.prog 2 pmE w km ms
theorem keyI : Maps.Keyed Try.prog 2 := Maps.int_keyed Try.underlying2
theorem tcMapT : Try.prog.underlying 110 = some (.map 2 103) := Try.underlying110
theorem wf_i64 {n : Int} (h0 : -9223372036854775808 ≤ n) (h1 : n ≤ 9223372036854775807) : (Lit.int .i64 n).wf = true := by
 have e1 : IntKind.i64.min = -9223372036854775808 := rfl
 have e2 : IntKind.i64.max = 9223372036854775807 := rfl
 simp only [Lit.wf, e1, e2, Bool.and_eq_true, decide_eq_true_eq]
 omega
theorem key_int {n : Int} (h0 : -9223372036854775808 ≤ n) (h1 : n ≤ 9223372036854775807) : ∃ l, keyOf Try.prog 2 (.int .i64 n) = some l := ⟨_, Maps.keyOf_int_mk Try.underlying2 (wf_i64 h0 h1)⟩
/-! lists of them -/
def lookM (ms : List PM) (k : Int) : Option PM := ms.find? fun m => decide (m.p.id = k)
theorem lookM_p : ∀ (ms : List PM) (k : Int), (lookM ms k).map (·.p) = lookD (pds ms) k
 | [], k => rfl
 | m :: ms, k => by
   have ih := lookM_p ms k
   show _ = lookD (m.p :: pds ms) k
   rw [look_cons]
   unfold lookM at ih ⊢
   rw [List.find?_cons]
   by_cases h : m.p.id = k
   · rw [decide_eq_true h, if_pos h]; rfl
   · rw [decide_eq_false h, if_neg h]; exact ih
theorem lookM_some {ms : List PM} {k : Int} {m : PM} (h : lookM ms k = some m) : m ∈ ms ∧ m.p.id = k := ⟨List.mem_of_find?_eq_some h, by simpa using List.find?_some h⟩
theorem lookM_none {ms : List PM} {k : Int} (h : lookM ms k = none) : ∀ m ∈ ms, m.p.id ≠ k := by
 unfold lookM at h
 rw [List.find?_eq_none] at h
 intro m hm e
 exact h m hm (by simp [e])
def insM : List PM → PM → List PM
 | [], x => [x]
 | m :: ms, x => if m.p.id < x.p.id then m :: insM ms x else if m.p.id = x.p.id then x :: ms else x :: m :: ms
theorem insM_pds : ∀ (ms : List PM) (x : PM), pds (insM ms x) = insD (pds ms) x.p
 | [], x => rfl
 | m :: ms, x => by
   have ih := insM_pds ms x
   show pds (insM (m :: ms) x) = insD (m.p :: pds ms) x.p
   unfold insM insD
   split
   · show m.p :: pds (insM ms x) = _
     rw [ih]
   · split <;> rfl
theorem insM_new : ∀ (ms : List PM) (x : PM), (∀ m ∈ ms, m.p.id ≠ x.p.id) → (insM ms x).Perm (x :: ms)
 | [], x, _ => List.Perm.refl _
 | m :: ms, x, h => by
   unfold insM
   split
   · exact ((insM_new ms x fun q hq => h q (by simp [hq])).cons m).trans (List.Perm.swap _ _ _)
   · rw [if_neg (h m (by simp))]
theorem insM_old : ∀ (ms : List PM) (x m0 : PM), Asc (pds ms) → m0 ∈ ms → m0.p.id = x.p.id → ∃ rest, ms.Perm (m0 :: rest) ∧ (insM ms x).Perm (x :: rest)
 | m :: ms, x, m0, ha, hm, e => by
   have h1 := asc_head (p := m.p) (l := pds ms) ha
   unfold insM
   rcases List.mem_cons.1 hm with rfl | hm
   · rw [if_neg (by omega), if_pos e]
     exact ⟨ms, List.Perm.refl _, List.Perm.refl _⟩
   · have h2 := h1 m0.p (List.mem_map.2 ⟨m0, hm, rfl⟩)
     rw [if_pos (by omega)]
     obtain ⟨rest, r1, r2⟩ := insM_old ms x m0 (asc_tail (p := m.p) (l := pds ms) ha) hm e
     exact ⟨m :: rest, (r1.cons m).trans (List.Perm.swap _ _ _), (r2.cons m).trans (List.Perm.swap _ _ _)⟩
/-! what a block is -/
def IsMap (w : World) (k : Nat) : Prop := ∃ es c, w.heap[k]? = some (.map es c)
/-- A block that is one slice, of whatever type. -/
def IsSl (w : World) (k : Nat) : Prop := ∃ ad n cap t, w.heap[k]? = some (.cells #[.slice ad n cap] t (0, 0))
theorem cell_map {w : World} {k j : Nat} {x : Option Nat} (h : IsMap w k) : w.cell? ⟨k, j, none⟩ = none := by
 obtain ⟨es, c, h⟩ := h
 simp [World.cell?, h]
theorem MapAs.is {α : Type} {P : Program} {t : TypeId} {f : α → Value × Value} {w : World} {km : Nat} {ps : List α} (h : MapAs P t f w km ps) : IsMap w km := by
 obtain ⟨es, c, hb, _⟩ := h
 exact ⟨es, c, hb⟩
section
variable {α : Type} {K : Kind α} {w w' : World} {ad : Option Addr} {len cap k : Nat} {l : List α}
theorem RowAt.past_map (h : RowAt K w ad len cap l) (hg : w.grownBy w' (some k)) (hk : IsMap w k) : RowAt K w' ad len cap l := by
 refine ⟨h.length, h.fits, h.room, ?_⟩
 rcases h.cells with h0 | ⟨b, off, e, hlt, hc⟩
 · exact .inl h0
 · refine .inr ⟨b, off, e, Nat.lt_of_lt_of_le hlt hg.size, fun i x hi j u hj => hg.cell (hc i x hi j u hj) (fun e2 => ?_)⟩
   have h3 := hc i x hi j u hj
   have e3 : b = k := Option.some.inj e2
   rw [e3, cell_map (x := none) hk] at h3
   cases h3
end
theorem LastsAt.past_map {w w' : World} {k : Nat} {ms : List PM} (h : LastsAt w ms) (hg : w.grownBy w' (some k)) (hk : IsMap w k) : LastsAt w' ms := fun m hm => (h m hm).past_map hg hk
theorem TabBox.is {w : World} {k len cap : Nat} {ad : Option Addr} (h : TabBox w k (.slice ad len cap)) : IsSl w k := ⟨ad, len, cap, _, h⟩
/-- The document's own table stays where a map turns. -/
theorem TabOk.past_map {w w' : World} {kt k : Nat} {ad : Option Addr} {len cap : Nat} {ms : List PM} (h : TabOk w kt ad len cap ms) (hg : w.grownBy w' (some k)) (hk : IsMap w k) : TabOk w' kt ad len cap ms :=
 ⟨⟨h.tab.box.grown hg (fun e => by
  obtain ⟨es, c, hm⟩ := hk
  have hb := h.tab.box
  unfold TabBox at hb
  rw [← Option.some.inj e, hm] at hb
  cases hb), ⟨h.tab.pds.row.past_map hg hk, h.tab.pds.ins.past_map hg hk⟩⟩, fun a ha => ⟨(h.row a ha).1, Nat.lt_of_lt_of_le (h.row a ha).2 hg.size⟩, fun m hm a ha => ⟨(h.ins m hm a ha).1, Nat.lt_of_lt_of_le (h.ins m hm a ha).2 hg.size⟩⟩
/-! the code's table -/
def TcBox (w : World) (kt km : Nat) : Prop := w.heap[kt]? = some (.cells #[.map (some km)] 112 (0, 0))
section
variable {w w' : World} {kt km : Nat}
theorem TcBox.c0 (h : TcBox w kt km) : w.cell? ⟨kt, 0, none⟩ = some (.map (some km)) := by rw [cell_of_row _ _ 0 _ _ _ h]; rfl
theorem TcBox.free (h : TcBox w kt km) (j : Nat) : w.frozen? ⟨kt, j, none⟩ = false := frozen_of_row w kt j _ _ h
theorem TcBox.lt (h : TcBox w kt km) : kt < w.heap.size := lt_of_block h
theorem TcBox.same (h : TcBox w kt km) (he : w'.heap[kt]? = w.heap[kt]?) : TcBox w' kt km := he.trans h
theorem TcBox.on (h : TcBox w kt km) (hb : Below w.heap.size w w') : TcBox w' kt km := h.same (hb.block kt h.lt)
end
structure TcOk (w : World) (kt km : Nat) (ms : List PM) : Prop where
 box : TcBox w kt km
 map : TcMap w km ms
 ins : LastsAt w ms
section
variable {w w' : World} {kt km k : Nat} {ms : List PM}
theorem TcOk.keep (h : TcOk w kt km ms) (hb : Below w.heap.size w w') : TcOk w' kt km ms := ⟨h.box.on hb, h.map.on hb, h.ins.keep hb⟩
theorem TcBox.past_map (h : TcBox w kt km) (hg : w.grownBy w' (some k)) (hk : IsMap w k) : TcBox w' kt km := h.same (hg.block kt h.lt fun e => by
 obtain ⟨es, c, hm⟩ := hk
 unfold TcBox at h
 rw [Option.some.inj e, hm] at h
 cases h)
/-- Another map turns. -/
theorem TcOk.past_map (h : TcOk w kt km ms) (hg : w.grownBy w' (some k)) (hk : IsMap w k) (hne : k ≠ km) : TcOk w' kt km ms :=
 ⟨h.box.past_map hg hk, h.map.grown hg (fun e => hne (Option.some.inj e)), h.ins.past_map hg hk⟩
end
def GivesNewT (w : World) (e : Ending) (w' : World) : Prop := ∃ kt km, e = .returned (.pointer (some ⟨kt, 0, none⟩)) ∧ TcOk w' kt km [] ∧ Below w.heap.size w w' ∧ w.heap.size ≤ kt ∧ w.heap.size ≤ km
set_option maxRecDepth 100000 in
theorem tcNew_any (w : World) : Calls Try.prog 37 #[] w (GivesNewT w) := by
 have hmm := @run_makeMap Try.prog
 go_enter Try.func37, Try.ntmps37
 go_wp2
 go_ret
 have hb : Below w.heap.size w ((w.alloc (.map #[] 0)).alloc (.cells #[.map (some w.heap.size)] 112)) := ((Below.refl _ w).alloc (Nat.le_refl _) _).alloc (by simp) _
 refine ⟨_, _, rfl, ⟨?_, ?_, fun m hm => by cases hm⟩, hb, by simp, Nat.le_refl _⟩
 · have h1 := heap_alloc_new (w.alloc (.map #[] 0)) (.cells #[.map (some w.heap.size)] 112)
   show (_ : World).heap[_]? = _
   simpa using h1
 · exact (mapAs_new Try.prog 2 pmE w).on ((Below.refl _ _).alloc (by simp) _)
theorem tcOpen_any (w : World) (id ep op : Int) (ad : Option Addr) (n cap : Nat) (r : Bool) (hr : decide (0 ≤ op) = r) :
 Calls Try.prog 56 #[.agg #[.int .i64 id, .int .i64 ep, .slice ad n cap, .int .i64 op]] w fun e w' => e = .returned (.bool r) ∧ Below w.heap.size w w' := by
 have HR := Lib.hid hr
 clear hr
 obtain ⟨W0, hW0⟩ : ∃ W0, W0 = (w.alloc (.cells #[.int .i64 id, .int .i64 ep, .slice ad n cap, .int .i64 op] 103)) := ⟨_, rfl⟩
 have HB0 : Hid (Below w.heap.size w W0) := by show Below _ _ _; rw [hW0]; exact (Below.refl _ _).alloc (Nat.le_refl _) _
 have HP0 : Hid (PBox W0 w.heap.size (id) (ep) (.slice ad n cap) (op)) := by
  show PBox _ w.heap.size (id) (ep) (.slice ad n cap) (op)
  rw [hW0]
  have h1 := pbox_new w (id) (ep) (.slice ad n cap) (op)
  simpa using h1
 have HW0 := Lib.hid hW0
 clear hW0
 obtain ⟨B1, hB1⟩ : ∃ B, B = w.heap.size := ⟨_, rfl⟩
 rw [← hB1] at HP0
 go_enter Try.func56, Try.ntmps56
 go_upto_region 1 with fail
 rw [← HW0.out, ← hB1]
 clear HW0 hB1
 have q3 := HP0.out.c3
 go_wp2
 go_ret
 exact ⟨by rw [← HR.out]; rfl, HB0.out⟩
end Go.Proofs.Ytbejincejbnbaaa
namespace Go.Proofs.Ytbejincejbnbaaa
open Go.RowKit
open Go.AbMath
open Go.ProdMath
open Go.BatMath hiding AllB getD_lt take_all
set_option linter.unusedVariables false

/-- The greatest Last, or -1. -/
def maxL (l : List Dr) : Int := l.foldl (fun z d => max z d.last) (-1)
theorem maxL_nil : maxL [] = -1 := rfl
theorem maxL_snoc (l : List Dr) (d : Dr) : maxL (l ++ [d]) = max (maxL l) d.last := by unfold maxL; rw [List.foldl_append]; rfl
theorem maxL_lt : ∀ (l : List Dr) (a z : Int), a < z → (∀ d ∈ l, d.last < z) → l.foldl (fun z d => max z d.last) a < z
 | [], a, z, h, _ => h
 | d :: l, a, z, h, hd => maxL_lt l _ z (by have := hd d (by simp); show max a d.last < z; omega) fun q hq => hd q (by simp [hq])
theorem maxL_is {l : List Dr} (h : DrsOk l) : maxL l = lastD l := by
 rcases List.eq_nil_or_concat l with e | ⟨i, q, e⟩
 · subst e; rfl
 · rw [List.concat_eq_append] at e
   subst e
   have h1 := h.each q (by simp)
   have h2 : maxL i < q.last := maxL_lt i _ _ (by unfold DrOk at h1; omega) fun d hd => (List.pairwise_append.1 h.asc).2.2 d hd q (by simp)
   rw [maxL_snoc, lastD_snoc]
   omega
/-- The box of a list. -/
def AcBox (w : World) (k : Nat) (v : Value) (z : Int) : Prop := w.heap[k]? = some (.cells #[v, .int .i64 z] 91 (0, 0))
section
variable {w w' : World} {k : Nat} {v : Value} {z : Int}
theorem AcBox.c0 (h : AcBox w k v z) : w.cell? ⟨k, 0, none⟩ = some v := by rw [cell_of_row _ _ 0 _ _ _ h]; rfl
theorem AcBox.c1 (h : AcBox w k v z) : w.cell? ⟨k, 1, none⟩ = some (.int .i64 z) := by rw [cell_of_row _ _ 1 _ _ _ h]; rfl
theorem AcBox.free (h : AcBox w k v z) (j : Nat) : w.frozen? ⟨k, j, none⟩ = false := frozen_of_row w k j _ _ h
theorem AcBox.lt (h : AcBox w k v z) : k < w.heap.size := lt_of_block h
theorem AcBox.same (h : AcBox w k v z) (hs : w'.heap[k]? = w.heap[k]?) : AcBox w' k v z := hs.trans h
theorem AcBox.s0 (h : AcBox w k v z) (u : Value) : AcBox (w.setCell ⟨k, 0, none⟩ u) k u z := box_set h 0 _
theorem AcBox.s1 (h : AcBox w k v z) (u : Int) : AcBox (w.setCell ⟨k, 1, none⟩ (.int .i64 u)) k v u := box_set h 1 _
end
/-- A row's block tells what lies in it. -/
theorem ac_type {α : Type} {K : Kind α} {w : World} {b : Nat} {v : Value} {l : List α} {q : Nat} (h : OwnRow K w b v l) (hq : v.ownBlock = some q) : ∃ cur, w.heap[q]? = some (.cells cur K.ty (0, 0)) := by
 rcases h.2 with ⟨h0, _⟩ | ⟨g, cap, cur, h1, _, h2, _⟩
 · rw [h0] at hq; cases hq
 · rw [h1] at hq
   cases hq
   exact ⟨cur, h2⟩
structure AcAt (w : World) (k : Nat) (l : List Dr) (v : Value) : Prop where
 box : AcBox w k v (maxL l)
 row : OwnRow drK w 0 v l
/-- The blocks that it has. -/
def AFoot (k : Nat) (v : Value) (j : Nat) : Prop := j = k ∨ v.ownBlock = some j
theorem ac_vk {w : World} {k : Nat} {l : List Dr} {v u : Value} {z : Int} (hb : AcBox w k u z) (hr : OwnRow drK w 0 v l) : v.ownBlock ≠ some k := fun e => by
 obtain ⟨cur, hc⟩ := ac_type hr e
 unfold AcBox at hb
 rw [hc] at hb
 simp [drK] at hb
section
variable {w w' : World} {k : Nat} {l : List Dr} {v : Value}
theorem AcAt.same (h : AcAt w k l v) (hs : ∀ j, AFoot k v j → w'.heap[j]? = w.heap[j]?) : AcAt w' k l v := ⟨h.box.same (hs k (.inl rfl)), h.row.same fun q hq => hs q (.inr hq)⟩
theorem AcAt.lt (h : AcAt w k l v) {j : Nat} (hj : AFoot k v j) : j < w.heap.size := by
 rcases hj with rfl | h1
 · exact h.box.lt
 · exact (h.row.lt j h1).2
theorem AcAt.on (h : AcAt w k l v) (hb : Below w.heap.size w w') : AcAt w' k l v := h.same fun j hj => hb.block j (h.lt hj)
theorem AcAt.vk (h : AcAt w k l v) : v.ownBlock ≠ some k := ac_vk h.box h.row
theorem AcAt.at (h : AcAt w k l v) : ∃ ad cap, v = .slice ad l.length cap ∧ RowAt drK w ad l.length cap l := by
 obtain ⟨ad, cap, h1, h2, _⟩ := h.row.at drK_ok
 exact ⟨ad, cap, h1, h2⟩
/-- A map turns. -/
theorem AcAt.past_map {km : Nat} (h : AcAt w k l v) (hg : w.grownBy w' (some km)) (hm : IsMap w km) : AcAt w' k l v := h.same fun j hj => hg.block j (h.lt hj) fun e => by
 obtain ⟨es, c, hm⟩ := hm
 rw [← Option.some.inj e] at hm
 rcases hj with rfl | h1
 · have hb := h.box
   unfold AcBox at hb
   rw [hm] at hb
   cases hb
 · obtain ⟨cur, hc⟩ := ac_type h.row h1
   rw [hm] at hc
   cases hc
end
/-- The code's list at a; F: the blocks that it is made of. -/
def AcR (F : Nat → Prop) (w : World) (a : Addr) (l : List Dr) : Prop := ∃ k v, a = ⟨k, 0, none⟩ ∧ AcAt w k l v ∧ ∀ j, F j ↔ AFoot k v j
theorem acR_lt (F : Nat → Prop) (W : World) (a : Addr) (l : List Dr) (h : AcR F W a l) : ∀ k, F k → k < W.heap.size := by
 obtain ⟨k, v, rfl, h1, h2⟩ := h
 exact fun j hj => h1.lt ((h2 j).1 hj)
theorem acR_kept (F G : Nat → Prop) (W W' : World) (a : Addr) (l : List Dr) (h : AcR F W a l) (hk : Kept W W' G) (hd : ∀ k, F k → ¬ G k) : AcR F W' a l := by
 obtain ⟨k, v, rfl, h1, h2⟩ := h
 exact ⟨k, v, rfl, h1.same fun j hj => hk.block j (h1.lt hj) (hd j ((h2 j).2 hj)), h2⟩
/-- One is appended. -/
def GivesAcPut (w : World) (k : Nat) (v : Value) (l : List Dr) (e : Ending) (w' : World) : Prop :=
 e = .returned (.tuple #[]) ∧ ∃ v', AcAt w' k l v' ∧ Kept w w' (AFoot k v) ∧ ∀ q, v'.ownBlock = some q → v.ownBlock = some q ∨ w.heap.size ≤ q
/-- A table stays where a list turns. -/
def ApartR (F : Nat → Prop) (m : PM) : Prop := m.p.last.length = 0 ∨ ∀ a, m.ad = some a → ¬ F a.block
theorem tcOk_kept {w w' : World} {kt km : Nat} {ms : List PM} {F : Nat → Prop} (h : TcOk w kt km ms) (hk : Kept w w' F) (h1 : ¬ F kt) (h2 : ¬ F km) (h3 : ∀ m ∈ ms, ApartR F m) : TcOk w' kt km ms := by
 refine ⟨h.box.same (hk.block kt h.box.lt h1), h.map.same (hk.block km h.map.lt h2), fun m hm => ?_⟩
 rcases h3 m hm with h4 | h4
 · exact ⟨(h.ins m hm).length, (h.ins m hm).fits, (h.ins m hm).room, .inl h4⟩
 · exact hk.row (h.ins m hm) h4
theorem tc_kt {w : World} {kt km k : Nat} {l : List Dr} {v : Value} (ht : TcBox w kt km) (hm : IsMap w km) (h : AcAt w k l v) : ¬ AFoot k v kt ∧ ¬ AFoot k v km := by
 refine ⟨fun hj => ?_, fun hj => ?_⟩
 · unfold TcBox at ht
   rcases hj with e | h1
   · have hb := h.box
     unfold AcBox at hb
     rw [← e, ht] at hb
     simp at hb
   · obtain ⟨cur, hc⟩ := ac_type h.row h1
     rw [ht] at hc
     simp [drK] at hc
 · obtain ⟨es, c, hm⟩ := hm
   rcases hj with e | h1
   · have hb := h.box
     unfold AcBox at hb
     rw [← e, hm] at hb
     cases hb
   · obtain ⟨cur, hc⟩ := ac_type h.row h1
     rw [hm] at hc
     cases hc
end Go.Proofs.Ytbejincejbnbaaa
namespace Go.Proofs.Ytbejincejbnbaaa
open Go.RowKit
open Go.AbMath
open Go.ProdMath
open Go.BatMath hiding AllB getD_lt take_all
set_option linter.unusedVariables false

set_option maxRecDepth 100000 in
set_option maxHeartbeats 4000000 in
theorem acNew_any (w : World) : Calls Try.prog 28 #[] w fun e w' => ∃ k, e = .returned (.pointer (some ⟨k, 0, none⟩)) ∧ AcAt w' k [] (.slice none 0 0) ∧ w.heap.size ≤ k ∧ Below w.heap.size w w' := by
 go_enter Try.func28, Try.ntmps28
 go_wp2_with fail
 go_ret
 exact ⟨_, rfl, ⟨heap_alloc_new w _, ownRow_nil _ _ _⟩, Nat.le_refl _, (Below.refl _ w).alloc (Nat.le_refl _) _⟩
set_option maxRecDepth 100000 in
set_option maxHeartbeats 8000000 in
theorem acPut_any (w : World) (k : Nat) (l : List Dr) (v : Value) (h : AcAt w k l v) (hn : l.length ≤ 1000000) (d : Dr) :
 Calls Try.prog 39 #[.pointer (some ⟨k, 0, none⟩), .agg #[.int .i64 d.prod, .int .i64 d.first, .int .i64 d.last]] w (GivesAcPut w k v (l ++ [d])) := by
 obtain ⟨x0, x1, x2⟩ := d
 simp only
 have HA := Lib.hid h
 have HN := Lib.hid hn
 obtain ⟨z, hz⟩ : ∃ z, z = maxL l := ⟨_, rfl⟩
 have HZ := Lib.hid hz
 clear h hn hz
 go_enter Try.func39, Try.ntmps39
 go_upto_region 1 with fail
 obtain ⟨w1, hw1⟩ : ∃ z, z = w.alloc (.cells #[.int .i64 x0, .int .i64 x1, .int .i64 x2] 29) := ⟨_, rfl⟩
 obtain ⟨kb, hkb⟩ : ∃ z, z = w.heap.size := ⟨_, rfl⟩
 have HB1 : Hid (Below w.heap.size w w1) := by show Below _ _ _; rw [hw1]; exact (Below.refl _ w).alloc (Nat.le_refl _) _
 have HD1 : Hid (DBox w1 kb ⟨x0, x1, x2⟩) := by show DBox _ _ _; rw [hw1, hkb]; exact dbox_new w ⟨x0, x1, x2⟩
 have HKB : Hid (kb = w.heap.size) := hkb
 have HA1 := Lib.hid (HA.out.on HB1.out)
 rw [← hw1, ← hkb]
 clear hw1 hkb
 have hdr : Below w1.heap.size w1 w1.drew := (Below.refl _ w1).drew
 have KS : Hid (∀ V, Below w1.heap.size w1 V → (fun (V : World) => V.cell? ⟨k, 0, none⟩ = some v ∧ V.cell? ⟨kb, 0, none⟩ = some (.int .i64 x0) ∧ V.cell? ⟨kb, 1, none⟩ = some (.int .i64 x1) ∧ V.cell? ⟨kb, 2, none⟩ = some (.int .i64 x2)) V) := fun V hV => ⟨(HA1.out.on hV).box.c0, (HD1.out.on hV).c0, (HD1.out.on hV).c1, (HD1.out.on hV).c2⟩
 refine wp_region_noPanic ?_
 refine wp_region_z [10] (fun (V : World) => V.cell? ⟨k, 0, none⟩ = some v ∧ V.cell? ⟨kb, 0, none⟩ = some (.int .i64 x0) ∧ V.cell? ⟨kb, 1, none⟩ = some (.int .i64 x1) ∧ V.cell? ⟨kb, 2, none⟩ = some (.int .i64 x2)) (by kernel_rfl) ?_
 have hHeld := KS.out _ hdr
 obtain ⟨u0, hu0⟩ : ∃ u, u = w1.drew := ⟨_, rfl⟩
 rw [← hu0] at hHeld hdr
 rw [← hu0]
 clear hu0
 have HQ0 := Lib.hid hdr
 clear hdr
 refine zt 0 ?_
 refine zt 1 ?_
 refine zt 2 ?_
 refine zt 3 ?_
 refine zt 4 ?_
 refine zt 5 ?_
 refine zr 6 (fun C hC => ?_)
 go_simp
 obtain ⟨u1, hu1⟩ : ∃ u, u = u0.alloc (.cells #[.int .i64 x0, .int .i64 x1, .int .i64 x2] 29) := ⟨_, rfl⟩
 obtain ⟨g1, hg1⟩ : ∃ G, G = u0.heap.size := ⟨_, rfl⟩
 have hbb : Below u0.heap.size u0 u1 := by rw [hu1]; exact (Below.refl _ _).alloc (Nat.le_refl _) _
 have HQ1 : Hid (Below w1.heap.size w1 u1) := HQ0.out.trans (hbb.mono HQ0.out.size)
 have HRX : Hid (RowAt drK u1 (some ⟨g1, 0, none⟩) 1 1 [⟨x0, x1, x2⟩]) := by show RowAt _ _ _ _ _ _; rw [hu1, hg1]; exact rowAt_lit drK_ok u0 [⟨x0, x1, x2⟩] (by simp) _ rfl 1 rfl
 rw [← hu1, ← hg1]
 clear hu1 hg1 hbb
 have hHeld := KS.out _ HQ1.out
 refine zc hC hHeld ?_
 clear hC C
 have HAU := Lib.hid (HA1.out.on HQ1.out)
 refine zr 7 (fun C hC => ?_)
 refine held_row (by rfl) drK_ok (.tmp 8) (.tmp 10) rfl 0 l [⟨x0, x1, x2⟩] v rfl HAU.out.row (Nat.zero_le _) (some ⟨g1, 0, none⟩) 1 1 rfl HRX.out (by have := HN.out; omega) ?_
 rintro v6 u2 hap
 obtain ⟨n6, hn6⟩ : ∃ n, (l ++ [(⟨x0, x1, x2⟩ : Dr)]).length = n := ⟨_, rfl⟩
 obtain ⟨ad6, cap6, hv6, _, _⟩ := OwnRow.row drK_ok hap.1 hn6
 have HV6 := Lib.hid hv6
 clear hn6 hv6
 have HAP := Lib.hid hap
 have hbk : AcBox u2 k v z := by rw [HZ.out]; exact HAU.out.box.same (hap.2.1.block k HAU.out.box.lt fun e => HAU.out.vk e.symm)
 have HBK := Lib.hid hbk
 have HDU : Hid (DBox u2 kb ⟨x0, x1, x2⟩) := (HD1.out.on HQ1.out).grown hap.2.1 fun e => by
  have h1 := (HA.out.row.lt kb e).2
  have := HKB.out
  omega
 have hs2 : (fun (V : World) => V.cell? ⟨k, 0, none⟩ = some v ∧ V.cell? ⟨kb, 0, none⟩ = some (.int .i64 x0) ∧ V.cell? ⟨kb, 1, none⟩ = some (.int .i64 x1) ∧ V.cell? ⟨kb, 2, none⟩ = some (.int .i64 x2)) u2 := ⟨HBK.out.c0, HDU.out.c0, HDU.out.c1, HDU.out.c2⟩
 clear hap hbk
 have hHeld : (fun (V : World) => V.cell? ⟨k, 0, none⟩ = some v ∧ V.cell? ⟨kb, 0, none⟩ = some (.int .i64 x0) ∧ V.cell? ⟨kb, 1, none⟩ = some (.int .i64 x1) ∧ V.cell? ⟨kb, 2, none⟩ = some (.int .i64 x2)) u2 := hs2
 refine zc hC hHeld ?_
 clear hC C
 refine zt 8 ?_
 refine zt 9 ?_
 have p0 := HBK.out.c0
 have f0 := HBK.out.free 0
 rw [HV6.out]
 refine zr 10 (fun C hC => ?_)
 go_simp
 refine hC.out _ _ (zfree_no (by kernel_rfl)) (fun _ => ?_)
 clear hC C
 (try simp only [Act.put, List.setIfInBounds_toArray, List.set_cons_zero, List.set_cons_succ])
 refine wpAnyZ_done (by kernel_rfl) ?_ _
 refine NoPanic.normal ?_
 rw [← HV6.out]
 obtain ⟨w3, hw3⟩ : ∃ z, z = u2.setCell ⟨k, 0, none⟩ v6 := ⟨_, rfl⟩
 have hvk : v6.ownBlock ≠ some k := ac_vk HBK.out HAP.out.1
 have HBX3 : Hid (AcBox w3 k v6 z) := by show AcBox _ _ _ _; rw [hw3]; exact HBK.out.s0 v6
 have HOW3 : Hid (OwnRow drK w3 0 v6 (l ++ [⟨x0, x1, x2⟩])) := by show OwnRow _ _ _ _ _; rw [hw3]; exact HAP.out.1.grown (grow_one u2 k 0 v6) fun q hq e => hvk (hq.trans e)
 have HKN : Hid (kb ≠ k) := by show kb ≠ k; have h1 := HA.out.box.lt; have := HKB.out; omega
 have HDX3 : Hid (DBox w3 kb ⟨x0, x1, x2⟩) := by show DBox _ _ _; rw [hw3]; exact box_off HDU.out (fun e => HKN.out e.symm) _
 have HKP3 : Hid (Kept w w3 (AFoot k v)) := by
  show Kept _ _ _
  rw [hw3]
  exact ((Kept.of_below (F := AFoot k v) (HB1.out.trans (HQ1.out.mono HB1.out.size))).trans (Kept.of_own (F := AFoot k v) HAP.out.2.1 fun q hq => .inl (.inr hq)) (fun i hi => .inl hi)).trans (Kept.of_grown (F := AFoot k v) (grow_one _ _ _ _) (.inl (.inl rfl))) fun i hi => .inl hi
 have HFT : Hid (∀ q, v6.ownBlock = some q → v.ownBlock = some q ∨ w.heap.size ≤ q) := fun q hq => (HAP.out.2.2.2 q hq).imp_right fun h => Nat.le_trans (Nat.le_trans HB1.out.size HQ1.out.size) h
 rw [← hw3]
 clear hw3 hvk p0 f0 hHeld KS hs2 HAP HBK HDU HAU HA1 HD1 HQ0 HQ1 HB1
 go_upto_region 2 with fail
 have hdr : Below w3.heap.size w3 w3.drew := (Below.refl _ w3).drew
 refine wp_region_noPanic ?_
 refine wp_region_z [10] (fun (V : World) => V.cell? ⟨k, 1, none⟩ = some (.int .i64 z) ∧ V.cell? ⟨kb, 2, none⟩ = some (.int .i64 x2)) (by kernel_rfl) ?_
 have hHeld : (fun (V : World) => V.cell? ⟨k, 1, none⟩ = some (.int .i64 z) ∧ V.cell? ⟨kb, 2, none⟩ = some (.int .i64 x2)) _ := ⟨(HBX3.out.same (hdr.block k HBX3.out.lt)).c1, (HDX3.out.on hdr).c2⟩
 obtain ⟨u0, hu0⟩ : ∃ u, u = w3.drew := ⟨_, rfl⟩
 rw [← hu0] at hHeld hdr
 rw [← hu0]
 clear hu0
 have HQ0 := Lib.hid hdr
 clear hdr
 have HBU : Hid (AcBox u0 k v6 z) := HBX3.out.same (HQ0.out.block k HBX3.out.lt)
 refine zt 0 ?_
 refine zt 1 ?_
 refine zt 2 ?_
 refine zt 3 ?_
 refine zt 4 ?_
 refine zt 5 ?_
 refine zt 6 ?_
 refine zt 7 ?_
 refine zt 8 ?_
 refine zt 9 ?_
 have p1 := HBU.out.c1
 have f1 := HBU.out.free 1
 refine zr 10 (fun C hC => ?_)
 go_simp
 refine hC.out _ _ (zfree_no (by kernel_rfl)) (fun _ => ?_)
 clear hC C
 (try simp only [Act.put, List.setIfInBounds_toArray, List.set_cons_zero, List.set_cons_succ])
 refine wpAnyZ_done (by kernel_rfl) ?_ _
 refine NoPanic.normal ?_
 have hmm : (if z < x2 then x2 else z) = max z x2 := by split <;> omega
 rw [hmm]
 clear hmm
 have hmx : AcBox (u0.setCell ⟨k, 1, none⟩ (.int .i64 (max z x2))) k v6 (maxL (l ++ [⟨x0, x1, x2⟩])) := by
  rw [maxL_snoc, ← HZ.out]
  exact HBU.out.s1 _
 obtain ⟨w4, hw4⟩ : ∃ W, W = u0.setCell ⟨k, 1, none⟩ (.int .i64 (max z x2)) := ⟨_, rfl⟩
 have hvk : v6.ownBlock ≠ some k := ac_vk HBX3.out HOW3.out
 have HBX4 : Hid (AcBox w4 k v6 (maxL (l ++ [⟨x0, x1, x2⟩]))) := by show AcBox _ _ _ _; rw [hw4]; exact hmx
 have HOW4 : Hid (OwnRow drK w4 0 v6 (l ++ [⟨x0, x1, x2⟩])) := by show OwnRow _ _ _ _ _; rw [hw4]; exact (HOW3.out.on HQ0.out).grown (grow_one u0 k 1 _) fun q hq e => hvk (hq.trans e)
 have HKP4 : Hid (Kept w w4 (AFoot k v)) := by
  show Kept _ _ _
  rw [hw4]
  exact (HKP3.out.trans (Kept.of_below (F := AFoot k v) HQ0.out) (fun i hi => .inl hi)).trans (Kept.of_grown (F := AFoot k v) (grow_one _ _ _ _) (.inl (.inl rfl))) fun i hi => .inl hi
 rw [← hw4]
 clear hw4 hmx hvk p1 f1 hHeld
 go_wp2_with fail
 go_end0
 exact ⟨rfl, v6, ⟨HBX4.out, HOW4.out⟩, HKP4.out, HFT.out⟩
end Go.Proofs.Ytbejincejbnbaaa
namespace Go.Proofs.Ytbejincejbnbaaa
open Go.RowKit
open Go.AbMath
open Go.ProdMath
open Go.BatMath hiding AllB getD_lt take_all
set_option linter.unusedVariables false

theorem acAdd_no {F : Nat → Prop} {w w' : World} {k : Nat} {l : List Dr} {v : Value} {d : Dr} (h : AcAt w k l v) (hf : ∀ j, F j ↔ AFoot k v j) (hno : decide (okD (lastD l) d) = false) (hb : Below w.heap.size w w') :
 AbTurns AcR F w ⟨k, 0, none⟩ (addD l d) (.bool (decide (okD (lastD l) d))) (.returned (.bool false)) w' := by
 have e : addD l d = l := by unfold addD; rw [if_neg (of_decide_eq_false hno)]
 rw [e, hno]
 exact ⟨F, rfl, ⟨k, v, rfl, h.on hb, hf⟩, Kept.of_below hb, fun j hj => .inl hj⟩
theorem ac_turns {F : Nat → Prop} {w w1 w' : World} {k : Nat} {l' : List Dr} {v v' r : Value} (hf : ∀ j, F j ↔ AFoot k v j) (hb : Below w.heap.size w w1) (h : AcAt w' k l' v') (hk : Kept w1 w' (AFoot k v)) (hft : ∀ q, v'.ownBlock = some q → v.ownBlock = some q ∨ w1.heap.size ≤ q) :
 AbTurns AcR F w ⟨k, 0, none⟩ l' r (.returned r) w' := by
 refine ⟨AFoot k v', rfl, ⟨k, v', rfl, h, fun j => Iff.rfl⟩, (Kept.of_below (F := F) hb).trans (hk.more fun i hi => (hf i).2 hi) fun i hi => .inl hi, fun j hj => ?_⟩
 rcases hj with rfl | h1
 · exact .inl ((hf _).2 (.inl rfl))
 · rcases hft j h1 with h2 | h2
   · exact .inl ((hf _).2 (.inr h2))
   · exact .inr (Nat.le_trans hb.size h2)
theorem acAdd_yes {F : Nat → Prop} {w w1 w' : World} {k : Nat} {l : List Dr} {v v' : Value} {d : Dr} (hf : ∀ j, F j ↔ AFoot k v j) (hyes : decide (okD (lastD l) d) = true) (hb : Below w.heap.size w w1) (h : AcAt w' k (l ++ [d]) v') (hk : Kept w1 w' (AFoot k v)) (hft : ∀ q, v'.ownBlock = some q → v.ownBlock = some q ∨ w1.heap.size ≤ q) :
 AbTurns AcR F w ⟨k, 0, none⟩ (addD l d) (.bool (decide (okD (lastD l) d))) (.returned (.bool true)) w' := by
 have e : addD l d = l ++ [d] := by unfold addD; rw [if_pos (of_decide_eq_true hyes)]
 rw [e, hyes]
 exact ac_turns hf hb h hk hft
set_option maxRecDepth 100000 in
set_option maxHeartbeats 8000000 in
theorem acAdd_any (F : Nat → Prop) (w : World) (a : Addr) (l : List Dr) (d : Dr) (h : AcR F w a l) (hok : DrsOk l) (hn : l.length ≤ 1000000) :
 Calls Try.prog 29 #[.pointer (some a), .agg #[.int .i64 d.prod, .int .i64 d.first, .int .i64 d.last]] w (AbTurns AcR F w a (addD l d) (.bool (decide (okD (lastD l) d)))) := by
 obtain ⟨k, v, rfl, h, hf⟩ := h
 obtain ⟨x0, x1, x2⟩ := d
 simp only
 have HA := Lib.hid h
 have HN := Lib.hid hn
 have HF := Lib.hid hf
 obtain ⟨z, hz⟩ : ∃ z, z = maxL l := ⟨_, rfl⟩
 have HBX := h.box
 rw [← hz] at HBX
 have HBX := Lib.hid HBX
 have HZ : Hid (z = lastD l) := hz.trans (maxL_is hok)
 have HRES : Hid (∀ r, (r = true ↔ (0 ≤ x0 ∧ 0 ≤ x1 ∧ max x1 z < x2 ∧ x2 ≤ 1099511627776)) → decide (okD (lastD l) ⟨x0, x1, x2⟩) = r) := by
  intro r hr
  rw [← HZ.out]
  have e : okD z ⟨x0, x1, x2⟩ ↔ (0 ≤ x0 ∧ 0 ≤ x1 ∧ max x1 z < x2 ∧ x2 ≤ 1099511627776) := by
   unfold okD DrOk
   simp only
   omega
  cases r with
  | true => exact decide_eq_true (e.2 (hr.1 rfl))
  | false => exact decide_eq_false fun h => by have := hr.2 (e.1 h); cases this
 clear h hn hf hz hok
 obtain ⟨m, hm⟩ : ∃ m, m = max x1 z := ⟨_, rfl⟩
 have hm1 : max x1 z = m := hm.symm
 rw [hm1] at HRES
 have hm2 : (if x1 < z then z else x1) = m := by rw [hm]; split <;> omega
 clear hm
 go_enter Try.func29, Try.ntmps29
 go_upto_region 1 with fail
 obtain ⟨w1, hw1⟩ : ∃ z, z = w.alloc (.cells #[.int .i64 x0, .int .i64 x1, .int .i64 x2] 29) := ⟨_, rfl⟩
 obtain ⟨kb, hkb⟩ : ∃ z, z = w.heap.size := ⟨_, rfl⟩
 have HB1 : Hid (Below w.heap.size w w1) := by show Below _ _ _; rw [hw1]; exact (Below.refl _ w).alloc (Nat.le_refl _) _
 have HD1 : Hid (DBox w1 kb ⟨x0, x1, x2⟩) := by show DBox _ _ _; rw [hw1, hkb]; exact dbox_new w ⟨x0, x1, x2⟩
 have HA1 := Lib.hid (HA.out.on HB1.out)
 have HBX1 := Lib.hid (HBX.out.same (HB1.out.block k HBX.out.lt))
 rw [← hw1, ← hkb]
 clear hw1 hkb
 have r0 := HD1.out.c0
 have r1 := HD1.out.c1
 have r2 := HD1.out.c2
 have q1 := HBX1.out.c1
 by_cases e0 : x0 < 0
 · have HNO : Hid (decide (okD (lastD l) ⟨x0, x1, x2⟩) = false) := HRES.out false ⟨fun h => (by cases h), fun h => by omega⟩
   have d0 : decide (x0 < 0) = true := decide_eq_true (by omega)
   clear HRES
   go_quiet (fail)
   obtain ⟨W0, hW0⟩ : ∃ z, z = w1.drewN nq := ⟨_, rfl⟩
   have HBT : Hid (Below w.heap.size w W0) := HB1.out.trans (by rw [hW0]; exact (below_drewN (Below.refl _ w1) nq).mono HB1.out.size)
   rw [← hW0]
   clear hW0 r0 r1 r2 q1
   go_wp2_with fail
   go_ret
   exact acAdd_no HA.out HF.out HNO.out HBT.out
 by_cases e1 : x1 < 0
 · have HNO : Hid (decide (okD (lastD l) ⟨x0, x1, x2⟩) = false) := HRES.out false ⟨fun h => (by cases h), fun h => by omega⟩
   have d0 : decide (x0 < 0) = false := decide_eq_false (by omega)
   have d1 : decide (x1 < 0) = true := decide_eq_true (by omega)
   clear HRES
   go_quiet (fail)
   obtain ⟨W0, hW0⟩ : ∃ z, z = w1.drewN nq := ⟨_, rfl⟩
   have HBT : Hid (Below w.heap.size w W0) := HB1.out.trans (by rw [hW0]; exact (below_drewN (Below.refl _ w1) nq).mono HB1.out.size)
   rw [← hW0]
   clear hW0 r0 r1 r2 q1
   go_wp2_with fail
   go_ret
   exact acAdd_no HA.out HF.out HNO.out HBT.out
 by_cases e2 : x2 ≤ m
 · have HNO : Hid (decide (okD (lastD l) ⟨x0, x1, x2⟩) = false) := HRES.out false ⟨fun h => (by cases h), fun h => by omega⟩
   have d0 : decide (x0 < 0) = false := decide_eq_false (by omega)
   have d1 : decide (x1 < 0) = false := decide_eq_false (by omega)
   have d2 : decide (x2 ≤ m) = true := decide_eq_true (by omega)
   clear HRES
   go_quiet (fail)
   obtain ⟨W0, hW0⟩ : ∃ z, z = w1.drewN nq := ⟨_, rfl⟩
   have HBT : Hid (Below w.heap.size w W0) := HB1.out.trans (by rw [hW0]; exact (below_drewN (Below.refl _ w1) nq).mono HB1.out.size)
   rw [← hW0]
   clear hW0 r0 r1 r2 q1
   go_wp2_with fail
   go_ret
   exact acAdd_no HA.out HF.out HNO.out HBT.out
 by_cases e3 : 1099511627776 < x2
 · have HNO : Hid (decide (okD (lastD l) ⟨x0, x1, x2⟩) = false) := HRES.out false ⟨fun h => (by cases h), fun h => by omega⟩
   have d0 : decide (x0 < 0) = false := decide_eq_false (by omega)
   have d1 : decide (x1 < 0) = false := decide_eq_false (by omega)
   have d2 : decide (x2 ≤ m) = false := decide_eq_false (by omega)
   have d3 : decide (1099511627776 < x2) = true := decide_eq_true (by omega)
   clear HRES
   go_quiet (fail)
   obtain ⟨W0, hW0⟩ : ∃ z, z = w1.drewN nq := ⟨_, rfl⟩
   have HBT : Hid (Below w.heap.size w W0) := HB1.out.trans (by rw [hW0]; exact (below_drewN (Below.refl _ w1) nq).mono HB1.out.size)
   rw [← hW0]
   clear hW0 r0 r1 r2 q1
   go_wp2_with fail
   go_ret
   exact acAdd_no HA.out HF.out HNO.out HBT.out
 have HYES : Hid (decide (okD (lastD l) ⟨x0, x1, x2⟩) = true) := HRES.out true ⟨fun _ => (by omega), fun h => rfl⟩
 have d0 : decide (x0 < 0) = false := decide_eq_false (by omega)
 have d1 : decide (x1 < 0) = false := decide_eq_false (by omega)
 have d2 : decide (x2 ≤ m) = false := decide_eq_false (by omega)
 have d3 : decide (1099511627776 < x2) = false := decide_eq_false (by omega)
 clear HRES e0 e1 e2 e3
 go_quiet (fail)
 obtain ⟨W0, hW0⟩ : ∃ z, z = w1.drewN nq := ⟨_, rfl⟩
 have hbq : Below w1.heap.size w1 W0 := by rw [hW0]; exact below_drewN (Below.refl _ w1) nq
 have HBT : Hid (Below w.heap.size w W0) := HB1.out.trans (hbq.mono HB1.out.size)
 have HA2 := Lib.hid (HA1.out.on hbq)
 have HD2 := Lib.hid (HD1.out.on hbq)
 rw [← hW0]
 clear hW0 hbq r0 r1 r2 q1 d0 d1 d2 d3
 have r0 := HD2.out.c0
 have r1 := HD2.out.c1
 have r2 := HD2.out.c2
 go_wp2_with fail
 refine (acPut_any W0 k l v HA2.out HN.out ⟨x0, x1, x2⟩).mono ?_
 rintro e w3 ⟨rfl, v', hat, hkp, hft⟩
 have HAT := Lib.hid hat
 have HKP := Lib.hid hkp
 have HFT := Lib.hid hft
 clear hat hkp hft r0 r1 r2
 go_wp2_with fail
 go_ret
 exact acAdd_yes HF.out HYES.out HBT.out HAT.out HKP.out HFT.out
end Go.Proofs.Ytbejincejbnbaaa
namespace Go.Proofs.Ytbejincejbnbaaa
open Go.RowKit
open Go.AbMath
open Go.ProdMath
open Go.BatMath hiding AllB getD_lt take_all
set_option linter.unusedVariables false

set_option maxRecDepth 100000 in
set_option maxHeartbeats 4000000 in
theorem acWithin_any (F : Nat → Prop) (w : World) (a : Addr) (l : List Dr) (fr t0 : Int) (h : AcR F w a l) (hok : DrsOk l) (hn : l.length ≤ 1000000) :
 Calls Try.prog 17 #[.pointer (some a), .int .i64 fr, .int .i64 t0] w (GivesDrs w (withinD l fr t0)) := by
 obtain ⟨k, v, rfl, h, _⟩ := h
 obtain ⟨ad, cap, rfl, hr⟩ := h.at
 have q0 := h.box.c0
 obtain ⟨n, hnl⟩ : ∃ n, l.length = n := ⟨_, rfl⟩
 rw [hnl] at hr q0 hn
 have H := Lib.hid hr
 have HNL := Lib.hid hnl
 have HOK : Hid (∀ d ∈ l, d.first < d.last) := fun d hd => by have := hok.each d hd; unfold DrOk at this; omega
 clear h hr hnl hok
 go_enter Try.func17, Try.ntmps17
 go_wp2_with fail
 clear q0
 go_loopw [7, 16] (fun v7 v16 wr => ∃ (j : Nat) (u : Value), u = v7 ∧ v16 = .int .i64 (j : Int) ∧ j ≤ n ∧ Hid (OwnRow drK wr w.heap.size u (withinD (l.take j) fr t0)) ∧ Hid (Below w.heap.size w wr)) (fun _ v16 _ => n - (intOf v16).toNat)
 case atStart => exact ⟨0, _, rfl, rfl, Nat.zero_le _, ownRow_nil _ _ _, Below.refl _ _⟩
 case round =>
  obtain ⟨j, u, rfl, rfl, hj, HO, HB⟩ := hrel
  obtain ⟨wo, hwo⟩ : ∃ wo : World, wo = wr := ⟨_, rfl⟩
  subst hwo
  by_cases hlt : j < n
  · have hd : decide (j < n) = true := decide_eq_true hlt
    have hjl : (j : Int) < (n : Int) := by omega
    obtain ⟨bk, off, x, rfl, hbk, hx, p0, p1, p2⟩ := dr_get (H.out.keep HB.out) hlt
    have HT0 := Lib.hid (within_take fr t0 hx)
    have HXO := HOK.out x (List.mem_of_getElem? hx)
    have HLEN : Hid ((withinD (l.take j) fr t0).length ≤ 1000000) := by
     show _ ≤ _
     have h1 := within_len (l.take j) fr t0
     rw [List.length_take] at h1
     omega
    obtain ⟨x0, x1, x2⟩ := x
    simp only at p0 p1 p2 HXO
    clear hx
    go_upto_region 5 with fail
    obtain ⟨W1, hW1⟩ : ∃ z, z = wo.alloc (.cells #[.int .i64 x0, .int .i64 x1, .int .i64 x2] 29) := ⟨_, rfl⟩
    obtain ⟨P, hP⟩ : ∃ P, P = wo.heap.size := ⟨_, rfl⟩
    have hb : Below wo.heap.size wo W1 := by rw [hW1]; exact (Below.refl _ _).alloc (Nat.le_refl _) _
    have HP : Hid (DBox W1 P ⟨x0, x1, x2⟩) := by show DBox _ _ _; rw [hW1, hP]; exact dbox_new wo ⟨x0, x1, x2⟩
    have HO1 := Lib.hid (HO.out.on hb)
    have HB1 := Lib.hid (HB.out.trans (hb.mono HB.out.size))
    rw [← hW1, ← hP]
    clear hW1 hP hb p0 p1 p2 hbk HO HB
    have r0 := HP.out.c0
    have r1 := HP.out.c1
    have r2 := HP.out.c2
    obtain ⟨m, hm⟩ : ∃ m, m = max x1 fr := ⟨_, rfl⟩
    have hm1 : max x1 fr = m := hm.symm
    have hcond : (fr < t0 ∧ x1 < t0 ∧ fr ≤ x2) ↔ (m ≤ x2 ∧ m < t0) := by omega
    have HT : Hid (withinD (l.take (j + 1)) fr t0 = withinD (l.take j) fr t0 ++ if m ≤ x2 ∧ m < t0 then [⟨x0, x1, x2⟩] else []) := by
     show _ = _
     rw [HT0.out]
     congr 1
     by_cases hc : m ≤ x2 ∧ m < t0
     · rw [if_pos hc, if_pos (hcond.2 hc)]
     · rw [if_neg hc, if_neg (fun h => hc (hcond.1 h))]
    have hm2 : (if x1 < fr then fr else x1) = m := by rw [hm]; split <;> omega
    clear hcond hm HXO HT0
    by_cases hc : m ≤ x2 ∧ m < t0
    · obtain ⟨h1, h2⟩ := hc
      have d1 : decide (m ≤ x2) = true := decide_eq_true h1
      have d2 : decide (m < t0) = true := decide_eq_true h2
      have HT2 : Hid (withinD (l.take (j + 1)) fr t0 = withinD (l.take j) fr t0 ++ [⟨x0, x1, x2⟩]) := by show _ = _; rw [HT.out, if_pos ⟨h1, h2⟩]
      clear h1 h2 HT
      obtain ⟨W6, hW6⟩ : ∃ z, z = W1.alloc (.cells #[.int .i64 x0, .int .i64 x1, .int .i64 x2] 29) := ⟨_, rfl⟩
      have hb6 : Below W1.heap.size W1 W6 := by rw [hW6]; exact (Below.refl _ _).alloc (Nat.le_refl _) _
      have HLIT : Hid (RowAt drK W6 (some ⟨W1.heap.size, 0, none⟩) 1 1 [⟨x0, x1, x2⟩]) := by
       show RowAt _ _ _ _ _ _
       rw [hW6]
       exact rowAt_lit drK_ok W1 [⟨x0, x1, x2⟩] (by simp) _ rfl 1 rfl
      have HO6 := Lib.hid (HO1.out.on hb6)
      have HB6 := Lib.hid (HB1.out.trans (hb6.mono HB1.out.size))
      have HW6 := Lib.hid hW6
      clear hb6 hW6
      go_wp2_with (at_builtin; rw [← HW6.out]; refine list_row (by rfl) drK_ok (.tmp 33) (.tmp 35) rfl w.heap.size (withinD (l.take j) fr t0) [⟨x0, x1, x2⟩] u rfl HO6.out HB6.out.size (some ⟨W1.heap.size, 0, none⟩) 1 1 rfl HLIT.out (by have := HLEN.out; omega) ?_)
      intro v7 w7 hap
      have HO7 : Hid (OwnRow drK w7 w.heap.size v7 (withinD (l.take (j + 1)) fr t0)) := by
       show OwnRow _ _ _ _ _
       rw [HT2.out]
       exact hap.1
      have HB7 : Hid (Below w.heap.size w w7) := appended_below hap HO6.out HB6.out (Nat.le_refl _) HB6.out.size
      clear hap HO6 HB6 HLIT HW6 HO1 HB1 hm1 hm2
      go_wp2
      go_roundw
      case rel => exact ⟨j + 1, v7, rfl, rfl, by omega, HO7.out, HB7.out⟩
      case measure => simp [intOf]; omega
    · have HO7 : Hid (OwnRow drK W1 w.heap.size u (withinD (l.take (j + 1)) fr t0)) := by
       show OwnRow _ _ _ _ _
       rw [HT.out, if_neg hc, List.append_nil]
       exact HO1.out
      have hcs : decide (m ≤ x2) = false ∨ (decide (m ≤ x2) = true ∧ decide (m < t0) = false) := by
       simp only [decide_eq_true_eq, decide_eq_false_iff_not]
       omega
      clear hc HT HO1
      rcases hcs with d1 | ⟨d1, d2⟩
      · go_wp2
        go_roundw
        case rel => exact ⟨j + 1, u, rfl, rfl, by omega, HO7.out, HB1.out⟩
        case measure => simp [intOf]; omega
      · go_wp2
        go_roundw
        case rel => exact ⟨j + 1, u, rfl, rfl, by omega, HO7.out, HB1.out⟩
        case measure => simp [intOf]; omega
  · have hd : decide (j < n) = false := decide_eq_false hlt
    have hjn : j = n := by omega
    have HFIN : Hid (OwnRow drK wo w.heap.size u (withinD l fr t0)) := by
     have h1 := HO.out
     rw [hjn, List.take_of_length_le (by rw [HNL.out]; exact Nat.le_refl _)] at h1
     exact h1
    clear hjn
    obtain ⟨ad9, cap9, rfl, hr9, _⟩ := OwnRow.row drK_ok HFIN.out rfl
    have HR9 := Lib.hid hr9
    clear hr9
    go_wp2
    go_ret
    exact ⟨_, _, _, rfl, HR9.out, HB.out⟩
set_option maxRecDepth 100000 in
set_option maxHeartbeats 4000000 in
theorem acClone_any (w : World) (ad : Option Addr) (len cap : Nat) (l : List Dr) (hr : RowAt drK w ad len cap l) (hl : len ≤ 1000000) : Calls Try.prog 40 #[.slice ad len cap] w (GivesDrs w l) := by
 have hroom := hr.room
 have hlen := hr.length
 have HR := Lib.hid hr
 clear hr
 cases ad with
 | none =>
   have hc := hroom rfl
   have hfits := HR.out.fits
   have h0 : len = 0 := by omega
   subst hc
   subst h0
   obtain rfl : l = [] := List.eq_nil_of_length_eq_zero hlen
   have hnil : ∀ W, (binOp .eql 34 (.slice none 0 0) (.slice none 0 0)).run Try.prog W = .ok (.bool true) W := fun W => Lib.run_eql_slice_nil (P := Try.prog) W 34 29 none 0 0 0 0 Try.underlying34
   go_enter Try.func40, Try.ntmps40
   go_wp2
   go_ret
   exact ⟨none, 0, 0, rfl, rowAt_nil _, Below.refl _ _⟩
 | some a =>
   have hnil : ∀ W, (binOp .eql 34 (.slice (some a) len cap) (.slice none 0 0)).run Try.prog W = .ok (.bool false) W := fun W => Lib.run_eql_slice_nil (P := Try.prog) W 34 29 (some a) len cap 0 0 Try.underlying34
   have HL := Lib.hid hlen
   clear hroom hlen
   go_enter Try.func40, Try.ntmps40
   go_wp2_with (at_builtin; refine list_row (by rfl) drK_ok (.tmp 5) (.tmp 6) rfl w.heap.size [] l _ rfl (ownRow_lit drK_ok w w.heap.size [] (Nat.le_refl _) (by simp) _ rfl 0 rfl) (by simp) (some a) len cap rfl (HR.out.keep ((Below.refl _ w).alloc (Nat.le_refl _) _)) (by rw [List.length_nil]; omega) ?_)
   rintro v' w' hap
   have HAP := Lib.hid hap
   clear hap
   go_wp2
   go_ret
   have h1 := HAP.out
   obtain ⟨ad', cap', rfl, hr', _⟩ := OwnRow.row drK_ok h1.1 rfl
   refine ⟨ad', _, cap', rfl, hr', ?_⟩
   exact appended_below h1 (ownRow_lit drK_ok w w.heap.size [] (Nat.le_refl _) (by simp) _ rfl 0 rfl) ((Below.refl _ w).alloc (Nat.le_refl _) _) (Nat.le_refl _) (by simp)
set_option maxRecDepth 100000 in
theorem acAll_any (F : Nat → Prop) (w : World) (a : Addr) (l : List Dr) (h : AcR F w a l) (hn : l.length ≤ 1000000) :
 Calls Try.prog 19 #[.pointer (some a)] w (GivesDrs w l) := by
 obtain ⟨k, v, rfl, h, _⟩ := h
 obtain ⟨ad, cap, rfl, hr⟩ := h.at
 have q0 := h.box.c0
 obtain ⟨n, hnl⟩ : ∃ n, l.length = n := ⟨_, rfl⟩
 rw [hnl] at hr q0 hn
 have H := Lib.hid hr
 clear h hr hnl
 go_enter Try.func19, Try.ntmps19
 go_wp2_with fail
 refine (acClone_any w ad n cap l H.out hn).mono ?_
 rintro e w2 ⟨ad2, n2, cap2, rfl, hr2, hb2⟩
 have HR2 := Lib.hid hr2
 have HB2 := Lib.hid hb2
 clear hr2 hb2 q0
 go_wp2_with fail
 go_ret
 exact ⟨_, _, _, rfl, HR2.out, HB2.out⟩
end Go.Proofs.Ytbejincejbnbaaa
namespace Go.Proofs.Ytbejincejbnbaaa
open Go.RowKit
open Go.AbMath
open Go.ProdMath
open Go.BatMath hiding AllB getD_lt take_all
set_option linter.unusedVariables false

theorem cut_take {l : List Dr} {j : Nat} {x : Dr} (z : Int) (h : l[j]? = some x) : cutD (l.take (j + 1)) z = cutD (l.take j) z ++ (if x.last < z then [x] else []) := by
 unfold cutD
 rw [List.take_add_one, h, List.filter_append]
 congr 1
 show List.filter _ [x] = _
 by_cases hc : x.last < z
 · rw [if_pos hc, List.filter_cons_of_pos (by simpa using hc)]; rfl
 · rw [if_neg hc, List.filter_cons_of_neg (by simpa using hc)]; rfl
theorem start_take {l : List Dr} {j : Nat} {x : Dr} (z : Int) (h : l[j]? = some x) : startD (l.take (j + 1)) z = startD (l.take j) z ++ (if z ≤ x.last then [x] else []) := by
 unfold startD
 rw [List.take_add_one, h, List.filter_append]
 congr 1
 show List.filter _ [x] = _
 by_cases hc : z ≤ x.last
 · rw [if_pos hc, List.filter_cons_of_pos (by simpa using hc)]; rfl
 · rw [if_neg hc, List.filter_cons_of_neg (by simpa using hc)]; rfl
set_option maxRecDepth 100000 in
set_option maxHeartbeats 8000000 in
theorem acCut_any (F : Nat → Prop) (w : World) (a : Addr) (l : List Dr) (z : Int) (h : AcR F w a l) (hn : l.length ≤ 1000000) :
 Calls Try.prog 23 #[.pointer (some a), .int .i64 z] w (AbTurns AcR F w a (cutD l z) (.tuple #[])) := by
 obtain ⟨k, v, rfl, h, hf⟩ := h
 obtain ⟨ad, cap, rfl, hr⟩ := h.at
 obtain ⟨n, hnl⟩ : ∃ n, l.length = n := ⟨_, rfl⟩
 obtain ⟨mz, hmz⟩ : ∃ m, m = maxL l := ⟨_, rfl⟩
 have hbx := h.box
 have hvk := h.vk
 rw [hnl] at hr hbx hn hf hvk
 rw [← hmz] at hbx
 have H := Lib.hid hr
 have HBX := Lib.hid hbx
 have HNL := Lib.hid hnl
 have HF := Lib.hid hf
 have HVK : Hid (∀ b, ad = some b → ¬ b.block = k) := fun b e e2 => hvk (by rw [e]; show some b.block = _; rw [e2])
 have q0 := hbx.c0
 clear h hr hnl hf hbx hmz hvk
 go_enter Try.func23, Try.ntmps23
 go_wp2_with fail
 refine (acNew_any w).mono ?_
 rintro e w1 ⟨k1, rfl, hat1, hk1, hb1⟩
 have HB1 := Lib.hid hb1
 have HBX1 := Lib.hid (HBX.out.same (hb1.block k HBX.out.lt))
 have p0 := hat1.box.c0
 have p1 := hat1.box.c1
 rw [maxL_nil] at p1
 have f0 := HBX1.out.free 0
 have f1 := HBX1.out.free 1
 have q0 := HBX1.out.c0
 have q1 := HBX1.out.c1
 clear hat1 hb1 hk1
 go_upto_region 2 with fail
 obtain ⟨w2, hw2⟩ : ∃ W, W = (w1.setCell ⟨k, 0, none⟩ (.slice none 0 0)).setCell ⟨k, 1, none⟩ (.int .i64 (-1)) := ⟨_, rfl⟩
 have HAT2 : Hid (AcAt w2 k [] (.slice none 0 0)) := by
  show AcAt _ _ _ _
  rw [hw2]
  exact ⟨(HBX1.out.s0 _).s1 _, ownRow_nil _ _ _⟩
 have HKP2 : Hid (Kept w w2 (fun j => j = k)) := by
  show Kept _ _ _
  rw [hw2]
  exact ((Kept.of_below (F := fun j => j = k) HB1.out).trans (Kept.of_grown (F := fun j => j = k) (grow_one _ _ _ _) (.inl rfl)) fun i hi => .inl hi).trans (Kept.of_grown (F := fun j => j = k) (grow_one _ _ _ _) (.inl rfl)) fun i hi => .inl hi
 rw [← hw2]
 clear hw2 p0 p1 f0 f1 q0 q1 HBX1 HB1 HBX
 go_wp2_with fail
 go_loopw [18] (fun v18 wr => ∃ (j : Nat) (u : Value), v18 = .int .i64 (j : Int) ∧ j ≤ n ∧ Hid (AcAt wr k (cutD (l.take j) z) u) ∧ Hid (Kept w wr (fun j => j = k)) ∧ Hid (∀ q, u.ownBlock = some q → w.heap.size ≤ q)) (fun v18 _ => n - (intOf v18).toNat)
 case atStart => exact ⟨0, _, rfl, Nat.zero_le _, HAT2.out, HKP2.out, fun q hq => by cases hq⟩
 case round =>
  obtain ⟨j, u, rfl, hj, HAT, HKP, HFT⟩ := hrel
  clear HAT2 HKP2
  obtain ⟨wo, hwo⟩ : ∃ wo : World, wo = wr := ⟨_, rfl⟩
  subst hwo
  by_cases hlt : j < n
  · have hd : decide (j < n) = true := decide_eq_true hlt
    have hjl : (j : Int) < (n : Int) := by omega
    obtain ⟨bk, off, x, rfl, hbk, hx, p0, p1, p2⟩ := dr_get (HKP.out.row H.out HVK.out) hlt
    have HT := Lib.hid (cut_take z hx)
    have HLEN : Hid ((cutD (l.take j) z).length ≤ 1000000) := by
     show _ ≤ _
     have h1 : (cutD (l.take j) z).length ≤ (l.take j).length := List.length_filter_le _ _
     rw [List.length_take] at h1
     omega
    obtain ⟨x0, x1, x2⟩ := x
    simp only at p0 p1 p2
    clear hx
    go_upto_region 5 with fail
    obtain ⟨W1, hW1⟩ : ∃ z, z = wo.alloc (.cells #[.int .i64 x0, .int .i64 x1, .int .i64 x2] 29) := ⟨_, rfl⟩
    obtain ⟨P, hP⟩ : ∃ P, P = wo.heap.size := ⟨_, rfl⟩
    have hb : Below wo.heap.size wo W1 := by rw [hW1]; exact (Below.refl _ _).alloc (Nat.le_refl _) _
    have HP : Hid (DBox W1 P ⟨x0, x1, x2⟩) := by show DBox _ _ _; rw [hW1, hP]; exact dbox_new wo ⟨x0, x1, x2⟩
    have HAT1 := Lib.hid (HAT.out.on hb)
    have HKP1 := Lib.hid (HKP.out.trans (Kept.of_below (F := fun j => j = k) hb) fun i hi => .inl hi)
    rw [← hW1, ← hP]
    clear hW1 hP hb p0 p1 p2 hbk HAT HKP
    have r0 := HP.out.c0
    have r1 := HP.out.c1
    have r2 := HP.out.c2
    by_cases hc : x2 < z
    · have d1 : decide (x2 < z) = true := decide_eq_true hc
      have HT2 : Hid (cutD (l.take (j + 1)) z = cutD (l.take j) z ++ [⟨x0, x1, x2⟩]) := by show _ = _; rw [HT.out, if_pos hc]
      clear hc HT
      go_wp2_with fail
      refine (acPut_any W1 k _ u HAT1.out HLEN.out ⟨x0, x1, x2⟩).mono ?_
      rintro e w3 ⟨rfl, u3, hat, hkp, hft⟩
      have HAT3 : Hid (AcAt w3 k (cutD (l.take (j + 1)) z) u3) := by show AcAt _ _ _ _; rw [HT2.out]; exact hat
      have HFT3 : Hid (∀ q, u3.ownBlock = some q → w.heap.size ≤ q) := fun q hq => by
       rcases hft q hq with h1 | h1
       · exact HFT.out q h1
       · exact Nat.le_trans HKP1.out.size h1
      have HKP3 : Hid (Kept w w3 (fun j => j = k)) := HKP1.out.trans hkp fun i hi => by
       rcases hi with h1 | h1
       · exact .inl h1
       · exact .inr (HFT.out i h1)
      clear hat hkp hft r0 r1 r2 HAT1 HKP1 HFT HT2 HP
      go_wp2
      go_roundw
      case rel => exact ⟨j + 1, u3, rfl, by omega, HAT3.out, HKP3.out, HFT3.out⟩
      case measure => simp [intOf]; omega
    · have d1 : decide (x2 < z) = false := decide_eq_false hc
      have HAT3 : Hid (AcAt W1 k (cutD (l.take (j + 1)) z) u) := by show AcAt _ _ _ _; rw [HT.out, if_neg hc, List.append_nil]; exact HAT1.out
      clear hc HT HAT1 HP
      go_wp2
      go_roundw
      case rel => exact ⟨j + 1, u, rfl, by omega, HAT3.out, HKP1.out, HFT.out⟩
      case measure => simp [intOf]; omega
  · have hd : decide (j < n) = false := decide_eq_false hlt
    have hjn : j = n := by omega
    have HFIN : Hid (AcAt wo k (cutD l z) u) := by
     have h1 := HAT.out
     rw [hjn, List.take_of_length_le (by rw [HNL.out]; exact Nat.le_refl _)] at h1
     exact h1
    clear hjn
    go_wp2
    go_end0
    refine ⟨AFoot k u, rfl, ⟨k, u, rfl, HFIN.out, fun j => Iff.rfl⟩, HKP.out.more fun i hi => (HF.out i).2 (.inl hi), fun i hi => ?_⟩
    rcases hi with h1 | h1
    · exact .inl ((HF.out i).2 (.inl h1))
    · exact .inr (HFT.out i h1)
set_option maxRecDepth 100000 in
set_option maxHeartbeats 8000000 in
theorem acStart_any (F : Nat → Prop) (w : World) (a : Addr) (l : List Dr) (z : Int) (h : AcR F w a l) (hn : l.length ≤ 1000000) :
 Calls Try.prog 31 #[.pointer (some a), .int .i64 z] w (AbTurns AcR F w a (startD l z) (.tuple #[])) := by
 obtain ⟨k, v, rfl, h, hf⟩ := h
 obtain ⟨ad, cap, rfl, hr⟩ := h.at
 obtain ⟨n, hnl⟩ : ∃ n, l.length = n := ⟨_, rfl⟩
 obtain ⟨mz, hmz⟩ : ∃ m, m = maxL l := ⟨_, rfl⟩
 have hbx := h.box
 have hvk := h.vk
 rw [hnl] at hr hbx hn hf hvk
 rw [← hmz] at hbx
 have H := Lib.hid hr
 have HBX := Lib.hid hbx
 have HNL := Lib.hid hnl
 have HF := Lib.hid hf
 have HVK : Hid (∀ b, ad = some b → ¬ b.block = k) := fun b e e2 => hvk (by rw [e]; show some b.block = _; rw [e2])
 have q0 := hbx.c0
 clear h hr hnl hf hbx hmz hvk
 go_enter Try.func31, Try.ntmps31
 go_wp2_with fail
 refine (acNew_any w).mono ?_
 rintro e w1 ⟨k1, rfl, hat1, hk1, hb1⟩
 have HB1 := Lib.hid hb1
 have HBX1 := Lib.hid (HBX.out.same (hb1.block k HBX.out.lt))
 have p0 := hat1.box.c0
 have p1 := hat1.box.c1
 rw [maxL_nil] at p1
 have f0 := HBX1.out.free 0
 have f1 := HBX1.out.free 1
 have q0 := HBX1.out.c0
 have q1 := HBX1.out.c1
 clear hat1 hb1 hk1
 go_upto_region 2 with fail
 obtain ⟨w2, hw2⟩ : ∃ W, W = (w1.setCell ⟨k, 0, none⟩ (.slice none 0 0)).setCell ⟨k, 1, none⟩ (.int .i64 (-1)) := ⟨_, rfl⟩
 have HAT2 : Hid (AcAt w2 k [] (.slice none 0 0)) := by
  show AcAt _ _ _ _
  rw [hw2]
  exact ⟨(HBX1.out.s0 _).s1 _, ownRow_nil _ _ _⟩
 have HKP2 : Hid (Kept w w2 (fun j => j = k)) := by
  show Kept _ _ _
  rw [hw2]
  exact ((Kept.of_below (F := fun j => j = k) HB1.out).trans (Kept.of_grown (F := fun j => j = k) (grow_one _ _ _ _) (.inl rfl)) fun i hi => .inl hi).trans (Kept.of_grown (F := fun j => j = k) (grow_one _ _ _ _) (.inl rfl)) fun i hi => .inl hi
 rw [← hw2]
 clear hw2 p0 p1 f0 f1 q0 q1 HBX1 HB1 HBX
 go_wp2_with fail
 go_loopw [18] (fun v18 wr => ∃ (j : Nat) (u : Value), v18 = .int .i64 (j : Int) ∧ j ≤ n ∧ Hid (AcAt wr k (startD (l.take j) z) u) ∧ Hid (Kept w wr (fun j => j = k)) ∧ Hid (∀ q, u.ownBlock = some q → w.heap.size ≤ q)) (fun v18 _ => n - (intOf v18).toNat)
 case atStart => exact ⟨0, _, rfl, Nat.zero_le _, HAT2.out, HKP2.out, fun q hq => by cases hq⟩
 case round =>
  obtain ⟨j, u, rfl, hj, HAT, HKP, HFT⟩ := hrel
  clear HAT2 HKP2
  obtain ⟨wo, hwo⟩ : ∃ wo : World, wo = wr := ⟨_, rfl⟩
  subst hwo
  by_cases hlt : j < n
  · have hd : decide (j < n) = true := decide_eq_true hlt
    have hjl : (j : Int) < (n : Int) := by omega
    obtain ⟨bk, off, x, rfl, hbk, hx, p0, p1, p2⟩ := dr_get (HKP.out.row H.out HVK.out) hlt
    have HT := Lib.hid (start_take z hx)
    have HLEN : Hid ((startD (l.take j) z).length ≤ 1000000) := by
     show _ ≤ _
     have h1 : (startD (l.take j) z).length ≤ (l.take j).length := List.length_filter_le _ _
     rw [List.length_take] at h1
     omega
    obtain ⟨x0, x1, x2⟩ := x
    simp only at p0 p1 p2
    clear hx
    go_upto_region 5 with fail
    obtain ⟨W1, hW1⟩ : ∃ z, z = wo.alloc (.cells #[.int .i64 x0, .int .i64 x1, .int .i64 x2] 29) := ⟨_, rfl⟩
    obtain ⟨P, hP⟩ : ∃ P, P = wo.heap.size := ⟨_, rfl⟩
    have hb : Below wo.heap.size wo W1 := by rw [hW1]; exact (Below.refl _ _).alloc (Nat.le_refl _) _
    have HP : Hid (DBox W1 P ⟨x0, x1, x2⟩) := by show DBox _ _ _; rw [hW1, hP]; exact dbox_new wo ⟨x0, x1, x2⟩
    have HAT1 := Lib.hid (HAT.out.on hb)
    have HKP1 := Lib.hid (HKP.out.trans (Kept.of_below (F := fun j => j = k) hb) fun i hi => .inl hi)
    rw [← hW1, ← hP]
    clear hW1 hP hb p0 p1 p2 hbk HAT HKP
    have r0 := HP.out.c0
    have r1 := HP.out.c1
    have r2 := HP.out.c2
    by_cases hc : z ≤ x2
    · have d1 : decide (z ≤ x2) = true := decide_eq_true hc
      have HT2 : Hid (startD (l.take (j + 1)) z = startD (l.take j) z ++ [⟨x0, x1, x2⟩]) := by show _ = _; rw [HT.out, if_pos hc]
      clear hc HT
      go_wp2_with fail
      refine (acPut_any W1 k _ u HAT1.out HLEN.out ⟨x0, x1, x2⟩).mono ?_
      rintro e w3 ⟨rfl, u3, hat, hkp, hft⟩
      have HAT3 : Hid (AcAt w3 k (startD (l.take (j + 1)) z) u3) := by show AcAt _ _ _ _; rw [HT2.out]; exact hat
      have HFT3 : Hid (∀ q, u3.ownBlock = some q → w.heap.size ≤ q) := fun q hq => by
       rcases hft q hq with h1 | h1
       · exact HFT.out q h1
       · exact Nat.le_trans HKP1.out.size h1
      have HKP3 : Hid (Kept w w3 (fun j => j = k)) := HKP1.out.trans hkp fun i hi => by
       rcases hi with h1 | h1
       · exact .inl h1
       · exact .inr (HFT.out i h1)
      clear hat hkp hft r0 r1 r2 HAT1 HKP1 HFT HT2 HP
      go_wp2
      go_roundw
      case rel => exact ⟨j + 1, u3, rfl, by omega, HAT3.out, HKP3.out, HFT3.out⟩
      case measure => simp [intOf]; omega
    · have d1 : decide (z ≤ x2) = false := decide_eq_false hc
      have HAT3 : Hid (AcAt W1 k (startD (l.take (j + 1)) z) u) := by show AcAt _ _ _ _; rw [HT.out, if_neg hc, List.append_nil]; exact HAT1.out
      clear hc HT HAT1 HP
      go_wp2
      go_roundw
      case rel => exact ⟨j + 1, u, rfl, by omega, HAT3.out, HKP1.out, HFT.out⟩
      case measure => simp [intOf]; omega
  · have hd : decide (j < n) = false := decide_eq_false hlt
    have hjn : j = n := by omega
    have HFIN : Hid (AcAt wo k (startD l z) u) := by
     have h1 := HAT.out
     rw [hjn, List.take_of_length_le (by rw [HNL.out]; exact Nat.le_refl _)] at h1
     exact h1
    clear hjn
    go_wp2
    go_end0
    refine ⟨AFoot k u, rfl, ⟨k, u, rfl, HFIN.out, fun j => Iff.rfl⟩, HKP.out.more fun i hi => (HF.out i).2 (.inl hi), fun i hi => ?_⟩
    rcases hi with h1 | h1
    · exact .inl ((HF.out i).2 (.inl h1))
    · exact .inr (HFT.out i h1)
end Go.Proofs.Ytbejincejbnbaaa
