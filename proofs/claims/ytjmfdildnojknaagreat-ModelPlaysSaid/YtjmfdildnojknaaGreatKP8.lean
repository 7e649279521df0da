/- Parts of a proof. -/
import Derived.Test.YtjmfdildnojknaaGreatKP7
set_option maxRecDepth 100000
set_option maxHeartbeats 16000000
set_option linter.unusedVariables false
namespace Go.Proofs.YtjmfdildnojknaaGreat
open Go.RowKit
open Go.SeqMath
open Go.ProdMath
open Go.BatMath hiding AllB getD_lt take_all
def TabBox (w : World) (kt : Nat) (v : Value) : Prop := w.heap[kt]? = some (.cells #[v] 114 (0, 0))
section
variable {w w' : World} {kt : Nat} {v : Value}
theorem TabBox.c0 (h : TabBox w kt v) : w.cell? ⟨kt, 0, none⟩ = some v := by rw [cell_of_row _ _ 0 _ _ _ h]; rfl
theorem TabBox.free (h : TabBox w kt v) (j : Nat) : w.frozen? ⟨kt, j, none⟩ = false := frozen_of_row w kt j _ _ h
theorem TabBox.lt (h : TabBox w kt v) : kt < w.heap.size := lt_of_block h
theorem TabBox.on (h : TabBox w kt v) (hb : Below w.heap.size w w') : TabBox w' kt v := by
 have hlt := h.lt
 unfold TabBox at *
 rw [hb.block kt hlt]
 exact h
theorem TabBox.s0 (h : TabBox w kt v) (u : Value) : TabBox (w.setCell ⟨kt, 0, none⟩ u) kt u := box_set h 0 _
end
structure TabAt (w : World) (kt : Nat) (ad : Option Addr) (len cap : Nat) (ms : List PM) : Prop where
 box : TabBox w kt (.slice ad len cap)
 pds : PdsAt w ad len cap ms
theorem TabAt.keep {w w' : World} {kt : Nat} {ad : Option Addr} {len cap : Nat} {ms : List PM} (h : TabAt w kt ad len cap ms) (hb : Below w.heap.size w w') : TabAt w' kt ad len cap ms := ⟨h.box.on hb, h.pds.keep hb⟩
def pds (ms : List PM) : List Pd := ms.map (·.p)
def GivesAt (w : World) (i : Nat) (b : Bool) (e : Ending) (w' : World) : Prop := e = .returned (.tuple #[.int .i64 (i : Int), .bool b]) ∧ Below w.heap.size w w'
theorem gives_at {w w' : World} {i j : Nat} {b c : Bool} (h1 : j = i) (h2 : c = b) (hb : Below w.heap.size w w') : GivesAt w i b (.returned (.tuple #[.int .i64 (j : Int), .bool c])) w' := ⟨by rw [h1, h2], hb⟩
theorem has_at {l : List Pd} {id : Int} {i : Nat} {p : Pd} (hi : atD l id = i) (hp : l[i]? = some p) : hasD l id = decide (p.id = id) := by unfold hasD; rw [hi, hp]
theorem has_end {l : List Pd} {id : Int} {i : Nat} (hi : atD l id = i) (hp : l.length ≤ i) : hasD l id = false := by unfold hasD; rw [hi, List.getElem?_eq_none hp]
theorem tabAt_any (w : World) (kt : Nat) (ad : Option Addr) (len cap : Nat) (ms : List PM) (h : TabAt w kt ad len cap ms) (hL : len ≤ 100000000000) (id : Int) :
 Calls Tryz.prog 121 #[.pointer (some ⟨kt, 0, none⟩), .int .i64 id] w (GivesAt w (atD (pds ms) id) (hasD (pds ms) id)) := by
 have H := qh h
 have hlen := h.pds.row.length
 obtain ⟨l, hl⟩ := exq (pds ms)
 have hll : l.length = len := by rw [hl]; unfold pds; rw [List.length_map]; exact hlen
 have HGET : Hid (∀ (i : Nat) m, ms[i]? = some m → l[i]? = some m.p) := by
  intro i m hm
  rw [hl]; unfold pds
  rw [List.getElem?_map, hm]; rfl
 rw [← hl]
 clear h hl hlen
 go_enter Tryz.func121, Tryz.ntmps121
 go_wp2
 go_loopw [6] (fun v6 wr => ∃ i : Nat, v6 = .int .i64 (i : Int) ∧ i ≤ atD l id ∧ Below w.heap.size w wr) (fun v6 _ => len - (intOf v6).toNat)
 case atStart => exact ⟨0, rfl, Nat.zero_le _, Below.refl _ _⟩
 obtain ⟨i, rfl, hi, hbel⟩ := hrel
 have HB := qh hbel
 have HI := qh hi
 have hil : i ≤ len := by have := atD_le l id; omega
 clear hbel hi
 have HT := qh (H.out.keep HB.out)
 have t0 := HT.out.box.c0
 by_cases hlt : i < len
 rotate_left
 · have hd : decide (i < len) = false := decide_eq_false hlt
   have hat : atD l id = i := by have := atD_le l id; have := HI.out; omega
   have HAT := qh hat
   have HHAS := qh (has_end hat (by omega))
   have KS : Hid (∀ W, Below wr.heap.size wr W → (fun (W : World) => W.cell? ⟨kt, 0, none⟩ = some (.slice ad len cap)) W) := fun W hW => (HT.out.keep hW).box.c0
   have hb1d : Below wr.heap.size wr wr.drew := (Below.refl _ wr).drew
   clear hat
   go_upto_region 4 with fail
   clear t0
   refine wp_region_noPanic ?_
   refine zk [] KS ?_
   have hHeld := KS.out _ hb1d
   obtain ⟨u0, hu0⟩ := exq wr.drew
   rw [← hu0] at hHeld hb1d
   rw [← hu0]
   clear hu0
   have HU := qh hb1d
   clear hb1d
   refine zt 0 ?_
   refine zt 1 ?_
   refine zt 2 ?_
   refine zt 3 ?_
   refine zt 4 ?_
   refine zt 5 ?_
   refine zt 6 ?_
   refine zt 7 ?_
   refine zt 8 ?_
   refine zt 9 ?_
   refine zt 10 ?_
   refine zt 11 ?_
   refine zt 12 ?_
   refine zt 13 ?_
   refine zt 14 ?_
   refine zt 15 ?_
   refine zt 16 ?_
   refine zt 17 ?_
   refine zt 18 ?_
   refine zt 19 ?_
   refine zt 20 ?_
   refine zt 21 ?_
   refine zd ?_
   clear hHeld
   go_wp2
   go_ret2
   exact gives_at HAT.out.symm HHAS.out.symm (HB.out.trans (HU.out.mono HB.out.size))
 have hd : decide (i < len) = true := decide_eq_true hlt
 have hij : (i : Int) < (len : Int) := by omega
 obtain ⟨bk, off, m, rfl, hbk, hm, _, c0, _, _, _⟩ := HT.out.pds.get hlt
 have hp := HGET.out i m hm
 by_cases hid : m.p.id < id
 · have hd2 : decide (m.p.id < id) = true := decide_eq_true hid
   have HS : Hid (i + 1 ≤ atD l id) := (atD_step l id i m.p HI.out hp).1 hid
   clear hp hm hid
   go_wp2
   go_roundw
   case rel => exact ⟨i + 1, by go_num, HS.out, HB.out⟩
   simp [intOf]; omega
 have hd2 : decide (m.p.id < id) = false := decide_eq_false hid
 have hat : atD l id = i := by
  have h1 := HI.out
  have h2 := atD_step l id i m.p HI.out hp
  have h3 : ¬ (i + 1 ≤ atD l id) := fun h => hid (h2.2 h)
  omega
 have HAT := qh hat
 have HHAS := qh (has_at hat hp)
 have KS : Hid (∀ W, Below wr.heap.size wr W → (fun (W : World) => W.cell? ⟨kt, 0, none⟩ = some (.slice (some ⟨bk, off, none⟩) len cap) ∧ W.cell? ⟨bk, off + i * 4, none⟩ = some (.int .i64 m.p.id)) W) := by
  intro W hW
  refine ⟨(HT.out.keep hW).box.c0, ?_⟩
  rw [hW.cell (p := ⟨bk, off + i * 4, none⟩) (World.block_lt_of_cell? _ _ c0)]
  exact c0
 have hb1d : Below wr.heap.size wr wr.drew := (Below.refl _ wr).drew
 clear hat hp hm hid hbk
 go_upto_region 4 with fail
 clear c0 t0
 refine wp_region_noPanic ?_
 refine zk [] KS ?_
 have hHeld := KS.out _ hb1d
 obtain ⟨u0, hu0⟩ := exq wr.drew
 rw [← hu0] at hHeld hb1d
 rw [← hu0]
 clear hu0
 have HU := qh hb1d
 clear hb1d
 refine zt 0 ?_
 refine zt 1 ?_
 refine zt 2 ?_
 refine zt 3 ?_
 refine zt 4 ?_
 refine zt 5 ?_
 refine zt 6 ?_
 refine zt 7 ?_
 refine zt 8 ?_
 refine zt 9 ?_
 refine zt 10 ?_
 refine zt 11 ?_
 refine zt 12 ?_
 refine zt 13 ?_
 refine zt 14 ?_
 refine zt 15 ?_
 refine zt 16 ?_
 refine zt 17 ?_
 refine zt 18 ?_
 refine zt 19 ?_
 refine zt 20 ?_
 refine zt 21 ?_
 refine zd ?_
 clear hHeld
 go_wp2
 go_ret2
 exact gives_at HAT.out.symm (by rw [HHAS.out, beq_dec]) (HB.out.trans (HU.out.mono HB.out.size))
def GivesTGet (w : World) (p : Pd) (b : Bool) (e : Ending) (w' : World) : Prop :=
 ∃ ad n cap, e = .returned (.tuple #[.agg #[.int .i64 p.id, .int .i64 p.epoch, .slice ad n cap, .int .i64 p.opn], .bool b]) ∧ RowAt trK w' ad n cap p.last ∧ Below w.heap.size w w'
theorem resultsGet {tmps : Array Value} {B : Nat} {W : World} {b0 b1 b3 : Int} {v x : Value} (h : PBox W B b0 b1 v b3) (ht : tmps.getD 4 undef = .pointer (some ⟨B, 0, none⟩)) (hx : tmps.getD 5 undef = x) :
 (results Tryz.f105 tmps).run Tryz.prog W = .ok (.tuple #[.agg #[.int .i64 b0, .int .i64 b1, v, .int .i64 b3], x]) W := by
 rw [results_cell_tmp (p := 4) (u := 5) (ty := 58) Tryz.results105, ht]
 have hl := run_loadVar_row (P := Tryz.prog) W B 58 58 _ (0, 0) _ h Tryz.underlying58 rfl (by kernel_rfl)
 simp only [asAddr, Sem.run_pure, Result.andThen, hl, hx]
theorem gives_tget {w W : World} {p : Pd} {b : Bool} {b0 b1 b3 : Int} {ad : Option Addr} {n cap : Nat} {u0 u1 u2 u3 : Value} {l : List Tr} (hb : Below w.heap.size w W) (hp : p = ⟨b0, b1, l, b3⟩) (hr : RowAt trK w ad n cap l) :
 GivesTGet w p b (.returned (.tuple #[.agg #[.int .i64 b0, .int .i64 b1, .slice ad n cap, .int .i64 b3], .bool b])) ((((W.setCell ⟨w.heap.size, 0, none⟩ u0).setCell ⟨w.heap.size, 1, none⟩ u1).setCell ⟨w.heap.size, 2, none⟩ u2).setCell ⟨w.heap.size, 3, none⟩ u3) := by
 subst hp
 have hb2 : Below w.heap.size w ((((W.setCell ⟨w.heap.size, 0, none⟩ u0).setCell ⟨w.heap.size, 1, none⟩ u1).setCell ⟨w.heap.size, 2, none⟩ u2).setCell ⟨w.heap.size, 3, none⟩ u3) := (((hb.setCell (Nat.le_refl _) _).setCell (Nat.le_refl _) _).setCell (Nat.le_refl _) _).setCell (Nat.le_refl _) _
 exact ⟨ad, n, cap, rfl, hr.keep hb2, hb2⟩
theorem get_yes {l : List Pd} {id : Int} (h : hasD l id = true) : ∃ p, l[atD l id]? = some p ∧ getD l id = p := by
 have h2 := h
 unfold hasD at h2
 split at h2
 · rename_i p hp
   refine ⟨p, hp, ?_⟩
   unfold getD
   rw [if_pos h, hp]
 cases h2
theorem get_no {l : List Pd} {id : Int} (h : hasD l id = false) : getD l id = Pd.zero := by unfold getD; rw [if_neg (by rw [h]; decide)]
theorem tabGet_any (w : World) (kt : Nat) (ad : Option Addr) (len cap : Nat) (ms : List PM) (h : TabAt w kt ad len cap ms) (hL : len ≤ 100000000000) (id : Int) :
 Calls Tryz.prog 105 #[.pointer (some ⟨kt, 0, none⟩), .int .i64 id] w (GivesTGet w (getD (pds ms) id) (hasD (pds ms) id)) := by
 obtain ⟨W0, hW0⟩ := exq (w.alloc (.cells #[.int .i64 0, .int .i64 0, .slice none 0 0, .int .i64 0] 58))
 have HB0 := hwq hW0
 have HR0 : Hid (PBox W0 w.heap.size 0 0 (.slice none 0 0) 0) := by rw [hW0]; exact pbox_new w _ _ _ _
 have HT0 := qh (h.keep HB0.out)
 have H := qh h
 have HW0 := qh hW0
 clear h hW0
 obtain ⟨i, hi⟩ : ∃ i, atD (pds ms) id = i := ⟨_, rfl⟩
 obtain ⟨b, hb⟩ : ∃ b, hasD (pds ms) id = b := ⟨_, rfl⟩
 have CAT : Hid (Calls Tryz.prog 121 #[.pointer (some ⟨kt, 0, none⟩), .int .i64 id] W0 (GivesAt W0 i b)) := by
  have := tabAt_any W0 kt ad len cap ms HT0.out hL id
  rw [hi, hb] at this
  exact this
 rw [hb]
 have HGY : Hid (b = true → i < len ∧ ∃ m, ms[i]? = some m ∧ getD (pds ms) id = m.p) := by
  intro hb1
  rw [← hb] at hb1
  obtain ⟨p, hp, hg⟩ := get_yes hb1
  rw [hi] at hp
  unfold pds at hp
  rw [List.getElem?_map] at hp
  cases hm : ms[i]? with
  | none => rw [hm] at hp; cases hp
  | some m =>
    rw [hm] at hp
    cases hp
    refine ⟨?_, m, rfl, hg⟩
    have := (List.getElem?_eq_some_iff.1 hm).1
    have h2 := H.out.pds.row.length
    omega
 have HGN : Hid (b = false → getD (pds ms) id = Pd.zero) := fun hb1 => get_no (by rw [hb]; exact hb1)
 obtain ⟨p, hp⟩ : ∃ p, getD (pds ms) id = p := ⟨_, rfl⟩
 rw [hp] at HGY HGN
 rw [hp]
 clear hi hb hp
 go_enter Tryz.func105, Tryz.ntmps105
 go_wp2_with fail
 rw [← HW0.out]
 refine CAT.out.mono ?_
 rintro e w1 ⟨rfl, hb1⟩
 have HB1 := qh (HB0.out.trans (hb1.mono HB0.out.size))
 have HR1 := qh (HR0.out.on hb1)
 have HT1 := qh (HT0.out.keep hb1)
 clear hb1 HW0 CAT
 have rr0 := HR1.out.c0
 have f0 := HR1.out.free 0
 have rr1 := HR1.out.c1
 have f1 := HR1.out.free 1
 have rr2 := HR1.out.c2
 have f2 := HR1.out.free 2
 have rr3 := HR1.out.c3
 have f3 := HR1.out.free 3
 cases b
 · have HP := qh (HGN.out rfl)
   clear HGN HGY
   go_wp2
   exact bodyPost_ret (v := .tuple #[.agg #[.int .i64 0, .int .i64 0, .slice none 0 0, .int .i64 0], .bool false]) (resultsGet ((((HR1.out.s0 0).s1 0).s2 (.slice none 0 0)).s3 0) rfl rfl) rfl (gives_tget HB1.out HP.out (rowAt_nil w))
 obtain ⟨hil, m, hm, hpm⟩ := HGY.out rfl
 have HP := qh hpm
 clear HGN HGY hpm
 have hij : (i : Int) < (len : Int) := by omega
 have hij2 : i < len := hil
 have t0 := HT1.out.box.c0
 obtain ⟨bk, off, m', rfl, _, hm', _, c0, c1, c2, c3⟩ := HT1.out.pds.get hil
 obtain rfl : m' = m := by rw [hm] at hm'; exact (Option.some.inj hm').symm
 have HLA := qh (H.out.pds.ins m' (List.mem_of_getElem? hm))
 clear hm hm'
 go_wp2
 exact bodyPost_ret (v := .tuple #[.agg #[.int .i64 m'.p.id, .int .i64 m'.p.epoch, .slice m'.ad m'.p.last.length m'.cap, .int .i64 m'.p.opn], .bool true]) (resultsGet ((((HR1.out.s0 m'.p.id).s1 m'.p.epoch).s2 (.slice m'.ad m'.p.last.length m'.cap)).s3 m'.p.opn) rfl rfl) rfl (gives_tget (l := m'.p.last) HB1.out HP.out HLA.out)
theorem tabCheck_any (w : World) (kt : Nat) (ad : Option Addr) (len cap : Nat) (ms : List PM) (h : TabAt w kt ad len cap ms) (hL : len ≤ 100000000000) (b : Bat) (rd : Option Addr) (rn rc : Nat) (hr : RecsAt w rd rn rc b.recs) (ht : TextsOk b.recs) (hrn : rn ≤ 140737488355328) (hwf : b.prod ≤ 9223372036854775807) (c : Int × Int) (hc : tcheckD (pds ms) b = c) (hfew : fewP (pds ms)) :
 Calls Tryz.prog 72 #[.pointer (some ⟨kt, 0, none⟩), .agg #[.int .i64 b.base, .int .i64 b.prod, .int .i64 b.epoch, .int .i64 b.seq, .bool b.txn, .int .i64 b.marker, .slice rd rn rc]] w (GivesPair w c) := by
 obtain ⟨b0, b1, b2, b3, b4, b5, recs⟩ := b
 simp only at hr ht hwf
 simp only
 obtain ⟨W0, hW0⟩ := exq (w.alloc (.cells #[.int .i64 b0, .int .i64 b1, .int .i64 b2, .int .i64 b3, .bool b4, .int .i64 b5, .slice rd rn rc] 29))
 have HB0 := hwq hW0
 have HX0 := bx0 hW0
 have HT0 := qh (h.keep HB0.out)
 have HRE0 := qh (hr.keep HB0.out)
 have hrl := hr.length
 have HC : Hid (tcheckD (pds ms) ⟨b0, b1, b2, b3, b4, b5, recs⟩ = c) := hc
 have HF := qh hfew
 have HTX := qh ht
 have HW0 := qh hW0
 clear h hr hc hfew hW0 ht
 obtain ⟨B, hB⟩ := exq w.heap.size
 rw [← hB] at HX0
 obtain ⟨r, hre⟩ : ∃ r, rightE ⟨b0, b1, b2, b3, b4, b5, recs⟩ = r := ⟨_, rfl⟩
 have HRE := qh hre
 clear hre
 go_enter Tryz.func72, Tryz.ntmps72
 go_upto_region 1 with fail
 rw [← HW0.out, ← hB]
 clear hB HW0
 obtain ⟨p0, p1, p2, p3, p4, p5, p6⟩ := HX0.out.cs
 go_wp2_with fail
 have CR := refRight_any W0 ⟨b0, b1, b2, b3, b4, b5, recs⟩ rd rn rc HRE0.out HTX.out hrn hwf
 rw [HRE.out] at CR
 refine CR.mono ?_
 clear CR
 rintro e w1 ⟨rfl, hb1⟩
 have HB1 := qh (HB0.out.trans (hb1.mono HB0.out.size))
 have HX1 := qh (HX0.out.on hb1)
 have HT1 := qh (HT0.out.keep hb1)
 clear hb1 p0 p1 p2 p3 p4 p5 p6
 by_cases hz : r = 0
 rotate_left
 · have hd : (r == 0) = false := beq_false_of_ne hz
   have HEND : Hid (c = (-1, r)) := by
    show c = _
    rw [← HC.out]
    unfold tcheckD
    rw [HRE.out, if_pos hz]
   clear HC
   go_wp2
   go_ret2
   exact gives_pair HEND.out HB1.out
 have hd : (r == 0) = true := by rw [hz]; rfl
 have p1 := HX1.out.c1
 by_cases hn : b1 < 0
 · have hd2 : decide (b1 < 0) = true := decide_eq_true hn
   have HEND : Hid (c = (-1, 0)) := by
    show c = _
    rw [← HC.out]
    unfold tcheckD
    rw [HRE.out, if_neg (by simp [hz]), if_pos hn]
   clear HC hz hn
   go_wp2
   go_ret2
   exact gives_pair HEND.out HB1.out
 have hd2 : decide (b1 < 0) = false := decide_eq_false hn
 have HCC : Hid (checkD (getD (pds ms) b1) (hasD (pds ms) b1) ⟨b0, b1, b2, b3, b4, b5, recs⟩ = c) := by
  show _ = _
  rw [← HC.out]
  unfold tcheckD
  rw [HRE.out, if_neg (by simp [hz]), if_neg hn]
 obtain ⟨p, hp⟩ : ∃ p, getD (pds ms) b1 = p := ⟨_, rfl⟩
 obtain ⟨kn, hkn⟩ : ∃ kn, hasD (pds ms) b1 = kn := ⟨_, rfl⟩
 have hp5 := get_few HF.out b1
 have CG : Hid (Calls Tryz.prog 105 #[.pointer (some ⟨kt, 0, none⟩), .int .i64 b1] w1 (GivesTGet w1 p kn)) := by
  have := tabGet_any w1 kt ad len cap ms HT1.out hL b1
  rw [hp, hkn] at this
  exact this
 rw [hp] at hp5 HCC
 rw [hkn] at HCC
 clear HC hz hn hp hkn
 go_wp2_with fail
 refine CG.out.mono ?_
 rintro e w2 ⟨ad2, n2, cap2, rfl, hrow, hb2⟩
 have hn2 := hrow.length
 have HRW := qh hrow
 have HB2 := qh (HB1.out.trans (hb2.mono HB1.out.size))
 have HX2 := qh (HX1.out.on hb2)
 clear hb2 hrow CG p1
 obtain ⟨pid, pep, pl, po⟩ := p
 simp only at hp5 hn2 HRW
 simp only
 go_upto_region 7 with fail
 obtain ⟨W3, hW3⟩ := exq (w2.alloc (.cells #[.int .i64 pid, .int .i64 pep, .slice ad2 n2 cap2, .int .i64 po] 58))
 have hb3 := wbq hW3
 have HB3 := qh (HB2.out.trans (hb3.mono HB2.out.size))
 have HX3 := qh (HX2.out.on hb3)
 have HRW3 := qh (HRW.out.keep hb3)
 obtain ⟨Q, hQ⟩ := exq w2.heap.size
 have HP3 : Hid (PBox W3 Q pid pep (.slice ad2 n2 cap2) po) := by rw [hW3, hQ]; exact pbox_new w2 _ _ _ _
 rw [← hW3, ← hQ]
 clear hW3 hb3 hQ
 obtain ⟨p0, p1, p2, p3, p4, p5, p6⟩ := HX3.out.cs
 have q0 := HP3.out.c0
 have q1 := HP3.out.c1
 have q2 := HP3.out.c2
 have q3 := HP3.out.c3
 go_wp2_with fail
 refine (refCheck_any W3 pid pep po pl ad2 n2 cap2 HRW3.out (by omega) kn b0 b1 b2 b3 b4 b5 recs rd rn rc hrl hrn c HCC.out).mono ?_
 rintro e w4 ⟨rfl, hb4⟩
 have HB4 := qh (HB3.out.trans (hb4.mono HB3.out.size))
 go_wp2
 go_ret2
 exact gives_pair rfl HB4.out
def DBox (w : World) (k : Nat) (x : Dr) : Prop := w.heap[k]? = some (.cells #[.int .i64 x.prod, .int .i64 x.first, .int .i64 x.last] 116 (0, 0))
section
variable {w w' : World} {k : Nat} {x : Dr}
theorem DBox.c0 (h : DBox w k x) : w.cell? ⟨k, 0, none⟩ = some (.int .i64 x.prod) := by rw [cell_of_row _ _ 0 _ _ _ h]; rfl
theorem DBox.c1 (h : DBox w k x) : w.cell? ⟨k, 1, none⟩ = some (.int .i64 x.first) := by rw [cell_of_row _ _ 1 _ _ _ h]; rfl
theorem DBox.c2 (h : DBox w k x) : w.cell? ⟨k, 2, none⟩ = some (.int .i64 x.last) := by rw [cell_of_row _ _ 2 _ _ _ h]; rfl
theorem DBox.free (h : DBox w k x) (j : Nat) : w.frozen? ⟨k, j, none⟩ = false := frozen_of_row w k j _ _ h
theorem DBox.lt (h : DBox w k x) : k < w.heap.size := lt_of_block h
theorem DBox.on (h : DBox w k x) (hb : Below w.heap.size w w') : DBox w' k x := by
 have hlt := h.lt
 unfold DBox at *
 rw [hb.block k hlt]
 exact h
theorem DBox.grown {r : Option Nat} (h : DBox w k x) (hg : w.grownBy w' r) (hr : r ≠ some k) : DBox w' k x := by
 have hlt := h.lt
 unfold DBox at *
 rw [hg.block k hlt (fun e => hr e.symm)]
 exact h
theorem DBox.s (h : DBox w k x) (a b c : Int) : DBox (((w.setCell ⟨k, 0, none⟩ (.int .i64 a)).setCell ⟨k, 1, none⟩ (.int .i64 b)).setCell ⟨k, 2, none⟩ (.int .i64 c)) k ⟨a, b, c⟩ := box_set (box_set (box_set h 0 (.int .i64 a)) 1 (.int .i64 b)) 2 (.int .i64 c)
theorem dbox_new (w : World) (x : Dr) : DBox (w.alloc (.cells #[.int .i64 x.prod, .int .i64 x.first, .int .i64 x.last] 116)) w.heap.size x := heap_alloc_new w _
theorem TabBox.grown {v : Value} {r : Option Nat} (h : TabBox w k v) (hg : w.grownBy w' r) (hr : r ≠ some k) : TabBox w' k v := by
 have hlt := h.lt
 unfold TabBox at *
 rw [hg.block k hlt (fun e => hr e.symm)]
 exact h
end
structure TabOk (w : World) (kt : Nat) (ad : Option Addr) (len cap : Nat) (ms : List PM) : Prop where
 tab : TabAt w kt ad len cap ms
 row : ∀ a, ad = some a → kt < a.block ∧ a.block < w.heap.size
 ins : ∀ m ∈ ms, ∀ a, m.ad = some a → kt < a.block ∧ a.block < w.heap.size
theorem TabOk.keep {w w' : World} {kt : Nat} {ad : Option Addr} {len cap : Nat} {ms : List PM} (h : TabOk w kt ad len cap ms) (hb : Below w.heap.size w w') : TabOk w' kt ad len cap ms := ⟨h.tab.keep hb, fun a ha => ⟨(h.row a ha).1, Nat.lt_of_lt_of_le (h.row a ha).2 hb.size⟩, fun m hm a ha => ⟨(h.ins m hm a ha).1, Nat.lt_of_lt_of_le (h.ins m hm a ha).2 hb.size⟩⟩
def GivesTApply (w : World) (kt : Nat) (ad0 : Option Addr) (ms0 : List PM) (l' : List Pd) (r : Option Dr) (e : Ending) (w' : World) : Prop :=
 ∃ d ad len cap ms, e = .returned (.tuple #[.agg #[.int .i64 d.prod, .int .i64 d.first, .int .i64 d.last], .bool r.isSome]) ∧ r.getD Dr.zero = d ∧ TabOk w' kt ad len cap ms ∧ pds ms = l' ∧ w.grownBy w' (some kt) ∧ (∀ a, ad = some a → ad0 = some a ∨ w.heap.size ≤ a.block) ∧ (∀ m ∈ ms, m ∈ ms0 ∨ ∀ a, m.ad = some a → w.heap.size ≤ a.block)
theorem resultsTApply {tmps : Array Value} {B : Nat} {W : World} {d : Dr} {x : Value} (h : DBox W B d) (ht : tmps.getD 4 undef = .pointer (some ⟨B, 0, none⟩)) (hx : tmps.getD 5 undef = x) :
 (results Tryz.f92 tmps).run Tryz.prog W = .ok (.tuple #[.agg #[.int .i64 d.prod, .int .i64 d.first, .int .i64 d.last], x]) W := by
 rw [results_cell_tmp (p := 4) (u := 5) (ty := 116) Tryz.results92, ht]
 have hl := run_loadVar_row (P := Tryz.prog) W B 116 116 _ (0, 0) _ h Tryz.underlying116 rfl (by kernel_rfl)
 simp only [asAddr, Sem.run_pure, Result.andThen, hl, hx]
theorem gives_tapply {w W : World} {kt : Nat} {l' : List Pd} {r : Option Dr} {ad : Option Addr} {len cap : Nat} {ms : List PM} {d : Dr} {D : Nat} {u0 u1 u2 : Value} {ok : Bool} (hok : r.isSome = ok) (hd : r.getD Dr.zero = d) (ht : TabBox W kt (.slice ad len cap)) (hp : PdsAt W ad len cap ms) (ha : ∀ a, ad = some a → kt < a.block ∧ a.block < W.heap.size ∧ a.block ≠ D) (hi : ∀ m ∈ ms, ∀ a, m.ad = some a → kt < a.block ∧ a.block < W.heap.size ∧ a.block ≠ D) (hl : pds ms = l') (hg : w.grownBy W (some kt)) (hD : w.heap.size ≤ D) (hk : kt < w.heap.size) {ad0 : Option Addr} {ms0 : List PM} (hfa : ∀ a, ad = some a → ad0 = some a ∨ w.heap.size ≤ a.block) (hfi : ∀ m ∈ ms, m ∈ ms0 ∨ ∀ a, m.ad = some a → w.heap.size ≤ a.block) :
 GivesTApply w kt ad0 ms0 l' r (.returned (.tuple #[.agg #[.int .i64 d.prod, .int .i64 d.first, .int .i64 d.last], .bool ok])) (((W.setCell ⟨D, 0, none⟩ u0).setCell ⟨D, 1, none⟩ u1).setCell ⟨D, 2, none⟩ u2) := by
 subst hok
 refine ⟨d, ad, len, cap, ms, rfl, hd, ⟨⟨?_, ⟨?_, ?_⟩⟩, fun a h => ⟨(ha a h).1, by rw [size_set, size_set, size_set]; exact (ha a h).2.1⟩, fun m hm a h => ⟨(hi m hm a h).1, by rw [size_set, size_set, size_set]; exact (hi m hm a h).2.1⟩⟩, hl, grow_new (grow_new (grow_new hg hD _) hD _) hD _, hfa, hfi⟩
 · exact box_off (box_off (box_off ht (by omega) _) (by omega) _) (by omega) _
 · exact ((hp.row.off (fun a h => (ha a h).2.2) _ _).off (fun a h => (ha a h).2.2) _ _).off (fun a h => (ha a h).2.2) _ _
 intro m hm
 exact (((hp.ins m hm).off (fun a h => (hi m hm a h).2.2) _ _).off (fun a h => (hi m hm a h).2.2) _ _).off (fun a h => (hi m hm a h).2.2) _ _
theorem pd_split {l : List PM} {i : Nat} {m : PM} (hm : l[i]? = some m) : l = l.take i ++ m :: l.drop (i + 1) := by
 obtain ⟨h, e⟩ := List.getElem?_eq_some_iff.1 hm
 rw [← e, ← List.drop_eq_getElem_cons h, List.take_append_drop]
theorem own_put {w : World} {base g n cap i : Nat} {l : List PM} {x : PM} (h : OwnRow pdK w base (.slice (some ⟨g, 0, none⟩) n cap) l) (hi : i < l.length) (hn : l.length = n) :
 OwnRow pdK ((((w.setCell ⟨g, i * 4, none⟩ (.int .i64 x.p.id)).setCell ⟨g, i * 4 + 1, none⟩ (.int .i64 x.p.epoch)).setCell ⟨g, i * 4 + 2, none⟩ (.slice x.ad x.p.last.length x.cap)).setCell ⟨g, i * 4 + 3, none⟩ (.int .i64 x.p.opn)) base (.slice (some ⟨g, 0, none⟩) n cap) (l.set i x) := by
 subst hn
 unfold OwnRow at h ⊢
 have h1 := (World.ownsRow.stored h (i * 4) (.int .i64 x.p.id)).1
 have h2 := (World.ownsRow.stored h1 (i * 4 + 1) (.int .i64 x.p.epoch)).1
 have h3 := (World.ownsRow.stored h2 (i * 4 + 2) (.slice x.ad x.p.last.length x.cap)).1
 have h4 := (World.ownsRow.stored h3 (i * 4 + 3) (.int .i64 x.p.opn)).1
 have e : ((((pdK.all l).set (i * 4) (.int .i64 x.p.id)).set (i * 4 + 1) (.int .i64 x.p.epoch)).set (i * 4 + 2) (.slice x.ad x.p.last.length x.cap)).set (i * 4 + 3) (.int .i64 x.p.opn) = pdK.all (l.set i x) := by
  have hs := pd_split (l := l) (i := i) (m := l[i]) (List.getElem?_eq_getElem hi)
  have hlen : (pdK.all (l.take i)).length = i * 4 := by rw [pdK_ok.all_len, List.length_take]; show min i l.length * 4 = _; rw [Nat.min_eq_left (by omega)]
  obtain ⟨a, ha⟩ := exq (l.take i)
  obtain ⟨b, hb⟩ := exq (l.drop (i + 1))
  obtain ⟨y, hy⟩ := exq (l[i])
  have hal : a.length = i := by rw [ha, List.length_take]; omega
  rw [← ha, ← hb, ← hy] at hs
  rw [← ha] at hlen
  have hset : l.set i x = a ++ x :: b := by rw [hs, List.set_append_right _ _ (by omega), hal, Nat.sub_self]; rfl
  rw [hset, hs, Kind.all_app, Kind.all_app]
  have ey : pdK.all (y :: b) = .int .i64 y.p.id :: .int .i64 y.p.epoch :: .slice y.ad y.p.last.length y.cap :: .int .i64 y.p.opn :: pdK.all b := rfl
  have ex : pdK.all (x :: b) = .int .i64 x.p.id :: .int .i64 x.p.epoch :: .slice x.ad x.p.last.length x.cap :: .int .i64 x.p.opn :: pdK.all b := rfl
  rw [ey, ex, List.set_append_right _ _ (by omega), List.set_append_right _ _ (by omega), List.set_append_right _ _ (by omega), List.set_append_right _ _ (by omega), hlen]
  simp
 rw [e] at h4
 simpa using h4
theorem OwnRow.block {α : Type} {K : Kind α} {w : World} {base n : Nat} {v : Value} {l : List α} (h : OwnRow K w base v l) (hn : l.length = n) (h0 : 0 < n) : ∃ g cap cur, v = .slice (some ⟨g, 0, none⟩) n cap ∧ w.heap[g]? = some (.cells cur K.ty (0, 0)) ∧ base ≤ g ∧ n * K.size ≤ cur.size := by
 subst hn
 rcases h.2 with ⟨_, e⟩ | ⟨g, cap, cur, e, hb, hh, hc, _, hs, _⟩
 · omega
 exact ⟨g, cap, cur, e, hh, hb, by rw [hs]; exact Nat.mul_le_mul_right _ hc⟩
structure TA (w : World) (kt B D P : Nat) (ms0 : List PM) (bo po : Obj) (l' : List Pd) (W : World) : Prop where
 tab : ∃ ad len cap ms, TabBox W kt (.slice ad len cap) ∧ PdsAt W ad len cap ms ∧ (∀ a, ad = some a → kt < a.block ∧ a.block < W.heap.size ∧ a.block ≠ D) ∧ (∀ m ∈ ms, ∀ a, m.ad = some a → kt < a.block ∧ a.block < W.heap.size ∧ a.block ≠ D) ∧ pds ms = l' ∧ (∀ a, ad = some a → w.heap.size ≤ a.block) ∧ (∀ m ∈ ms, m ∈ ms0 ∨ ∀ a, m.ad = some a → w.heap.size ≤ a.block)
 bx : W.heap[B]? = some bo
 dx : DBox W D Dr.zero
 px : W.heap[P]? = some po
 gr : w.grownBy W (some kt)
theorem block_grown {w w' : World} {k kt : Nat} {o : Obj} (h : w.heap[k]? = some o) (hg : w.grownBy w' (some kt)) (hk : kt ≠ k) : w'.heap[k]? = some o := by rw [hg.block k (lt_of_block h) (fun e => hk (Option.some.inj e).symm)]; exact h
theorem ta_mk {w W6 W : World} {kt B D P len cap : Nat} {ad : Option Addr} {bo po : Obj} {l' : List Pd} {ms : List PM} (hg6 : w.grownBy W6 (some kt)) (hg : W6.grownBy W (some kt)) (hkt : kt < w.heap.size) (hb : W6.heap[B]? = some bo) (hB : kt ≠ B) (hd : DBox W6 D Dr.zero) (hD : kt ≠ D) (hp : W6.heap[P]? = some po) (hP : kt ≠ P)
 (ht : TabBox W kt (.slice ad len cap)) (hr : RowAt pdK W ad len cap ms) (hk : ∀ a, ad = some a → W6.heap.size ≤ a.block ∧ a.block < W.heap.size) (hDs : D < W6.heap.size) (hl : pds ms = l')
 (hm : ∀ m ∈ ms, LastAt W6 m ∧ ∀ a, m.ad = some a → kt < a.block ∧ a.block < W6.heap.size ∧ a.block ≠ D) {ms0 : List PM} (hfi : ∀ m ∈ ms, m ∈ ms0 ∨ ∀ a, m.ad = some a → w.heap.size ≤ a.block) : TA w kt B D P ms0 bo po l' W := by
 have hs := hg6.size
 refine ⟨⟨ad, len, cap, ms, ht, ⟨hr, fun m h => (hm m h).1.grown hg fun a ha e => ?_⟩, fun a ha => ?_, fun m h a ha => ?_, hl, fun a ha => Nat.le_trans hs (hk a ha).1, hfi⟩, block_grown hb hg hB, hd.grown hg (fun e => hD (Option.some.inj e)), block_grown hp hg hP, grow_trans hg6 hg⟩
 · have := ((hm m h).2 a ha).1
   have := Option.some.inj e
   omega
 · have := hk a ha
   exact ⟨by omega, this.2, by omega⟩
 have := (hm m h).2 a ha
 exact ⟨this.1, Nat.lt_of_lt_of_le this.2.1 hg.size, this.2.2⟩
theorem tabApply_any (w : World) (kt : Nat) (ad : Option Addr) (len cap : Nat) (ms : List PM) (h : TabOk w kt ad len cap ms) (hL : len ≤ 1000000) (b : Bat) (rd : Option Addr) (rn rc : Nat) (hr : RecsAt w rd rn rc b.recs) (ht : TextsOk b.recs) (hrn : rn ≤ 140737488355328) (hwf : b.prod ≤ 9223372036854775807) (hfew : fewP (pds ms)) :
 Calls Tryz.prog 92 #[.pointer (some ⟨kt, 0, none⟩), .agg #[.int .i64 b.base, .int .i64 b.prod, .int .i64 b.epoch, .int .i64 b.seq, .bool b.txn, .int .i64 b.marker, .slice rd rn rc]] w (GivesTApply w kt ad ms (tapplyD (pds ms) b) (tdropD (pds ms) b)) := by
 obtain ⟨b0, b1, b2, b3, b4, b5, recs⟩ := b
 simp only at hr ht hwf
 simp only
 have hkt := h.tab.box.lt
 have HOLD := qh h.row
 have HOLI := qh h.ins
 have HOLD2 : Hid (∀ m ∈ ms, ∀ a, m.ad = some a → a.block ≠ w.heap.size + 1) := fun m hm a ha e => by have := (h.ins m hm a ha).2; omega
 obtain ⟨W0, hW0⟩ : ∃ W0, W0 = ((w.alloc (.cells #[.int .i64 b0, .int .i64 b1, .int .i64 b2, .int .i64 b3, .bool b4, .int .i64 b5, .slice rd rn rc] 29)).alloc (.cells #[.int .i64 0, .int .i64 0, .int .i64 0] 116)) := ⟨_, rfl⟩
 have HB0 : Hid (Below w.heap.size w W0) := by rw [hW0]; exact (bal _ _).alloc (by simp) _
 have HX0 : Hid (BoxAt W0 w.heap.size b0 b1 b2 b3 b4 b5 (.slice rd rn rc)) := by
  show BoxAt _ _ _ _ _ _ _ _ _
  rw [hW0]
  exact (boxAt_new w b0 b1 b2 b3 b4 b5 (.slice rd rn rc)).keep (bal _ _) (by simp)
 have HD0 : Hid (DBox W0 (w.heap.size + 1) Dr.zero) := by
  show DBox _ _ _
  rw [hW0]
  have := dbox_new (w.alloc (.cells #[.int .i64 b0, .int .i64 b1, .int .i64 b2, .int .i64 b3, .bool b4, .int .i64 b5, .slice rd rn rc] 29)) Dr.zero
  rw [show (w.alloc (.cells #[.int .i64 b0, .int .i64 b1, .int .i64 b2, .int .i64 b3, .bool b4, .int .i64 b5, .slice rd rn rc] 29)).heap.size = w.heap.size + 1 by simp] at this
  exact this
 have HT0 := qh (h.keep HB0.out)
 have HRE0 := qh (hr.keep HB0.out)
 have hrl := hr.length
 have HF := qh hfew
 have HTX := qh ht
 have HW0 := qh hW0
 clear h hr hfew hW0 ht
 obtain ⟨B, hB⟩ := exq w.heap.size
 obtain ⟨D, hD⟩ := exq (w.heap.size + 1)
 have hDw : w.heap.size ≤ D := by omega
 have hBw : w.heap.size ≤ B := by omega
 have hDB : D ≠ B := by omega
 rw [← hB] at HX0
 rw [← hD] at HD0 HOLD2
 obtain ⟨l, hl⟩ := exq (pds ms)
 rw [← hl] at HF
 rw [← hl]
 have HLL := qh hl
 clear hl
 obtain ⟨r, hre⟩ : ∃ r, rightE ⟨b0, b1, b2, b3, b4, b5, recs⟩ = r := ⟨_, rfl⟩
 have HRE := qh hre
 clear hre
 obtain ⟨l', hl'⟩ : ∃ l', tapplyD l ⟨b0, b1, b2, b3, b4, b5, recs⟩ = l' := ⟨_, rfl⟩
 obtain ⟨dr, hdr⟩ : ∃ dr, tdropD l ⟨b0, b1, b2, b3, b4, b5, recs⟩ = dr := ⟨_, rfl⟩
 rw [hl', hdr]
 have HLP := qh hl'
 have HDR := qh hdr
 clear hl' hdr
 go_enter Tryz.func92, Tryz.ntmps92
 go_upto_region 1 with fail
 rw [← HW0.out, ← hD, ← hB]
 clear hB hD HW0
 obtain ⟨p0, p1, p2, p3, p4, p5, p6⟩ := HX0.out.cs
 go_wp2_with fail
 have CR := refRight_any W0 ⟨b0, b1, b2, b3, b4, b5, recs⟩ rd rn rc HRE0.out HTX.out hrn hwf
 rw [HRE.out] at CR
 refine CR.mono ?_
 clear CR
 rintro e w1 ⟨rfl, hb1⟩
 have HB1 := qh (HB0.out.trans (hb1.mono HB0.out.size))
 have HX1 := qh (HX0.out.on hb1)
 have HD1 := qh (HD0.out.on hb1)
 have HT1 := qh (HT0.out.keep hb1)
 have HG1 : Hid (w.grownBy w1 (some kt)) := grow_below (grow_refl w _) HB1.out
 clear hb1 HX0 HD0 HT0 p0 p1 p2 p3 p4 p5 p6
 have p1 := HX1.out.c1
 by_cases hz : r = 0 ∧ ¬ b1 < 0
 rotate_left
 · have HLQ : Hid (l' = l) := by
    show _ = _
    rw [← HLP.out]
    unfold tapplyD
    rw [if_pos (by rw [HRE.out]; show r ≠ 0 ∨ b1 < 0; omega)]
   have HDQ : Hid (dr = none) := by
    show _ = _
    rw [← HDR.out]
    unfold tdropD
    rw [if_pos (by rw [HRE.out]; show r ≠ 0 ∨ b1 < 0; omega)]
   clear HLP HDR
   have dc0 := HD1.out.c0
   have df0 := HD1.out.free 0
   have dc1 := HD1.out.c1
   have df1 := HD1.out.free 1
   have dc2 := HD1.out.c2
   have df2 := HD1.out.free 2
   by_cases hz1 : r = 0
   · have hd : (r == 0) = true := by rw [hz1]; rfl
     have hdn : (r != 0) = false := by rw [hz1]; rfl
     have hd2 : decide (b1 < 0) = true := decide_eq_true (by omega)
     clear hz hz1
     go_wp2
     exact bodyPost_ret (v := .tuple #[.agg #[.int .i64 Dr.zero.prod, .int .i64 Dr.zero.first, .int .i64 Dr.zero.last], .bool false]) (resultsTApply (HD1.out.s 0 0 0) rfl rfl) rfl (gives_tapply (by rw [HDQ.out]; rfl) (by rw [HDQ.out]; rfl) HT1.out.tab.box HT1.out.tab.pds (fun a ha => ⟨(HT1.out.row a ha).1, (HT1.out.row a ha).2, by have := (HOLD.out a ha).2; omega⟩) (fun m hm a ha => ⟨(HT1.out.ins m hm a ha).1, (HT1.out.ins m hm a ha).2, by have := (HOLI.out m hm a ha).2; omega⟩) (by rw [HLQ.out, HLL.out]) HG1.out hDw hkt (fun a ha => .inl ha) (fun m hm => .inl hm))
   have hd : (r == 0) = false := beq_false_of_ne hz1
   have hdn : (r != 0) = true := by unfold bne; rw [hd]; rfl
   clear hz hz1
   go_wp2
   exact bodyPost_ret (v := .tuple #[.agg #[.int .i64 Dr.zero.prod, .int .i64 Dr.zero.first, .int .i64 Dr.zero.last], .bool false]) (resultsTApply (HD1.out.s 0 0 0) rfl rfl) rfl (gives_tapply (by rw [HDQ.out]; rfl) (by rw [HDQ.out]; rfl) HT1.out.tab.box HT1.out.tab.pds (fun a ha => ⟨(HT1.out.row a ha).1, (HT1.out.row a ha).2, by have := (HOLD.out a ha).2; omega⟩) (fun m hm a ha => ⟨(HT1.out.ins m hm a ha).1, (HT1.out.ins m hm a ha).2, by have := (HOLI.out m hm a ha).2; omega⟩) (by rw [HLQ.out, HLL.out]) HG1.out hDw hkt (fun a ha => .inl ha) (fun m hm => .inl hm))
 obtain ⟨hz1, hz2⟩ := hz
 have hd : (r == 0) = true := by rw [hz1]; rfl
 have hdn : (r != 0) = false := by rw [hz1]; rfl
 have hd2 : decide (b1 < 0) = false := decide_eq_false hz2
 have hor : ¬ (rightE ⟨b0, b1, b2, b3, b4, b5, recs⟩ ≠ 0 ∨ b1 < 0) := by rw [HRE.out]; omega
 have HLQ : Hid (l' = if hasD l b1 = true then l.set (atD l b1) (applyD (getD l b1) true ⟨b0, b1, b2, b3, b4, b5, recs⟩) else l.take (atD l b1) ++ applyD Pd.zero false ⟨b0, b1, b2, b3, b4, b5, recs⟩ :: l.drop (atD l b1)) := by
  show _ = _
  rw [← HLP.out]
  unfold tapplyD
  rw [if_neg hor]
 have HDQ : Hid (dr = if dropsB l ⟨b0, b1, b2, b3, b4, b5, recs⟩ = true then some ⟨b1, (getD l b1).opn, b0⟩ else none) := by
  show _ = _
  rw [← HDR.out]
  unfold tdropD
  rw [if_neg hor]
 obtain ⟨i, hi⟩ : ∃ i, atD l b1 = i := ⟨_, rfl⟩
 obtain ⟨kn, hkn⟩ : ∃ kn, hasD l b1 = kn := ⟨_, rfl⟩
 obtain ⟨p, hp⟩ : ∃ p, getD l b1 = p := ⟨_, rfl⟩
 have hll : l.length = len := by rw [HLL.out]; unfold pds; rw [List.length_map]; exact HT1.out.tab.pds.row.length
 have hil : i ≤ len := by rw [← hi, ← hll]; exact atD_le l b1
 have HKY : Hid (kn = true → i < len) := by
  intro h
  rw [← hkn] at h
  obtain ⟨q, hq, _⟩ := get_yes h
  rw [hi] at hq
  have := (List.getElem?_eq_some_iff.1 hq).1
  omega
 have HGE0 : Hid (getD l b1 = p) := hp
 have HKN : Hid (kn = false → p = Pd.zero) := fun h => by rw [← hp]; exact get_no (by rw [hkn]; exact h)
 have hp5 := get_few HF.out b1
 have CAT : Hid (∀ W, TabOk W kt ad len cap ms → Calls Tryz.prog 121 #[.pointer (some ⟨kt, 0, none⟩), .int .i64 b1] W (GivesAt W i kn)) := by
  intro W hW
  have := tabAt_any W kt ad len cap ms hW.tab (by omega) b1
  rw [← HLL.out, hi, hkn] at this
  exact this
 have CGT : Hid (∀ W, TabOk W kt ad len cap ms → Calls Tryz.prog 105 #[.pointer (some ⟨kt, 0, none⟩), .int .i64 b1] W (GivesTGet W p kn)) := by
  intro W hW
  have := tabGet_any W kt ad len cap ms hW.tab (by omega) b1
  rw [← HLL.out, hp, hkn] at this
  exact this
 rw [hp] at hp5
 have hlq := HLQ.out
 rw [hi, hkn, hp] at hlq
 have HLQ2 := qh hlq
 have hdq := HDQ.out
 unfold dropsB at hdq
 simp only at hdq
 rw [hp, hkn] at hdq
 have HDQ2 := qh hdq
 clear hor hz1 hz2 hi hkn hp HLQ HDQ HLP HDR HRE hlq hdq
 go_wp2_with fail
 refine (CAT.out w1 HT1.out).mono ?_
 rintro e w2 ⟨rfl, hb2⟩
 have HX2 := qh (HX1.out.on hb2)
 have HD2 := qh (HD1.out.on hb2)
 have HT2 := qh (HT1.out.keep hb2)
 have HB2 := qh (HB1.out.trans (hb2.mono HB1.out.size))
 have HG2 := qh (grow_below HG1.out hb2)
 clear hb2 HX1 HD1 HT1 HG1 CAT p1
 have p1 := HX2.out.c1
 go_wp2_with fail
 refine (CGT.out w2 HT2.out).mono ?_
 rintro e w3 ⟨pd, pn, pc, rfl, hrow, hb3⟩
 have hpn := hrow.length
 have HRW3 := qh hrow
 have HX3 := qh (HX2.out.on hb3)
 have HD3 := qh (HD2.out.on hb3)
 have HT3 := qh (HT2.out.keep hb3)
 have HB3 := qh (HB2.out.trans (hb3.mono HB2.out.size))
 have HG3 := qh (grow_below HG2.out hb3)
 clear hb3 hrow HX2 HD2 HT2 HG2 CGT p1
 obtain ⟨pid, pep, pl, po⟩ := p
 have HGE := HGE0
 clear HGE0
 simp only at hp5 hpn HRW3
 simp only
 go_upto_region 5 with fail
 obtain ⟨W4, hW4⟩ := exq (w3.alloc (.cells #[.int .i64 pid, .int .i64 pep, .slice pd pn pc, .int .i64 po] 58))
 have hb4 := wbq hW4
 have HX4 := qh (HX3.out.on hb4)
 have HD4 := qh (HD3.out.on hb4)
 have HT4 := qh (HT3.out.keep hb4)
 have HRW4 := qh (HRW3.out.keep hb4)
 have HG4 := qh (grow_below HG3.out hb4)
 obtain ⟨P, hP⟩ := exq w3.heap.size
 have hPw : w.heap.size ≤ P := by rw [hP]; exact HB3.out.size
 have HP4 : Hid (PBox W4 P pid pep (.slice pd pn pc) po) := by rw [hW4, hP]; exact pbox_new w3 _ _ _ _
 have hPD : P ≠ D := by have := HD3.out.lt; omega
 have HB4 := qh (HB3.out.trans (hb4.mono HB3.out.size))
 rw [← hW4, ← hP]
 clear hW4 hb4 hP HX3 HD3 HT3 HRW3 HG3 HB0 HB1 HB2 HB3 HRE0
 obtain ⟨p0, p1, p2, p3, p4, p5, p6⟩ := HX4.out.cs
 have q0 := HP4.out.c0
 have q1 := HP4.out.c1
 have q2 := HP4.out.c2
 have q3 := HP4.out.c3
 obtain ⟨x, hx⟩ : ∃ x, applyD ⟨pid, pep, pl, po⟩ kn ⟨b0, b1, b2, b3, b4, b5, recs⟩ = x := ⟨_, rfl⟩
 have HAP := qh hx
 clear hx
 go_wp2_with fail
 refine (refApply_any W4 pid pep po pl pd pn pc HRW4.out (by omega) kn b0 b1 b2 b3 b4 b5 recs rd rn rc hrl hrn x HAP.out).mono ?_
 rintro e w5 ⟨xd, xn, xc, rfl, hxr, hxk, hb5⟩
 have hxn := hxr.length
 have HX5 := qh (HX4.out.on hb5)
 have HD5 := qh (HD4.out.on hb5)
 have HT5 := qh (HT4.out.keep hb5)
 have HP5 := qh (HP4.out.on hb5)
 have HG5 := qh (grow_below HG4.out hb5)
 have HB5 := qh (HB4.out.trans (hb5.mono HB4.out.size))
 have HXR5 := qh hxr
 have HXF : Hid (∀ a, xd = some a → w.heap.size ≤ a.block) := fun a ha => Nat.le_trans HB4.out.size (hxk a ha).1
 have HXK : Hid (∀ a, xd = some a → kt < a.block ∧ a.block < w5.heap.size ∧ a.block ≠ D) := fun a ha => by
  have h1 := hxk a ha
  have h2 := HD4.out.lt
  have h3 := HT4.out.tab.box.lt
  exact ⟨by omega, h1.2, by omega⟩
 clear hb5 hxr hxk HX4 HD4 HT4 HP4 HRW4 HG4 HB4 p0 p1 p2 p3 p4 p5 p6 q0 q1 q2 q3
 go_upto_if 38 with (fail)
 obtain ⟨W6, hW6⟩ := exq (w5.alloc (.cells #[.int .i64 x.id, .int .i64 x.epoch, .slice xd xn xc, .int .i64 x.opn] 58))
 have hb6 := wbq hW6
 have HX6 := qh (HX5.out.on hb6)
 have HD6 := qh (HD5.out.on hb6)
 have HT6 := qh (HT5.out.keep hb6)
 have HP6 := qh (HP5.out.on hb6)
 have HG6 := qh (grow_below HG5.out hb6)
 have HXR6 := qh (HXR5.out.keep hb6)
 obtain ⟨Y, hY⟩ := exq w5.heap.size
 have HY6 : Hid (PBox W6 Y x.id x.epoch (.slice xd xn xc) x.opn) := by rw [hW6, hY]; exact pbox_new w5 _ _ _ _
 have hYw : w.heap.size ≤ Y := by rw [hY]; exact HB5.out.size
 have HS56 : Hid (w5.heap.size ≤ W6.heap.size) := hb6.size
 rw [← hW6, ← hY]
 clear hW6 hb6 hY HX5 HD5 HT5 HP5 HXR5 HG5 HB5
 subst hxn
 obtain ⟨mx, hmx⟩ : ∃ mx : PM, mx = ⟨x, xd, xc⟩ := ⟨_, rfl⟩
 have hw56 : w5.heap.size ≤ W6.heap.size := HS56.out
 have HXK6 : Hid (∀ a, xd = some a → kt < a.block ∧ a.block < W6.heap.size ∧ a.block ≠ D) := fun a ha => ⟨(HXK.out a ha).1, Nat.lt_of_lt_of_le (HXK.out a ha).2.1 hw56, (HXK.out a ha).2.2⟩
 obtain ⟨bo, hbo⟩ : ∃ bo : Obj, bo = (.cells #[.int .i64 b0, .int .i64 b1, .int .i64 b2, .int .i64 b3, .bool b4, .int .i64 b5, .slice rd rn rc] 29 (0, 0)) := ⟨_, rfl⟩
 obtain ⟨pob, hpo⟩ : ∃ z : Obj, z = (.cells #[.int .i64 pid, .int .i64 pep, .slice pd pn pc, .int .i64 po] 58 (0, 0)) := ⟨_, rfl⟩
 have hbx : W6.heap[B]? = some bo := by rw [hbo]; exact HX6.out
 have hpx : W6.heap[P]? = some pob := by rw [hpo]; exact HP6.out
 have HBX6 := qh hbx
 have HPX6 := qh hpx
 have hktY : kt ≠ Y := by omega
 have hktB : kt ≠ B := by omega
 have hktP : kt ≠ P := by omega
 have hktD : kt ≠ D := by omega
 have HBO := qh hbo
 have HPO := qh hpo
 have HMX := qh hmx
 clear hbx hpx HX6 HP6 hbo hpo hmx HXK HS56
 have HL6 := HT6.out.tab.pds.row.length
 have hfits := HT6.out.tab.pds.row.fits
 have hml : ms.length = len := HL6
 go_cut [] from 38 (fun wx => TA w kt B D P ms bo pob l' wx)
 case first =>
  cases kn
  rotate_left
  · have HIL := HKY.out rfl
    have HLE : Hid (l' = l.set i (applyD ⟨pid, pep, pl, po⟩ true ⟨b0, b1, b2, b3, b4, b5, recs⟩)) := by
     show _ = _
     rw [HLQ2.out, if_pos rfl]
    have HMS : Hid (pds (ms.set i mx) = l') := by
     show _ = _
     rw [HLE.out, HLL.out, HAP.out, HMX.out]
     unfold pds
     rw [List.map_set]
    have t0 := (HT6.out.tab.box.on (bal W6 (.cells #[] 58))).c0
    have HVE : Hid (OwnRow pdK (W6.alloc (.cells #[] 58)) W6.heap.size (.slice (some ⟨W6.heap.size, 0, none⟩) 0 0) []) := ownRow_lit pdK_ok W6 _ [] (Nat.le_refl _) (by simp) _ rfl 0 rfl
    have HBE : Hid (Below W6.heap.size W6 (W6.alloc (.cells #[] 58))) := (bal _ _)
    have HRE7 := qh (HT6.out.tab.pds.row.keep HBE.out)
    go_wp2_with (at_builtin; refine list_row (by rfl) pdK_ok (.tmp 40) (.tmp 44) rfl W6.heap.size [] ms _ rfl HVE.out HBE.out.size ad len cap rfl HRE7.out (by rw [List.length_nil]; omega) ?_)
    intro v7 w7 hap
    obtain ⟨g, cap7, cur, hv7, hblk, hbg, hcs⟩ := OwnRow.block (n := len) hap.1 hml (by omega)
    subst hv7
    have HO7 : Hid (OwnRow pdK w7 W6.heap.size (.slice (some ⟨g, 0, none⟩) len cap7) ms) := hap.1
    have HB7 : Hid (Below W6.heap.size W6 w7) := HBE.out.grown hap.2.1 HBE.out.size fun q hq => (HVE.out.lt q hq).1
    clear hap HVE HBE HRE7 t0
    have t0 := (HT6.out.tab.box.on HB7.out).c0
    have t1 := (HT6.out.tab.box.on HB7.out).free 0
    go_upto_region 8 with fail
    obtain ⟨w8, hw8⟩ := exq (w7.setCell ⟨kt, 0, none⟩ (.slice (some ⟨g, 0, none⟩) len cap7))
    have hkt6 := HT6.out.tab.box.lt
    have hktg : kt ≠ g := by omega
    have HG8 : Hid (W6.grownBy w8 (some kt)) := by show World.grownBy _ _ _; rw [hw8]; exact grow_set (grow_below (grow_refl W6 _) HB7.out) 0 _
    have HO8 : Hid (OwnRow pdK w8 W6.heap.size (.slice (some ⟨g, 0, none⟩) len cap7) ms) := by rw [hw8]; exact HO7.out.off hkt6 _ _
    have hblk8 : w8.heap[g]? = some (.cells cur 58 (0, 0)) := by rw [hw8]; exact box_off hblk hktg _
    have HTB8 : Hid (TabBox w8 kt (.slice (some ⟨g, 0, none⟩) len cap7)) := by rw [hw8]; exact (HT6.out.tab.box.on HB7.out).s0 _
    have HY8 : Hid (PBox w8 Y x.id x.epoch (.slice xd x.last.length xc) x.opn) := HY6.out.grown HG8.out (fun e => hktY (Option.some.inj e))
    rw [← hw8]
    clear hw8 hblk t0 t1 HO7 HB7
    have hcs4 : len * 4 ≤ cur.size := hcs
    have hcell : ∀ j, j < cur.size → ∃ u, w8.cell? ⟨g, j, none⟩ = some u := fun j hj => ⟨cur[j], by rw [cell_of_row _ _ _ _ _ _ hblk8]; exact Array.getElem?_eq_getElem hj⟩
    obtain ⟨y0, hy0⟩ := hcell (i * 4) (by omega)
    obtain ⟨y1, hy1⟩ := hcell (i * 4 + 1) (by omega)
    obtain ⟨y2, hy2⟩ := hcell (i * 4 + 2) (by omega)
    obtain ⟨y3, hy3⟩ := hcell (i * 4 + 3) (by omega)
    have KS : Hid (∀ W, Below w8.heap.size w8 W → (fun (W : World) => W.cell? ⟨kt, 0, none⟩ = some (.slice (some ⟨g, 0, none⟩) len cap7) ∧ W.cell? ⟨Y, 0, none⟩ = some (.int .i64 x.id) ∧ W.cell? ⟨Y, 1, none⟩ = some (.int .i64 x.epoch) ∧ W.cell? ⟨Y, 2, none⟩ = some (.slice xd x.last.length xc) ∧ W.cell? ⟨Y, 3, none⟩ = some (.int .i64 x.opn) ∧ W.cell? ⟨g, i * 4, none⟩ = some y0 ∧ W.cell? ⟨g, i * 4 + 1, none⟩ = some y1 ∧ W.cell? ⟨g, i * 4 + 2, none⟩ = some y2 ∧ W.cell? ⟨g, i * 4 + 3, none⟩ = some y3 ∧ W.frozen? ⟨g, i * 4, none⟩ = false ∧ W.frozen? ⟨g, i * 4 + 1, none⟩ = false ∧ W.frozen? ⟨g, i * 4 + 2, none⟩ = false ∧ W.frozen? ⟨g, i * 4 + 3, none⟩ = false) W) := by
     intro W hW
     have h2 := HY8.out.on hW
     have hb8 : W.heap[g]? = some (.cells cur 58 (0, 0)) := by rw [hW.block g (lt_of_block hblk8)]; exact hblk8
     have hh : ∀ j y, w8.cell? ⟨g, j, none⟩ = some y → W.cell? ⟨g, j, none⟩ = some y := fun j y h => by rw [cell_of_row _ _ _ _ _ _ hb8, ← cell_of_row _ _ _ _ _ _ hblk8]; exact h
     exact ⟨(HTB8.out.on hW).c0, h2.c0, h2.c1, h2.c2, h2.c3, hh _ _ hy0, hh _ _ hy1, hh _ _ hy2, hh _ _ hy3, frozen_of_row _ _ _ _ _ hb8, frozen_of_row _ _ _ _ _ hb8, frozen_of_row _ _ _ _ _ hb8, frozen_of_row _ _ _ _ _ hb8⟩
    have hij : (i : Int) < (len : Int) := by omega
    have hdrw : Below w8.heap.size w8 w8.drew := (Below.refl _ w8).drew
    clear hcell hblk8
    refine wp_region_noPanic ?_
    refine zk [7] KS ?_
    have hHeld := KS.out _ hdrw
    obtain ⟨u0, hu0⟩ := exq w8.drew
    rw [← hu0] at hHeld hdrw
    rw [← hu0]
    clear hu0
    have HU := qh hdrw
    clear hdrw
    refine zt 0 ?_
    refine zt 1 ?_
    refine zt 2 ?_
    refine zt 3 ?_
    refine zt 4 ?_
    refine zt 5 ?_
    refine zt 6 ?_
    obtain ⟨_, _, _, _, _, z0, z1, z2, z3, f0, f1, f2, f3⟩ := hHeld
    refine zr 7 (fun C hC => ?_)
    go_simp
    refine zl hC ?_
    clear hC C
    refine zd ?_
    obtain ⟨w9, hw9⟩ : ∃ w9, w9 = (((u0.setCell ⟨g, i * 4, none⟩ (.int .i64 x.id)).setCell ⟨g, i * 4 + 1, none⟩ (.int .i64 x.epoch)).setCell ⟨g, i * 4 + 2, none⟩ (.slice xd x.last.length xc)).setCell ⟨g, i * 4 + 3, none⟩ (.int .i64 x.opn) := ⟨_, rfl⟩
    have HGu : Hid (W6.grownBy u0 (some kt)) := grow_below HG8.out HU.out
    have HG9 : Hid (W6.grownBy w9 (some kt)) := by show World.grownBy _ _ _; rw [hw9]; exact grow_new (grow_new (grow_new (grow_new HGu.out hbg _) hbg _) hbg _) hbg _
    have HO9 : Hid (OwnRow pdK w9 W6.heap.size (.slice (some ⟨g, 0, none⟩) len cap7) (ms.set i mx)) := by
     show OwnRow _ _ _ _ _
     have := own_put (x := mx) (HO8.out.on HU.out) (by omega) hml (i := i)
     rw [hw9]
     rw [HMX.out] at this ⊢
     exact this
    have HTB9 : Hid (TabBox w9 kt (.slice (some ⟨g, 0, none⟩) len cap7)) := by
     show TabBox _ _ _
     rw [hw9]
     exact box_off (box_off (box_off (box_off (HTB8.out.on HU.out) hktg.symm _) hktg.symm _) hktg.symm _) hktg.symm _
    try rw [← hw9]
    clear hw9 HGu HO8 HTB8 HG8 KS
    go_wp2
    go_meet
    case rel =>
     obtain ⟨ad9, cap9, hv9, hr9, hk9⟩ := OwnRow.row pdK_ok HO9.out (n := len) (by rw [List.length_set]; exact hml)
     cases hv9
     exact ta_mk HG6.out HG9.out hkt HBX6.out hktB HD6.out hktD HPX6.out hktP HTB9.out hr9 hk9 (by have := HD6.out.lt; omega) HMS.out (fun m hm => by
      rcases List.mem_or_eq_of_mem_set hm with h1 | h1
      · exact ⟨HT6.out.tab.pds.ins m h1, fun a ha => ⟨(HT6.out.ins m h1 a ha).1, (HT6.out.ins m h1 a ha).2, HOLD2.out m h1 a ha⟩⟩
      · rw [h1, HMX.out]; exact ⟨HXR6.out, HXK6.out⟩) (fun m hm => by
      rcases List.mem_or_eq_of_mem_set hm with h1 | h1
      · exact .inl h1
      rw [h1, HMX.out]; exact .inr HXF.out)
  have HLE : Hid (l' = l.take i ++ applyD Pd.zero false ⟨b0, b1, b2, b3, b4, b5, recs⟩ :: l.drop i) := by show _ = _; rw [HLQ2.out, if_neg (by decide)]
  have HPZ := qh (HKN.out rfl)
  have HMS : Hid (pds (ms.take i ++ mx :: ms.drop i) = l') := by
   show _ = _
   have hz := HPZ.out
   rw [HLE.out, HLL.out, ← hz, HAP.out, HMX.out]
   unfold pds
   rw [List.map_append, List.map_cons, List.map_take, List.map_drop]
  have hup : ∀ W, (Instr.slice 54 (.slice ad len cap) none (some (.int .i64 (i : Int))) none).run Tryz.prog W = .ok (.slice ad i cap) W := row_upto pdK_ok ad len cap i (by omega)
  obtain ⟨fd, fc, hfr, hfrow, hfa⟩ := row_from pdK_ok HT6.out.tab.pds.row i hil
  have hfr : ∀ W, (Instr.slice 54 (.slice ad len cap) (some (.int .i64 (i : Int))) none none).run Tryz.prog W = .ok (.slice fd (len - i) fc) W := hfr
  have HFR := qh hfrow
  have HUR := qh (HT6.out.tab.pds.row.take i hil)
  have KS : Hid (∀ W, Below W6.heap.size W6 W → (fun (W : World) => W.cell? ⟨kt, 0, none⟩ = some (.slice ad len cap) ∧ W.cell? ⟨Y, 0, none⟩ = some (.int .i64 x.id) ∧ W.cell? ⟨Y, 1, none⟩ = some (.int .i64 x.epoch) ∧ W.cell? ⟨Y, 2, none⟩ = some (.slice xd x.last.length xc) ∧ W.cell? ⟨Y, 3, none⟩ = some (.int .i64 x.opn)) W) := by
   intro W hW
   have h1 := HT6.out.tab.box.on hW
   have h2 := HY6.out.on hW
   exact ⟨h1.c0, h2.c0, h2.c1, h2.c2, h2.c3⟩
  have hdrw : Below W6.heap.size W6 W6.drew := (Below.refl _ W6).drew
  clear hfrow hfa
  go_upto_region 9 with fail
  refine wp_region_noPanic ?_
  refine zk [21] KS ?_
  have hHeld := KS.out _ hdrw
  obtain ⟨u0, hu0⟩ := exq W6.drew
  rw [← hu0] at hHeld hdrw
  rw [← hu0]
  clear hu0
  have HBu0 := qh hdrw
  clear hdrw
  refine zt 0 ?_
  refine zt 2 ?_
  refine zt 3 ?_
  refine zt 4 ?_
  refine zt 5 ?_
  refine zt 6 ?_
  refine zt 7 ?_
  refine zt 9 ?_
  refine zt 12 ?_
  refine zt 13 ?_
  refine zt 14 ?_
  refine zt 15 ?_
  refine zt 16 ?_
  refine zt 17 ?_
  refine wpAnyZ_ready (rs := [1, 10]) (by kernel_rfl) (by simp) ?_
  refine AllReadyZ.cons (o := ⟨_, _, _, _, _, _⟩) rfl (fun C hC => ?_) (AllReadyZ.cons (o := ⟨_, _, _, _, _, _⟩) rfl (fun C hC => ?_) AllReadyZ.nil)
  · skip
    go_simp
    obtain ⟨u1, hu1⟩ := exq (u0.alloc (.cells #[] 58))
    have hbb := wbq hu1
    have HBu1 := qh (HBu0.out.trans (hbb.mono HBu0.out.size))
    obtain ⟨gu1, hgu1⟩ := exq u0.heap.size
    have HOu1 : Hid (OwnRow pdK u1 W6.heap.size (.slice (some ⟨gu1, 0, none⟩) 0 0) []) := by rw [hu1, hgu1]; exact ownRow_lit pdK_ok u0 _ [] HBu0.out.size (by simp) _ rfl 0 rfl
    rw [← hu1, ← hgu1]
    clear hu1 hgu1 hbb
    have hHeld := KS.out _ HBu1.out
    refine zc hC hHeld ?_
    clear hC C
    refine wpAnyZ_ready (rs := [8, 10]) (by kernel_rfl) (by simp) ?_
    refine AllReadyZ.cons (o := ⟨_, _, _, _, _, _⟩) rfl (fun C hC => ?_) (AllReadyZ.cons (o := ⟨_, _, _, _, _, _⟩) rfl (fun C hC => ?_) AllReadyZ.nil)
    · skip
      refine held_row (by rfl) pdK_ok (.tmp 56) (.tmp 62) rfl W6.heap.size [] (ms.take i) _ rfl HOu1.out HBu1.out.size ad i cap rfl (HUR.out.keep HBu1.out) (by rw [List.length_nil]; omega) ?_
      rintro vu2 u2 hap
      have HBu2 : Hid (Below W6.heap.size W6 u2) := HBu1.out.grown hap.2.1 HBu1.out.size fun q hq => (HOu1.out.lt q hq).1
      have HOu2 : Hid (OwnRow pdK u2 W6.heap.size vu2 (ms.take i)) := hap.1
      clear hap
      have hHeld := KS.out _ HBu2.out
      refine zc hC hHeld ?_
      clear hC C
      refine zr 10 (fun C hC => ?_)
      go_simp
      obtain ⟨u3, hu3⟩ := exq (u2.alloc (.cells #[.int .i64 x.id, .int .i64 x.epoch, .slice xd x.last.length xc, .int .i64 x.opn] 58))
      have hbb := wbq hu3
      have HBu3 := qh (HBu2.out.trans (hbb.mono HBu2.out.size))
      obtain ⟨gx, hgx⟩ := exq u2.heap.size
      have HXu3 : Hid (RowAt pdK u3 (some ⟨gx, 0, none⟩) 1 1 [mx]) := by rw [hu3, hgx, HMX.out]; exact rowAt_lit pdK_ok u2 [⟨x, xd, xc⟩] (by simp) _ rfl 1 rfl
      have HOu3 := qh (HOu2.out.on hbb)
      have HNEu3 : ∀ a, (some (⟨gx, 0, none⟩ : Addr)) = some a → some a.block ≠ (vu2 : Value).ownBlock := by
       intro a ha e
       cases ha
       have h1 : gx < u2.heap.size := (HOu2.out.lt _ e.symm).2
       omega
      rw [← hu3, ← hgx]
      clear hu3 hgx hbb
      have hHeld := KS.out _ HBu3.out
      refine zc hC hHeld ?_
      clear hC C
      refine zr 11 (fun C hC => ?_)
      refine held_row (by rfl) pdK_ok (.tmp 63) (.tmp 65) rfl W6.heap.size (ms.take i) [mx] _ rfl HOu3.out HBu3.out.size (some ⟨gx, 0, none⟩) 1 1 rfl HXu3.out (by rw [List.length_take]; omega) ?_
      rintro vu4 u4 hap
      have HBu4 : Hid (Below W6.heap.size W6 u4) := HBu3.out.grown hap.2.1 HBu3.out.size fun q hq => (HOu3.out.lt q hq).1
      have HOu4 : Hid (OwnRow pdK u4 W6.heap.size vu4 (ms.take i ++ [mx])) := hap.1
      clear hap
      have hHeld := KS.out _ HBu4.out
      refine zc hC hHeld ?_
      clear hC C
      refine zr 18 (fun C hC => ?_)
      refine held_row (by rfl) pdK_ok (.tmp 66) (.tmp 72) rfl W6.heap.size (ms.take i ++ [mx]) (ms.drop i) _ rfl HOu4.out HBu4.out.size fd (len - i) fc rfl (HFR.out.keep HBu4.out) (by rw [List.length_append, List.length_take]; simp; omega) ?_
      rintro vu5 u5 hap
      have HBu5 : Hid (Below W6.heap.size W6 u5) := HBu4.out.grown hap.2.1 HBu4.out.size fun q hq => (HOu4.out.lt q hq).1
      have HOu5 : Hid (OwnRow pdK u5 W6.heap.size vu5 (ms.take i ++ [mx] ++ ms.drop i)) := hap.1
      clear hap
      have hHeld := KS.out _ HBu5.out
      refine zc hC hHeld ?_
      clear hC C
      refine zt 19 ?_
      refine zt 20 ?_
      obtain ⟨g, capz, cur, hvz, hblk, hbg, hcs⟩ := OwnRow.block (n := len + 1) HOu5.out (by rw [List.length_append, List.length_append, List.length_take, List.length_drop]; simp; omega) (by omega)
      subst hvz
      have t0 := (HT6.out.tab.box.on HBu5.out).c0
      have t1 := (HT6.out.tab.box.on HBu5.out).free 0
      refine zr 21 (fun C hC => ?_)
      go_simp
      refine zl hC ?_
      clear hC C
      refine zd ?_
      obtain ⟨wz, hwz⟩ := exq (u5.setCell ⟨kt, 0, none⟩ (.slice (some ⟨g, 0, none⟩) (len + 1) capz))
      have hkt6 := HT6.out.tab.box.lt
      have HGz : Hid (W6.grownBy wz (some kt)) := by show World.grownBy _ _ _; rw [hwz]; exact grow_set (grow_below (grow_refl W6 _) HBu5.out) 0 _
      have HOz : Hid (OwnRow pdK wz W6.heap.size (.slice (some ⟨g, 0, none⟩) (len + 1) capz) (ms.take i ++ [mx] ++ ms.drop i)) := by rw [hwz]; exact HOu5.out.off hkt6 _ _
      have HTBz : Hid (TabBox wz kt (.slice (some ⟨g, 0, none⟩) (len + 1) capz)) := by rw [hwz]; exact (HT6.out.tab.box.on HBu5.out).s0 _
      try rw [← hwz]
      clear hwz t0 t1 hHeld
      go_wp2
      go_meet
      case rel =>
       obtain ⟨ad9, cap9, hv9, hr9, hk9⟩ := OwnRow.row pdK_ok HOz.out (n := len + 1) (by rw [List.length_append, List.length_append, List.length_take, List.length_drop]; simp; omega)
       cases hv9
       rw [List.append_assoc] at hr9
       exact ta_mk HG6.out HGz.out hkt HBX6.out hktB HD6.out hktD HPX6.out hktP HTBz.out hr9 hk9 (by have := HD6.out.lt; omega) HMS.out (fun m hm => by
        have hmm : m ∈ ms ∨ m = mx := by
         rcases List.mem_append.1 hm with h1 | h1
         · exact .inl (List.mem_of_mem_take h1)
         rcases List.mem_cons.1 h1 with h1 | h1
         · exact .inr h1
         exact .inl (List.mem_of_mem_drop h1)
        rcases hmm with h1 | h1
        · exact ⟨HT6.out.tab.pds.ins m h1, fun a ha => ⟨(HT6.out.ins m h1 a ha).1, (HT6.out.ins m h1 a ha).2, HOLD2.out m h1 a ha⟩⟩
        · rw [h1, HMX.out]; exact ⟨HXR6.out, HXK6.out⟩) (fun m hm => by
        rcases List.mem_append.1 hm with h1 | h1
        · exact .inl (List.mem_of_mem_take h1)
        rcases List.mem_cons.1 h1 with h1 | h1
        · rw [h1, HMX.out]; exact .inr HXF.out
        exact .inl (List.mem_of_mem_drop h1))
    skip
    go_simp
    obtain ⟨u6, hu6⟩ := exq (u1.alloc (.cells #[.int .i64 x.id, .int .i64 x.epoch, .slice xd x.last.length xc, .int .i64 x.opn] 58))
    have hbb := wbq hu6
    have HBu6 := qh (HBu1.out.trans (hbb.mono HBu1.out.size))
    obtain ⟨gx, hgx⟩ := exq u1.heap.size
    have HXu6 : Hid (RowAt pdK u6 (some ⟨gx, 0, none⟩) 1 1 [mx]) := by rw [hu6, hgx, HMX.out]; exact rowAt_lit pdK_ok u1 [⟨x, xd, xc⟩] (by simp) _ rfl 1 rfl
    have HOu6 := qh (HOu1.out.on hbb)
    have HNEu6 : ∀ a, (some (⟨gx, 0, none⟩ : Addr)) = some a → some a.block ≠ (.slice (some ⟨gu1, 0, none⟩) 0 0 : Value).ownBlock := by
     intro a ha e
     cases ha
     have h1 : gx < u1.heap.size := (HOu1.out.lt _ e.symm).2
     omega
    rw [← hu6, ← hgx]
    clear hu6 hgx hbb
    have hHeld := KS.out _ HBu6.out
    refine zc hC hHeld ?_
    clear hC C
    refine zr 8 (fun C hC => ?_)
    refine held_row (by rfl) pdK_ok (.tmp 56) (.tmp 62) rfl W6.heap.size [] (ms.take i) _ rfl HOu6.out HBu6.out.size ad i cap rfl (HUR.out.keep HBu6.out) (by rw [List.length_nil]; omega) ?_
    rintro vu7 u7 hap
    have HBu7 : Hid (Below W6.heap.size W6 u7) := HBu6.out.grown hap.2.1 HBu6.out.size fun q hq => (HOu6.out.lt q hq).1
    have HOu7 : Hid (OwnRow pdK u7 W6.heap.size vu7 (ms.take i)) := hap.1
    have HXu7 := qh (HXu6.out.grown hap.2.1 HNEu6)
    clear hap
    have hHeld := KS.out _ HBu7.out
    refine zc hC hHeld ?_
    clear hC C
    refine zr 11 (fun C hC => ?_)
    refine held_row (by rfl) pdK_ok (.tmp 63) (.tmp 65) rfl W6.heap.size (ms.take i) [mx] _ rfl HOu7.out HBu7.out.size (some ⟨gx, 0, none⟩) 1 1 rfl HXu7.out (by rw [List.length_take]; omega) ?_
    rintro vu8 u8 hap
    have HBu8 : Hid (Below W6.heap.size W6 u8) := HBu7.out.grown hap.2.1 HBu7.out.size fun q hq => (HOu7.out.lt q hq).1
    have HOu8 : Hid (OwnRow pdK u8 W6.heap.size vu8 (ms.take i ++ [mx])) := hap.1
    clear hap
    have hHeld := KS.out _ HBu8.out
    refine zc hC hHeld ?_
    clear hC C
    refine zr 18 (fun C hC => ?_)
    refine held_row (by rfl) pdK_ok (.tmp 66) (.tmp 72) rfl W6.heap.size (ms.take i ++ [mx]) (ms.drop i) _ rfl HOu8.out HBu8.out.size fd (len - i) fc rfl (HFR.out.keep HBu8.out) (by rw [List.length_append, List.length_take]; simp; omega) ?_
    rintro vu9 u9 hap
    have HBu9 : Hid (Below W6.heap.size W6 u9) := HBu8.out.grown hap.2.1 HBu8.out.size fun q hq => (HOu8.out.lt q hq).1
    have HOu9 : Hid (OwnRow pdK u9 W6.heap.size vu9 (ms.take i ++ [mx] ++ ms.drop i)) := hap.1
    clear hap
    have hHeld := KS.out _ HBu9.out
    refine zc hC hHeld ?_
    clear hC C
    refine zt 19 ?_
    refine zt 20 ?_
    obtain ⟨g, capz, cur, hvz, hblk, hbg, hcs⟩ := OwnRow.block (n := len + 1) HOu9.out (by rw [List.length_append, List.length_append, List.length_take, List.length_drop]; simp; omega) (by omega)
    subst hvz
    have t0 := (HT6.out.tab.box.on HBu9.out).c0
    have t1 := (HT6.out.tab.box.on HBu9.out).free 0
    refine zr 21 (fun C hC => ?_)
    go_simp
    refine zl hC ?_
    clear hC C
    refine zd ?_
    obtain ⟨wz, hwz⟩ := exq (u9.setCell ⟨kt, 0, none⟩ (.slice (some ⟨g, 0, none⟩) (len + 1) capz))
    have hkt6 := HT6.out.tab.box.lt
    have HGz : Hid (W6.grownBy wz (some kt)) := by show World.grownBy _ _ _; rw [hwz]; exact grow_set (grow_below (grow_refl W6 _) HBu9.out) 0 _
    have HOz : Hid (OwnRow pdK wz W6.heap.size (.slice (some ⟨g, 0, none⟩) (len + 1) capz) (ms.take i ++ [mx] ++ ms.drop i)) := by rw [hwz]; exact HOu9.out.off hkt6 _ _
    have HTBz : Hid (TabBox wz kt (.slice (some ⟨g, 0, none⟩) (len + 1) capz)) := by rw [hwz]; exact (HT6.out.tab.box.on HBu9.out).s0 _
    try rw [← hwz]
    clear hwz t0 t1 hHeld
    go_wp2
    go_meet
    case rel =>
     obtain ⟨ad9, cap9, hv9, hr9, hk9⟩ := OwnRow.row pdK_ok HOz.out (n := len + 1) (by rw [List.length_append, List.length_append, List.length_take, List.length_drop]; simp; omega)
     cases hv9
     rw [List.append_assoc] at hr9
     exact ta_mk HG6.out HGz.out hkt HBX6.out hktB HD6.out hktD HPX6.out hktP HTBz.out hr9 hk9 (by have := HD6.out.lt; omega) HMS.out (fun m hm => by
      have hmm : m ∈ ms ∨ m = mx := by
       rcases List.mem_append.1 hm with h1 | h1
       · exact .inl (List.mem_of_mem_take h1)
       rcases List.mem_cons.1 h1 with h1 | h1
       · exact .inr h1
       exact .inl (List.mem_of_mem_drop h1)
      rcases hmm with h1 | h1
      · exact ⟨HT6.out.tab.pds.ins m h1, fun a ha => ⟨(HT6.out.ins m h1 a ha).1, (HT6.out.ins m h1 a ha).2, HOLD2.out m h1 a ha⟩⟩
      · rw [h1, HMX.out]; exact ⟨HXR6.out, HXK6.out⟩) (fun m hm => by
      rcases List.mem_append.1 hm with h1 | h1
      · exact .inl (List.mem_of_mem_take h1)
      rcases List.mem_cons.1 h1 with h1 | h1
      · rw [h1, HMX.out]; exact .inr HXF.out
      exact .inl (List.mem_of_mem_drop h1))
  skip
  go_simp
  obtain ⟨u10, hu10⟩ := exq (u0.alloc (.cells #[.int .i64 x.id, .int .i64 x.epoch, .slice xd x.last.length xc, .int .i64 x.opn] 58))
  have hbb := wbq hu10
  have HBu10 := qh (HBu0.out.trans (hbb.mono HBu0.out.size))
  obtain ⟨gx, hgx⟩ := exq u0.heap.size
  have HXu10 : Hid (RowAt pdK u10 (some ⟨gx, 0, none⟩) 1 1 [mx]) := by rw [hu10, hgx, HMX.out]; exact rowAt_lit pdK_ok u0 [⟨x, xd, xc⟩] (by simp) _ rfl 1 rfl
  rw [← hu10, ← hgx]
  clear hu10 hgx hbb
  have hHeld := KS.out _ HBu10.out
  refine zc hC hHeld ?_
  clear hC C
  refine zr 1 (fun C hC => ?_)
  go_simp
  obtain ⟨u11, hu11⟩ := exq (u10.alloc (.cells #[] 58))
  have hbb := wbq hu11
  have HBu11 := qh (HBu10.out.trans (hbb.mono HBu10.out.size))
  obtain ⟨gu11, hgu11⟩ := exq u10.heap.size
  have HOu11 : Hid (OwnRow pdK u11 W6.heap.size (.slice (some ⟨gu11, 0, none⟩) 0 0) []) := by rw [hu11, hgu11]; exact ownRow_lit pdK_ok u10 _ [] HBu10.out.size (by simp) _ rfl 0 rfl
  have HXu11 := qh (HXu10.out.keep hbb)
  have HNEu11 : ∀ a, (some (⟨gx, 0, none⟩ : Addr)) = some a → some a.block ≠ (Value.slice (some ⟨gu11, 0, none⟩) 0 0).ownBlock := by
   intro a ha e
   cases ha
   have h1 := HXu10.out.lt (by omega) _ rfl
   simp [Value.ownBlock] at e
   simp at h1
   omega
  rw [← hu11, ← hgu11]
  clear hu11 hgu11 hbb
  have hHeld := KS.out _ HBu11.out
  refine zc hC hHeld ?_
  clear hC C
  refine zr 8 (fun C hC => ?_)
  refine held_row (by rfl) pdK_ok (.tmp 56) (.tmp 62) rfl W6.heap.size [] (ms.take i) _ rfl HOu11.out HBu11.out.size ad i cap rfl (HUR.out.keep HBu11.out) (by rw [List.length_nil]; omega) ?_
  rintro vu12 u12 hap
  have HBu12 : Hid (Below W6.heap.size W6 u12) := HBu11.out.grown hap.2.1 HBu11.out.size fun q hq => (HOu11.out.lt q hq).1
  have HOu12 : Hid (OwnRow pdK u12 W6.heap.size vu12 (ms.take i)) := hap.1
  have HXu12 := qh (HXu11.out.grown hap.2.1 HNEu11)
  clear hap
  have hHeld := KS.out _ HBu12.out
  refine zc hC hHeld ?_
  clear hC C
  refine zr 11 (fun C hC => ?_)
  refine held_row (by rfl) pdK_ok (.tmp 63) (.tmp 65) rfl W6.heap.size (ms.take i) [mx] _ rfl HOu12.out HBu12.out.size (some ⟨gx, 0, none⟩) 1 1 rfl HXu12.out (by rw [List.length_take]; omega) ?_
  rintro vu13 u13 hap
  have HBu13 : Hid (Below W6.heap.size W6 u13) := HBu12.out.grown hap.2.1 HBu12.out.size fun q hq => (HOu12.out.lt q hq).1
  have HOu13 : Hid (OwnRow pdK u13 W6.heap.size vu13 (ms.take i ++ [mx])) := hap.1
  clear hap
  have hHeld := KS.out _ HBu13.out
  refine zc hC hHeld ?_
  clear hC C
  refine zr 18 (fun C hC => ?_)
  refine held_row (by rfl) pdK_ok (.tmp 66) (.tmp 72) rfl W6.heap.size (ms.take i ++ [mx]) (ms.drop i) _ rfl HOu13.out HBu13.out.size fd (len - i) fc rfl (HFR.out.keep HBu13.out) (by rw [List.length_append, List.length_take]; simp; omega) ?_
  rintro vu14 u14 hap
  have HBu14 : Hid (Below W6.heap.size W6 u14) := HBu13.out.grown hap.2.1 HBu13.out.size fun q hq => (HOu13.out.lt q hq).1
  have HOu14 : Hid (OwnRow pdK u14 W6.heap.size vu14 (ms.take i ++ [mx] ++ ms.drop i)) := hap.1
  clear hap
  have hHeld := KS.out _ HBu14.out
  refine zc hC hHeld ?_
  clear hC C
  refine zt 19 ?_
  refine zt 20 ?_
  obtain ⟨g, capz, cur, hvz, hblk, hbg, hcs⟩ := OwnRow.block (n := len + 1) HOu14.out (by rw [List.length_append, List.length_append, List.length_take, List.length_drop]; simp; omega) (by omega)
  subst hvz
  have t0 := (HT6.out.tab.box.on HBu14.out).c0
  have t1 := (HT6.out.tab.box.on HBu14.out).free 0
  refine zr 21 (fun C hC => ?_)
  go_simp
  refine zl hC ?_
  clear hC C
  refine zd ?_
  obtain ⟨wz, hwz⟩ := exq (u14.setCell ⟨kt, 0, none⟩ (.slice (some ⟨g, 0, none⟩) (len + 1) capz))
  have hkt6 := HT6.out.tab.box.lt
  have HGz : Hid (W6.grownBy wz (some kt)) := by show World.grownBy _ _ _; rw [hwz]; exact grow_set (grow_below (grow_refl W6 _) HBu14.out) 0 _
  have HOz : Hid (OwnRow pdK wz W6.heap.size (.slice (some ⟨g, 0, none⟩) (len + 1) capz) (ms.take i ++ [mx] ++ ms.drop i)) := by rw [hwz]; exact HOu14.out.off hkt6 _ _
  have HTBz : Hid (TabBox wz kt (.slice (some ⟨g, 0, none⟩) (len + 1) capz)) := by rw [hwz]; exact (HT6.out.tab.box.on HBu14.out).s0 _
  try rw [← hwz]
  clear hwz t0 t1 hHeld
  go_wp2
  go_meet
  case rel =>
   obtain ⟨ad9, cap9, hv9, hr9, hk9⟩ := OwnRow.row pdK_ok HOz.out (n := len + 1) (by rw [List.length_append, List.length_append, List.length_take, List.length_drop]; simp; omega)
   cases hv9
   rw [List.append_assoc] at hr9
   exact ta_mk HG6.out HGz.out hkt HBX6.out hktB HD6.out hktD HPX6.out hktP HTBz.out hr9 hk9 (by have := HD6.out.lt; omega) HMS.out (fun m hm => by
    have hmm : m ∈ ms ∨ m = mx := by
     rcases List.mem_append.1 hm with h1 | h1
     · exact .inl (List.mem_of_mem_take h1)
     rcases List.mem_cons.1 h1 with h1 | h1
     · exact .inr h1
     exact .inl (List.mem_of_mem_drop h1)
    rcases hmm with h1 | h1
    · exact ⟨HT6.out.tab.pds.ins m h1, fun a ha => ⟨(HT6.out.ins m h1 a ha).1, (HT6.out.ins m h1 a ha).2, HOLD2.out m h1 a ha⟩⟩
    · rw [h1, HMX.out]; exact ⟨HXR6.out, HXK6.out⟩) (fun m hm => by
    rcases List.mem_append.1 hm with h1 | h1
    · exact .inl (List.mem_of_mem_take h1)
    rcases List.mem_cons.1 h1 with h1 | h1
    · rw [h1, HMX.out]; exact .inr HXF.out
    exact .inl (List.mem_of_mem_drop h1))
 case rest =>
  have HTA := qh hcut
  obtain ⟨ad9, len9, cap9, ms9, htb9, hpds9, ha9, hi9, hl9, hfa9, hfi9⟩ := hcut.tab
  have HFA := qh hfa9
  have HFI := qh hfi9
  clear hfa9 hfi9
  have HTB := qh htb9
  have HPD := qh hpds9
  have HA9 := qh ha9
  have HI9 := qh hi9
  have HL9 := qh hl9
  have hbx : BoxAt wc B b0 b1 b2 b3 b4 b5 (.slice rd rn rc) := by have := hcut.bx; rw [HBO.out] at this; exact this
  have hpx : PBox wc P pid pep (.slice pd pn pc) po := by have := hcut.px; rw [HPO.out] at this; exact this
  have p0 := hbx.c0
  have p1 := hbx.c1
  have p5 := hbx.c5
  have q3 := hpx.c3
  have dc0 := HTA.out.dx.c0
  have df0 := HTA.out.dx.free 0
  have dc1 := HTA.out.dx.c1
  have df1 := HTA.out.dx.free 1
  have dc2 := HTA.out.dx.c2
  have df2 := HTA.out.dx.free 2
  clear hcut htb9 hpds9 ha9 hi9 hl9 hbx hpx HT6 HMX HBX6 HPX6 HD6 HXR6 HY6 HLQ2
  have hdq := HDQ2.out
  cases kn
  · have HDN : Hid (dr = none) := by show _ = _; rw [hdq]; simp
    clear hdq HDQ2
    go_wp2
    exact bodyPost_ret (v := .tuple #[.agg #[.int .i64 Dr.zero.prod, .int .i64 Dr.zero.first, .int .i64 Dr.zero.last], .bool false]) (resultsTApply (HTA.out.dx.s 0 0 0) rfl rfl) rfl (gives_tapply (by rw [HDN.out]; rfl) (by rw [HDN.out]; rfl) HTB.out HPD.out HA9.out HI9.out HL9.out HTA.out.gr hDw hkt (fun a ha => .inr (HFA.out a ha)) HFI.out)
  by_cases hm2 : b5 = 2
  · have hd5 : (b5 == 2) = true := by rw [hm2]; rfl
    by_cases hpo : 0 ≤ po
    · have hd6 : decide (0 ≤ po) = true := decide_eq_true hpo
      have HDS : Hid (dr = some ⟨b1, po, b0⟩) := by show _ = _; rw [hdq]; simp [hm2, hpo]
      clear hdq HDQ2 hm2 hpo
      go_wp2
      exact bodyPost_ret (v := .tuple #[.agg #[.int .i64 (⟨b1, po, b0⟩ : Dr).prod, .int .i64 (⟨b1, po, b0⟩ : Dr).first, .int .i64 (⟨b1, po, b0⟩ : Dr).last], .bool true]) (resultsTApply (HTA.out.dx.s b1 po b0) rfl rfl) rfl (gives_tapply (by rw [HDS.out]; rfl) (by rw [HDS.out]; rfl) HTB.out HPD.out HA9.out HI9.out HL9.out HTA.out.gr hDw hkt (fun a ha => .inr (HFA.out a ha)) HFI.out)
    have hd6 : decide (0 ≤ po) = false := decide_eq_false hpo
    have HDN : Hid (dr = none) := by show _ = _; rw [hdq]; simp [hpo]
    clear hdq HDQ2 hm2 hpo
    go_wp2
    exact bodyPost_ret (v := .tuple #[.agg #[.int .i64 Dr.zero.prod, .int .i64 Dr.zero.first, .int .i64 Dr.zero.last], .bool false]) (resultsTApply (HTA.out.dx.s 0 0 0) rfl rfl) rfl (gives_tapply (by rw [HDN.out]; rfl) (by rw [HDN.out]; rfl) HTB.out HPD.out HA9.out HI9.out HL9.out HTA.out.gr hDw hkt (fun a ha => .inr (HFA.out a ha)) HFI.out)
  have hd5 : (b5 == 2) = false := beq_false_of_ne hm2
  have HDN : Hid (dr = none) := by show _ = _; rw [hdq]; simp [hm2]
  clear hdq HDQ2 hm2
  go_wp2
  exact bodyPost_ret (v := .tuple #[.agg #[.int .i64 Dr.zero.prod, .int .i64 Dr.zero.first, .int .i64 Dr.zero.last], .bool false]) (resultsTApply (HTA.out.dx.s 0 0 0) rfl rfl) rfl (gives_tapply (by rw [HDN.out]; rfl) (by rw [HDN.out]; rfl) HTB.out HPD.out HA9.out HI9.out HL9.out HTA.out.gr hDw hkt (fun a ha => .inr (HFA.out a ha)) HFI.out)
def bats (ms : List BM) : List Bat := ms.map (·.b)
def BatsOk (bs : List Bat) : Prop := ∀ b ∈ bs, TextsOk b.recs ∧ b.prod ≤ 9223372036854775807 ∧ b.recs.length ≤ 140737488355328
def GivesFold (w : World) (bs : List Bat) (e : Ending) (w' : World) : Prop :=
 ∃ kt ad len cap ps dd dn dc, e = .returned (.tuple #[.pointer (some ⟨kt, 0, none⟩), .slice dd dn dc]) ∧ TabOk w' kt ad len cap ps ∧ pds ps = foldP [] bs ∧ RowAt drK w' dd dn dc (foldR [] bs) ∧ w.heap.size ≤ kt ∧ Below w.heap.size w w'
def Sep (u : Value) (ad : Option Addr) (ps : List PM) : Prop := ∀ k, u.ownBlock = some k → (∀ a, ad = some a → a.block ≠ k) ∧ ∀ m ∈ ps, ∀ a, m.ad = some a → a.block ≠ k
theorem TabOk.grown {w w' : World} {kt : Nat} {ad : Option Addr} {len cap : Nat} {ms : List PM} {u : Value} (h : TabOk w kt ad len cap ms) (hg : w.grownBy w' u.ownBlock) (hs : Sep u ad ms) (hk : ∀ k, u.ownBlock = some k → k ≠ kt) : TabOk w' kt ad len cap ms := by
 refine ⟨⟨h.tab.box.grown hg fun e => hk _ e rfl, h.tab.pds.row.grown hg fun a ha e => (hs _ e.symm).1 a ha rfl, fun m hm => (h.tab.pds.ins m hm).grown hg fun a ha e => (hs _ e.symm).2 m hm a ha rfl⟩, fun a ha => ⟨(h.row a ha).1, Nat.lt_of_lt_of_le (h.row a ha).2 hg.size⟩, fun m hm a ha => ⟨(h.ins m hm a ha).1, Nat.lt_of_lt_of_le (h.ins m hm a ha).2 hg.size⟩⟩
def FoldLoop (w : World) (bs : List Bat) (j : Nat) (v5 : Value) (wr : World) : Prop :=
 ∃ u ad len cap ps, u = v5 ∧ TabOk wr w.heap.size ad len cap ps ∧ pds ps = foldP [] (bs.take j) ∧ OwnRow drK wr (w.heap.size + 1) u (foldR [] (bs.take j)) ∧ Below w.heap.size w wr ∧ Sep u ad ps
theorem foldR_len : ∀ (l : List Pd) (bs : List Bat), (foldR l bs).length ≤ bs.length
 | l, [] => by simp [foldR]
 | l, b :: bs => by
   have := foldR_len (tapplyD l b) bs
   show ((tdropD l b).toList ++ foldR (tapplyD l b) bs).length ≤ _
   rw [List.length_append, List.length_cons]
   have h2 : (tdropD l b).toList.length ≤ 1 := by cases tdropD l b <;> simp
   omega
theorem fold_any (w : World) (ad : Option Addr) (len cap : Nat) (ms : List BM) (h : BatsAt w ad len cap ms) (hL : len ≤ 100000) (hok : BatsOk (bats ms)) :
 Calls Tryz.prog 58 #[.slice ad len cap] w (GivesFold w (bats ms)) := by
 have H := qh h
 have hlen := h.row.length
 obtain ⟨bs, hbs⟩ := exq (bats ms)
 have hbl : bs.length = len := by rw [hbs]; unfold bats; rw [List.length_map]; exact hlen
 have HGET : Hid (∀ (i : Nat) m, ms[i]? = some m → bs[i]? = some m.b) := by
  intro i m hm
  rw [hbs]; unfold bats
  rw [List.getElem?_map, hm]; rfl
 rw [← hbs] at hok
 rw [← hbs]
 have HOK := qh hok
 clear h hbs hlen hok
 go_enter Tryz.func58, Tryz.ntmps58
 go_wp2
 go_loopw [5, 14] (fun v5 v14 wr => ∃ j : Nat, v14 = .int .i64 (j : Int) ∧ j ≤ len ∧ FoldLoop w bs j v5 wr) (fun _ v14 _ => len - (intOf v14).toNat)
 case atStart =>
  refine ⟨0, rfl, Nat.zero_le _, _, none, 0, 0, [], rfl, ⟨⟨heap_alloc_new w _, rowAt_nil _, fun m hm => by cases hm⟩, fun a ha => (by cases ha), fun m hm => by cases hm⟩, rfl, ownRow_nil _ _ _, (bal _ _), fun k hk => by cases hk⟩
 obtain ⟨j, rfl, hj, u, tad, tlen, tcap, ps, rfl, htab, hps, hown, hbel, hsep⟩ := hrel
 have HSP := qh hsep
 have HT := qh htab
 have HPS := qh hps
 have HO := qh hown
 have HB := qh hbel
 clear htab hps hown hbel hsep
 obtain ⟨wo, hwo⟩ := exq wr
 subst hwo
 by_cases hlt : j < len
 rotate_left
 · have hd : decide (j < len) = false := decide_eq_false hlt
   have htk : bs.take j = bs := List.take_of_length_le (by omega)
   have HPE : Hid (pds ps = foldP [] bs) := by show _ = _; rw [HPS.out, htk]
   have HOE : Hid (OwnRow drK wo (w.heap.size + 1) u (foldR [] bs)) := by have := HO.out; rw [htk] at this; exact this
   clear HPS HO htk
   obtain ⟨dd, dc, hv, hr, _⟩ := HOE.out.at drK_ok
   subst hv
   go_wp2
   go_ret2
   exact ⟨w.heap.size, tad, tlen, tcap, ps, dd, _, dc, rfl, HT.out, HPE.out, hr, Nat.le_refl _, HB.out⟩
 have hd : decide (j < len) = true := decide_eq_true hlt
 have hjl : (j : Int) < (len : Int) := by omega
 obtain ⟨bk, off, m, rfl, hbk, hm, hrec, c0, c1, c2, c3, c4, c5, c6⟩ := (H.out.keep HB.out).get hlt
 have hbm := HGET.out j m hm
 have htk : bs.take (j + 1) = bs.take j ++ [m.b] := by
  rw [List.take_add_one, hbm]; rfl
 have HTK := qh htk
 obtain ⟨hk1, hk2, hk3⟩ := HOK.out m.b (List.mem_of_getElem? hbm)
 have HK1 := qh hk1
 have hpl : tlen ≤ 1000000 := by
  have h1 := foldP_len [] (bs.take j)
  have h2 := HT.out.tab.pds.row.length
  have h3 : (pds ps).length = ps.length := by unfold pds; rw [List.length_map]
  rw [← HPS.out, h3, List.length_take] at h1
  simp at h1
  omega
 have HFEW : Hid (fewP (pds ps)) := by rw [HPS.out]; exact foldP_few _ (fun p hp => by cases hp)
 have HRC := qh hrec
 clear hbm htk hk1 hm hrec hbk
 go_upto_region 6 with fail
 obtain ⟨W1, hW1⟩ := exq (wo.alloc (.cells #[.int .i64 m.b.base, .int .i64 m.b.prod, .int .i64 m.b.epoch, .int .i64 m.b.seq, .bool m.b.txn, .int .i64 m.b.marker, .slice m.ad m.b.recs.length m.cap] 29))
 have hb1 := wbq hW1
 obtain ⟨K, hK⟩ := exq wo.heap.size
 have HX1 := bxq hW1 hK
 have HT1 := qh (HT.out.keep hb1)
 have HO1 := qh (HO.out.on hb1)
 have HB1 := qh (HB.out.trans (hb1.mono HB.out.size))
 have HRC1 := qh (HRC.out.keep hb1)
 rw [← hW1, ← hK]
 clear hW1 hb1 hK c0 c1 c2 c3 c4 c5 c6
 obtain ⟨p0, p1, p2, p3, p4, p5, p6⟩ := HX1.out.cs
 obtain ⟨l', hl'⟩ : ∃ l', tapplyD (pds ps) m.b = l' := ⟨_, rfl⟩
 obtain ⟨dr, hdr⟩ : ∃ dr, tdropD (pds ps) m.b = dr := ⟨_, rfl⟩
 have CA := tabApply_any W1 w.heap.size tad tlen tcap ps HT1.out hpl m.b m.ad m.b.recs.length m.cap HRC1.out HK1.out hk3 hk2 HFEW.out
 rw [hl', hdr] at CA
 have CAH := qh CA
 have HP2 : Hid (l' = foldP [] (bs.take (j + 1))) := by show _ = _; rw [HTK.out, foldP_snoc, ← HPS.out, hl']
 have HR2 : Hid (foldR [] (bs.take (j + 1)) = foldR [] (bs.take j) ++ dr.toList) := by show _ = _; rw [HTK.out, foldR_snoc, ← HPS.out, hdr]
 have hrl : (foldR [] (bs.take j)).length ≤ j := by have := foldR_len [] (bs.take j); rw [List.length_take] at this; omega
 obtain ⟨lr, hlr⟩ : ∃ lr, foldR [] (bs.take j) = lr := ⟨_, rfl⟩
 rw [hlr] at hrl HO1 HR2
 clear CA hl' hdr hlr HPS HTK HFEW HK1
 go_wp2_with fail
 refine CAH.out.mono ?_
 rintro e w2 ⟨d, tad2, tlen2, tcap2, ps2, rfl, hdd, ht2, hp2, hg2, hfa2, hfi2⟩
 have HSP2 : Hid (Sep u tad2 ps2) := by
  intro k hk
  have hkl := (HO1.out.lt k hk).2
  refine ⟨fun a ha => ?_, fun m hm a ha => ?_⟩
  · rcases hfa2 a ha with h1 | h1
    · exact (HSP.out k hk).1 a h1
    omega
  rcases hfi2 m hm with h1 | h1
  · exact (HSP.out k hk).2 m h1 a ha
  have := h1 a ha; omega
 have HT2 := qh ht2
 have HP3 : Hid (pds ps2 = foldP [] (bs.take (j + 1))) := by show _ = _; rw [hp2, HP2.out]
 have HO2 := qh (HO1.out.grown hg2 (fun k hk e => by have := (HO1.out.lt k hk).1; cases e; omega))
 have HB2 : Hid (Below w.heap.size w w2) := HB1.out.trans (below_grown hg2 (Nat.le_refl _) HB1.out.size)
 have HDD := qh hdd
 clear ht2 hp2 hg2 hfa2 hfi2 HSP CAH p0 p1 p2 p3 p4 p5 p6 HT1 HO1 HX1 HP2 hdd
 go_upto_region 7 with fail
 obtain ⟨W3, hW3⟩ := exq (w2.alloc (.cells #[.int .i64 d.prod, .int .i64 d.first, .int .i64 d.last] 116))
 have hb3 := wbq hW3
 obtain ⟨Q, hQ⟩ := exq w2.heap.size
 have HD3 : Hid (DBox W3 Q d) := by rw [hW3, hQ]; exact dbox_new w2 d
 have HT3 := qh (HT2.out.keep hb3)
 have HO3 := qh (HO2.out.on hb3)
 have HB3 := qh (HB2.out.trans (hb3.mono HB2.out.size))
 rw [← hW3, ← hQ]
 clear hW3 hb3 hQ HT2 HO2 HB2
 have d0 := HD3.out.c0
 have d1 := HD3.out.c1
 have d2 := HD3.out.c2
 cases dr with
 | none =>
   have HR4 : Hid (foldR [] (bs.take (j + 1)) = lr) := by show _ = _; rw [HR2.out]; simp
   simp only [Option.isSome_none]
   go_wp2
   go_roundw
   case rel => exact ⟨j + 1, by go_num, by omega, _, tad2, tlen2, tcap2, ps2, rfl, HT3.out, HP3.out, by rw [HR4.out]; exact HO3.out, HB3.out, HSP2.out⟩
   simp [intOf]; omega
 | some x =>
   have hxd : x = d := HDD.out
   subst hxd
   have HR4 : Hid (foldR [] (bs.take (j + 1)) = lr ++ [x]) := by show _ = _; rw [HR2.out]; rfl
   simp only [Option.isSome_some]
   have HBA : Hid (Below w.heap.size w (W3.alloc (.cells #[.int .i64 x.prod, .int .i64 x.first, .int .i64 x.last] 116))) := HB3.out.alloc HB3.out.size _
   have HRX : Hid (RowAt drK (W3.alloc (.cells #[.int .i64 x.prod, .int .i64 x.first, .int .i64 x.last] 116)) (some ⟨W3.heap.size, 0, none⟩) 1 1 [x]) := rowAt_lit drK_ok W3 [x] (by simp) _ rfl 1 rfl
   have hwl : w.heap.size + 1 ≤ W3.heap.size := HT3.out.tab.box.lt
   go_wp2_with (at_builtin; refine list_row (by rfl) drK_ok (.tmp 25) (.tmp 27) rfl (w.heap.size + 1) lr [x] _ rfl (HO3.out.alloc _) (by simp; omega) (some ⟨W3.heap.size, 0, none⟩) 1 1 rfl HRX.out (by omega) ?_)
   intro v4 w4 hap
   have HO4 := qh hap.1
   have hg34 : W3.grownBy w4 u.ownBlock := grow_trans (World.grownBy_alloc W3 _ _) hap.2.1
   have hub : ∀ k, u.ownBlock = some k → w.heap.size < k := fun k hk => by have := (HO3.out.lt k hk).1; omega
   have HB4 : Hid (Below w.heap.size w w4) := HBA.out.grown hap.2.1 HBA.out.size fun k hk => Nat.le_of_lt (hub k hk)
   have HT4 : Hid (TabOk w4 w.heap.size tad2 tlen2 tcap2 ps2) := HT3.out.grown hg34 HSP2.out (fun k hk => by have := hub k hk; omega)
   have HSP4 : Hid (Sep v4 tad2 ps2) := by
    intro k hk
    rcases hap.2.2.2 k hk with h1 | h1
    · exact HSP2.out k h1
    have h1 : W3.heap.size + 1 ≤ k := by simpa using h1
    exact ⟨fun a ha => by have := (HT3.out.row a ha).2; omega, fun m hm a ha => by have := (HT3.out.ins m hm a ha).2; omega⟩
   clear hap hg34 hub HBA HRX HT3 HO3 HB3
   go_wp2
   go_roundw
   case rel => exact ⟨j + 1, by go_num, by omega, _, tad2, tlen2, tcap2, ps2, rfl, HT4.out, HP3.out, by rw [HR4.out]; exact HO4.out, HB4.out, HSP4.out⟩
   simp [intOf]; omega
def MBox (w : World) (km : Nat) (cap start : Int) (v : Value) : Prop := w.heap[km]? = some (.cells #[.int .i64 cap, .int .i64 start, v] 44 (0, 0))
section
variable {w w' : World} {km : Nat} {cap start : Int} {v : Value}
theorem MBox.c0 (h : MBox w km cap start v) : w.cell? ⟨km, 0, none⟩ = some (.int .i64 cap) := by rw [cell_of_row _ _ 0 _ _ _ h]; rfl
theorem MBox.c1 (h : MBox w km cap start v) : w.cell? ⟨km, 1, none⟩ = some (.int .i64 start) := by rw [cell_of_row _ _ 1 _ _ _ h]; rfl
theorem MBox.c2 (h : MBox w km cap start v) : w.cell? ⟨km, 2, none⟩ = some v := by rw [cell_of_row _ _ 2 _ _ _ h]; rfl
theorem MBox.free (h : MBox w km cap start v) (j : Nat) : w.frozen? ⟨km, j, none⟩ = false := frozen_of_row w km j _ _ h
theorem MBox.lt (h : MBox w km cap start v) : km < w.heap.size := lt_of_block h
theorem MBox.on (h : MBox w km cap start v) (hb : Below w.heap.size w w') : MBox w' km cap start v := by
 have hlt := h.lt
 unfold MBox at *
 rw [hb.block km hlt]
 exact h
theorem MBox.s2 (h : MBox w km cap start v) (u : Value) : MBox (w.setCell ⟨km, 2, none⟩ u) km cap start u := box_set h 2 _
theorem MBox.grown {r : Option Nat} (h : MBox w km cap start v) (hg : w.grownBy w' r) (hr : r ≠ some km) : MBox w' km cap start v := by
 have hlt := h.lt
 unfold MBox at *
 rw [hg.block km hlt (fun e => hr e.symm)]
 exact h
end
theorem batsOk_of {bs : List Bat} (h : RowOk bs) : BatsOk bs := fun b hb => by
 have h1 := ok_of (h b hb).1
 exact ⟨texts_of h1.texts, (h b hb).2.prod.2, by have := h1.recs; omega⟩
theorem refEnd_any (w : World) (start : Int) (ad : Option Addr) (len cap : Nat) (ms : List BM) (h : BatsAt w ad len cap ms) (hL : len ≤ 100000) (hok : RowOk (bats ms)) (v : Int) (hv : endD start (bats ms) = v) :
 Calls Tryz.prog 60 #[.int .i64 start, .slice ad len cap] w (Says v w) := by
 have hlen := h.row.length
 by_cases h0 : len = 0
 · subst h0
   obtain rfl : ms = [] := List.eq_nil_of_length_eq_zero hlen
   have HV : Hid (start = v) := hv
   clear h hv
   go_enter Tryz.func60, Tryz.ntmps60
   go_wp2
   go_ret
   exact says_mk HV.out (Below.refl _ _)
 obtain ⟨bk, off, m, rfl, hbk, hm, hrec, c0, c1, c2, c3, c4, c5, c6⟩ := h.get (i := len - 1) (by omega)
 have hlast : (bats ms).getLast? = some m.b := by
  unfold bats
  rw [List.getLast?_eq_getElem?, List.length_map, hlen, List.getElem?_map, hm]; rfl
 have hmem : m.b ∈ bats ms := List.mem_of_mem_getLast? hlast
 have hob := ok_of (hok m.b hmem).1
 have h1 := hob.base0
 have h2 := hob.base1
 have h3 := hob.recs
 rw [end_last hlast] at hv
 obtain ⟨cnt, hcnt⟩ : ∃ cnt, (if m.b.marker ≠ 0 then 1 else (m.b.recs.length : Int)) = cnt := ⟨_, rfl⟩
 have hc2 : countD m.b = cnt := hcnt
 have hc3 : 0 ≤ cnt ∧ cnt ≤ 16 := by rw [← hcnt]; split <;> omega
 rw [hc2] at hv
 have HCNT := qh hcnt
 have hdl : decide ((len : Int) = 0) = false := decide_eq_false (by omega)
 have hdl2 : ((len : Int) == 0) = false := beq_false_of_ne (by omega)
 have hdl3 : (len == 0) = false := beq_false_of_ne h0
 have hw1 : wrap64 ((len : Int) - 1) = (len : Int) - 1 := by unfold wrap64; omega
 have hi1 : (1 : Int) ≤ (len : Int) := by omega
 have hi2 : (len : Int) - 1 < (len : Int) := by omega
 have hi3 : ((len : Int) - 1).toNat = len - 1 := by omega
 have HVV : Hid (m.b.base + cnt = v) := hv
 clear h hok hlast hmem hob h3 hc2 hcnt hm hrec hbk hlen hv
 go_enter Tryz.func60, Tryz.ntmps60
 go_upto_region 4 with fail
 obtain ⟨W1, hW1⟩ := exq (w.alloc (.cells #[.int .i64 m.b.base, .int .i64 m.b.prod, .int .i64 m.b.epoch, .int .i64 m.b.seq, .bool m.b.txn, .int .i64 m.b.marker, .slice m.ad m.b.recs.length m.cap] 29))
 have HB1 := hwq hW1
 obtain ⟨K, hK⟩ := exq w.heap.size
 have HX1 := bxq hW1 hK
 rw [← hW1, ← hK]
 clear hW1 hK c0 c1 c2 c3 c4 c5 c6
 have KS : Hid (∀ W, Below W1.heap.size W1 W → (fun (W : World) => W.cell? ⟨K, 0, none⟩ = some (.int .i64 m.b.base) ∧ W.cell? ⟨K, 1, none⟩ = some (.int .i64 m.b.prod) ∧ W.cell? ⟨K, 2, none⟩ = some (.int .i64 m.b.epoch) ∧ W.cell? ⟨K, 3, none⟩ = some (.int .i64 m.b.seq) ∧ W.cell? ⟨K, 4, none⟩ = some (.bool m.b.txn) ∧ W.cell? ⟨K, 5, none⟩ = some (.int .i64 m.b.marker) ∧ W.cell? ⟨K, 6, none⟩ = some (.slice m.ad m.b.recs.length m.cap)) W) := by
  intro W hW
  have hX := HX1.out.on hW
  exact ⟨hX.c0, hX.c1, hX.c2, hX.c3, hX.c4, hX.c5, hX.c6⟩
 have hdrw : Below W1.heap.size W1 W1.drew := (Below.refl _ W1).drew
 have hwr : IntKind.i64.wrap (m.b.base + cnt) = v := by rw [HVV.out]; have := HVV.out; exact IntWalk.i64_in _ (by omega)
 refine wp_region_noPanic ?_
 refine zk [] KS ?_
 have hHeld := KS.out _ hdrw
 obtain ⟨u0, hu0⟩ := exq W1.drew
 rw [← hu0] at hHeld hdrw
 rw [← hu0]
 clear hu0
 have HU := qh hdrw
 clear hdrw
 refine zt 0 ?_
 refine zt 1 ?_
 refine zt 2 ?_
 refine zr 3 (fun C hC => ?_)
 go_simp
 refine (refCount_any u0 _ _ _ _ _ _ m.ad m.b.recs.length m.cap cnt HCNT.out).mono ?_
 rintro e u1 ⟨rfl, hbb⟩
 have HU1 := qh (HU.out.trans (hbb.mono HU.out.size))
 clear hbb
 go_wp2_with fail
 have hHeld := KS.out _ HU1.out
 refine zc hC hHeld ?_
 clear hC C
 refine zt 4 ?_
 refine zt 5 ?_
 refine zd ?_
 go_wp2
 go_ret
 exact says_mk (by first | rfl | exact HVV.out) (HB1.out.trans (HU1.out.mono HB1.out.size))
theorem modEnd_any (w : World) (km : Nat) (mc start : Int) (ad : Option Addr) (len cap : Nat) (ms : List BM) (hm : MBox w km mc start (.slice ad len cap)) (h : BatsAt w ad len cap ms) (hL : len ≤ 100000) (hok : RowOk (bats ms)) (v : Int) (hv : endD start (bats ms) = v) :
 Calls Tryz.prog 44 #[.pointer (some ⟨km, 0, none⟩)] w (Says v w) := by
 have HM := qh hm
 have H := qh h
 clear hm h
 go_enter Tryz.func44, Tryz.ntmps44
 go_upto_region 1 with fail
 have KS : Hid (∀ W, Below w.heap.size w W → (fun (W : World) => W.cell? ⟨km, 1, none⟩ = some (.int .i64 start) ∧ W.cell? ⟨km, 2, none⟩ = some (.slice ad len cap)) W) := by
  intro W hW
  have hX := HM.out.on hW
  exact ⟨hX.c1, hX.c2⟩
 have hdrw : Below w.heap.size w w.drew := (Below.refl _ w).drew
 refine wp_region_noPanic ?_
 refine zk [] KS ?_
 have hHeld := KS.out _ hdrw
 obtain ⟨u0, hu0⟩ := exq w.drew
 rw [← hu0] at hHeld hdrw
 rw [← hu0]
 clear hu0
 have HU := qh hdrw
 clear hdrw
 refine zt 0 ?_
 refine zt 1 ?_
 refine zt 2 ?_
 refine zt 3 ?_
 refine zt 4 ?_
 refine zt 5 ?_
 refine zt 6 ?_
 refine zt 7 ?_
 refine zr 8 (fun C hC => ?_)
 go_simp
 refine (refEnd_any u0 start ad len cap ms (H.out.keep HU.out) hL hok v hv).mono ?_
 rintro e u1 ⟨rfl, hbb⟩
 have HU1 := qh (HU.out.trans (hbb.mono HU.out.size))
 clear hbb
 go_wp2_with fail
 have hHeld := KS.out _ HU1.out
 refine zc hC hHeld ?_
 clear hC C
 refine zt 9 ?_
 refine zd ?_
 go_wp2
 go_ret
 exact says_mk rfl HU1.out
def SizeLoop (w : World) (bs : List Bat) (j : Nat) (v3 : Value) (wr : World) : Prop := v3 = .int .i64 (bytesD (bs.take j)) ∧ Below w.heap.size w wr
theorem modSize_any (w : World) (km : Nat) (mc start : Int) (ad : Option Addr) (len cap : Nat) (ms : List BM) (hm : MBox w km mc start (.slice ad len cap)) (h : BatsAt w ad len cap ms) (hL : len ≤ 100000) (hok : RowOk (bats ms)) (v : Int) (hv : bytesD (bats ms) = v) :
 Calls Tryz.prog 73 #[.pointer (some ⟨km, 0, none⟩)] w (Says v w) := by
 have H := qh h
 have hlen := h.row.length
 obtain ⟨bs, hbs⟩ := exq (bats ms)
 have hbl : bs.length = len := by rw [hbs]; unfold bats; rw [List.length_map]; exact hlen
 have HGET : Hid (∀ (i : Nat) m, ms[i]? = some m → bs[i]? = some m.b) := by
  intro i m hm
  rw [hbs]; unfold bats
  rw [List.getElem?_map, hm]; rfl
 rw [← hbs] at hok hv
 have HOK := qh hok
 have HV := qh hv
 have m2 := hm.c2
 clear h hbs hlen hok hv hm
 go_enter Tryz.func73, Tryz.ntmps73
 go_wp2
 clear m2
 go_loopw [3, 11] (fun v3 v11 wr => ∃ j : Nat, v11 = .int .i64 (j : Int) ∧ j ≤ len ∧ SizeLoop w bs j v3 wr) (fun _ v11 _ => len - (intOf v11).toNat)
 case atStart => exact ⟨0, rfl, Nat.zero_le _, rfl, Below.refl _ _⟩
 obtain ⟨j, rfl, hj, rfl, hbel⟩ := hrel
 have HB := qh hbel
 clear hbel
 obtain ⟨wo, hwo⟩ := exq wr
 subst hwo
 obtain ⟨x, hx⟩ : ∃ x, bytesD (bs.take j) = x := ⟨_, rfl⟩
 have hxb : 0 ≤ x ∧ x ≤ 240400000 := by
  have h1 := bytesD_bd (bs.take j)
  rw [hx, List.length_take] at h1
  omega
 obtain ⟨hx0, hx1⟩ := hxb
 rw [hx]
 have HX := qh hx
 clear hx
 by_cases hlt : j < len
 rotate_left
 · have hd : decide (j < len) = false := decide_eq_false hlt
   have HE : Hid (x = v) := by show x = v; rw [← HX.out, List.take_of_length_le (by omega), HV.out]
   go_wp2
   go_ret
   exact says_mk HE.out HB.out
 have hd : decide (j < len) = true := decide_eq_true hlt
 have hjl : (j : Int) < (len : Int) := by omega
 obtain ⟨bk, off, m, rfl, hbk, hm, hrec, c0, c1, c2, c3, c4, c5, c6⟩ := (H.out.keep HB.out).get hlt
 have hbm := HGET.out j m hm
 have hmem := List.mem_of_getElem? hbm
 have hob := ok_of (HOK.out m.b hmem).1
 have HTX := qh (texts_of hob.texts)
 have hr16 := hob.recs
 have hpr := (HOK.out m.b hmem).2.prod.2
 obtain ⟨s, hs⟩ : ∃ s, sizeB m.b = s := ⟨_, rfl⟩
 have hsb : 0 ≤ s ∧ s ≤ 2404 := by rw [← hs]; exact size_bd _
 obtain ⟨hs0, hs1⟩ := hsb
 have HNX : Hid (bytesD (bs.take (j + 1)) = x + s) := by
  show _ = _
  rw [List.take_add_one, hbm]
  show bytesD (bs.take j ++ [m.b]) = _
  rw [bytesD_snoc, HX.out, hs]
 have HS := qh hs
 have HRC := qh hrec
 clear hbm hmem hob hs hm hrec hbk
 go_upto_region 5 with fail
 obtain ⟨W1, hW1⟩ := exq (wo.alloc (.cells #[.int .i64 m.b.base, .int .i64 m.b.prod, .int .i64 m.b.epoch, .int .i64 m.b.seq, .bool m.b.txn, .int .i64 m.b.marker, .slice m.ad m.b.recs.length m.cap] 29))
 have hb1 := wbq hW1
 obtain ⟨K, hK⟩ := exq wo.heap.size
 have HX1 := bxq hW1 hK
 have HRC1 := qh (HRC.out.keep hb1)
 have HB1 := qh (HB.out.trans (hb1.mono HB.out.size))
 rw [← hW1, ← hK]
 clear hW1 hK hb1 c0 c1 c2 c3 c4 c5 c6 HB
 obtain ⟨p0, p1, p2, p3, p4, p5, p6⟩ := HX1.out.cs
 go_wp2_with fail
 have CS := refSize_any W1 m.b m.ad m.b.recs.length m.cap HRC1.out HTX.out (by omega) hpr
 rw [HS.out] at CS
 refine CS.mono ?_
 clear CS
 rintro e w2 ⟨rfl, hb2⟩
 have HB2 := qh (HB1.out.trans (hb2.mono HB1.out.size))
 clear hb2 p0 p1 p2 p3 p4 p5 p6
 go_wp2
 go_roundw
 case rel => exact ⟨j + 1, by go_num, by omega, by rw [HNX.out], HB2.out⟩
 simp [intOf]; omega
end Go.Proofs.YtjmfdildnojknaaGreat
