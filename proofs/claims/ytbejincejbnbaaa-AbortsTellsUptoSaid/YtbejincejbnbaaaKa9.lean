/- Parts of a proof, merged: SnNum, PrRefRight, ProdFold, SnMem, AbReads, Foot, ModEnd. -/
import Derived.Test.YtbejincejbnbaaaKa3
import Derived.Test.YtbejincejbnbaaaKa6
import Derived.Test.YtbejincejbnbaaaKa1
import Derived.Test.YtbejincejbnbaaaKa7
import Derived.Test.YtbejincejbnbaaaKa8
import Derived.Test.YtbejincejbnbaaaKa5
namespace Go.Proofs.Ytbejincejbnbaaa
open Go.RowKit
open Go.SnapMath
open Go.VarMath hiding AllB
set_option linter.unusedVariables false

/-- A block that is one reader. -/
def RBox (w : World) (k : Nat) (v : Value) (b : Bool) : Prop := w.heap[k]? = some (.cells #[v, .bool b] 81 (0, 0))
section
variable {w w' : World} {k : Nat} {v : Value} {b : Bool}
theorem RBox.c0 (h : RBox w k v b) : w.cell? ⟨k, 0, none⟩ = some v := by rw [cell_of_row _ _ 0 _ _ _ h]; rfl
theorem RBox.c1 (h : RBox w k v b) : w.cell? ⟨k, 1, none⟩ = some (.bool b) := by rw [cell_of_row _ _ 1 _ _ _ h]; rfl
theorem RBox.free (h : RBox w k v b) (j : Nat) : w.frozen? ⟨k, j, none⟩ = false := frozen_of_row w k j _ _ h
theorem RBox.lt (h : RBox w k v b) : k < w.heap.size := lt_of_block h
theorem RBox.on (h : RBox w k v b) (hb : Below w.heap.size w w') : RBox w' k v b := by
 have hlt := h.lt
 unfold RBox at *
 rw [hb.block k hlt]
 exact h
theorem RBox.s0 (h : RBox w k v b) (u : Value) : RBox (w.setCell ⟨k, 0, none⟩ u) k u b := box_set h 0 _
theorem RBox.s1 (h : RBox w k v b) (c : Bool) : RBox (w.setCell ⟨k, 1, none⟩ (.bool c)) k v c := box_set h 1 _
theorem rbox_new (w : World) (v : Value) (b : Bool) : RBox (w.alloc (.cells #[v, .bool b] 81)) w.heap.size v b := heap_alloc_new w _
end
/-- A reader that stands before bs; the bytes are those of w0, that is older than it. -/
structure RdAt (w0 w : World) (k : Nat) (bs : List Nat) (fell : Bool) : Prop where
 old : w0.heap.size ≤ k
 below : Below w0.heap.size w0 w
 box : ∃ ad len cap, RBox w k (.slice ad len cap) fell ∧ Byt w0 ad len cap bs
theorem RdAt.on {w0 w w' : World} {k : Nat} {bs : List Nat} {fell : Bool} (h : RdAt w0 w k bs fell) (hb : Below w.heap.size w w') : RdAt w0 w' k bs fell := by
 obtain ⟨ad, len, cap, h1, h2⟩ := h.box
 exact ⟨h.old, h.below.trans (hb.mono h.below.size), ad, len, cap, h1.on hb, h2⟩
theorem RdAt.off {w0 w : World} {k P j : Nat} {bs : List Nat} {fell : Bool} (h : RdAt w0 w k bs fell) (hP : P ≠ k) (hP0 : w0.heap.size ≤ P) (u : Value) : RdAt w0 (w.setCell ⟨P, j, none⟩ u) k bs fell := by
 obtain ⟨ad, len, cap, h1, h2⟩ := h.box
 exact ⟨h.old, h.below.setCell hP0 _, ad, len, cap, box_off h1 hP u, h2⟩
theorem RdAt.grown {w0 w w' : World} {k : Nat} {bs : List Nat} {fell : Bool} {r : Option Nat} (h : RdAt w0 w k bs fell) (hg : w.grownBy w' r) (hr : ∀ j, r = some j → k < j) : RdAt w0 w' k bs fell := by
 obtain ⟨ad, len, cap, h1, h2⟩ := h.box
 refine ⟨h.old, h.below.grown hg h.below.size (fun j hj => Nat.le_trans h.old (Nat.le_of_lt (hr j hj))), ad, len, cap, ?_, h2⟩
 have hlt := h1.lt
 unfold RBox at *
 rw [hg.block k hlt (fun e => Nat.lt_irrefl _ (hr k e.symm))]
 exact h1
theorem RdAt.lt {w0 w : World} {k : Nat} {bs : List Nat} {fell : Bool} (h : RdAt w0 w k bs fell) : k < w.heap.size := by
 obtain ⟨ad, len, cap, h1, h2⟩ := h.box
 exact h1.lt
theorem RdAt.c1 {w0 w : World} {k : Nat} {bs : List Nat} {fell : Bool} (h : RdAt w0 w k bs fell) : w.cell? ⟨k, 1, none⟩ = some (.bool fell) := by
 obtain ⟨ad, len, cap, h1, h2⟩ := h.box
 exact h1.c1
def GivesNum (w0 w : World) (k : Nat) (bs : List Nat) (fell : Bool) (e : Ending) (w' : World) : Prop :=
 e = .returned (.int .i64 (rdN bs fell).1) ∧ RdAt w0 w' k (rdN bs fell).2.1 (rdN bs fell).2.2 ∧ w.grownBy w' (some k)
theorem gives_num {w0 w w1 : World} {k j : Nat} {bs bs' : List Nat} {fell fell' : Bool} {n : Int} {u : Value} {ad : Option Addr} {len cap : Nat} (e : rdN bs fell = (n, bs', fell')) (ho : w0.heap.size ≤ k) (hg : w.grownBy w1 (some k)) (hb : Below w0.heap.size w0 w1)
 (hx : RBox (w1.setCell ⟨k, j, none⟩ u) k (.slice ad len cap) fell') (hy : Byt w0 ad len cap bs') : GivesNum w0 w k bs fell (.returned (.int .i64 n)) (w1.setCell ⟨k, j, none⟩ u) := by
 unfold GivesNum
 rw [e]
 exact ⟨rfl, ⟨ho, hb.setCell ho _, ad, len, cap, hx, hy⟩, grow_set hg j u⟩
set_option maxHeartbeats 2000000 in
set_option maxRecDepth 100000 in
theorem num_any (w0 w : World) (k : Nat) (bs : List Nat) (fell : Bool) (h : RdAt w0 w k bs fell) (hL : bs.length ≤ 140737488355328) :
 Calls Try.prog 34 #[.pointer (some ⟨k, 0, none⟩)] w (GivesNum w0 w k bs fell) := by
 obtain ⟨hold, hbel, ad, len, cap, hbox, hbyt⟩ := h
 have HO := Lib.hid hold
 have HBL := Lib.hid hbel
 have HX := Lib.hid hbox
 have HY := Lib.hid hbyt
 have hlen : len ≤ 140737488355328 := by rw [← hbyt.length]; exact hL
 clear hold hbel hbox hbyt hL
 have r0 := HX.out.c0
 go_enter Try.func34, Try.ntmps34
 go_wp2_with fail
 refine (refGet_any w ad len cap bs (HY.out.keep HBL.out (Nat.le_refl _)) hlen).mono ?_
 rintro e w1 ⟨rfl, hb⟩
 have HG : Hid (w.grownBy w1 (some k)) := grow_below (grow_refl w (some k)) hb
 replace HX := Lib.hid (HX.out.on hb)
 replace HBL := Lib.hid (HBL.out.trans (hb.mono HBL.out.size))
 clear hb r0
 obtain ⟨n, hn⟩ : ∃ n, n = (getB bs).1 := ⟨_, rfl⟩
 obtain ⟨j, hj⟩ : ∃ j, j = (getB bs).2 := ⟨_, rfl⟩
 have hg : getB bs = (n, j) := by rw [hn, hj]
 have hjl : j ≤ len := by have := (getB_bounds bs).2.1; rw [HY.out.length] at this; omega
 rw [← hn, ← hj]
 have HGB := Lib.hid hg
 clear hn hj hg
 have r0 := HX.out.c0
 have r1 := HX.out.c1
 have f0 := HX.out.free 0
 have f1 := HX.out.free 1
 cases fell with
 | true =>
   go_wp2
   go_ret
   exact gives_num (rdN_no (Or.inl rfl)) HO.out HG.out HBL.out (HX.out.s1 true) HY.out
 | false =>
   by_cases hj0 : j = 0
   · subst hj0
     have hd : ((0 : Int) == 0) = true := rfl
     go_wp2
     go_ret
     exact gives_num (rdN_no (Or.inr (by rw [HGB.out]))) HO.out HG.out HBL.out (HX.out.s1 true) HY.out
   · have hd : ((j : Int) == 0) = false := by
      rw [beq_eq_false_iff_ne]
      omega
     obtain ⟨b, off, rfl, hcell⟩ : ∃ b off, ad = some ⟨b, off, none⟩ ∧ True := by
      rcases HY.out.cells with h0 | ⟨b, off, e, _⟩
      · omega
      · exact ⟨b, off, e, trivial⟩
     obtain ⟨o, c, hsl, hby⟩ := from_lit HY.out j (j : Int) rfl hjl
     have HZ := Lib.hid hby
     clear hby
     go_wp2
     go_ret
     exact gives_num (rdN_yes HGB.out hj0) HO.out HG.out HBL.out (HX.out.s0 _) HZ.out
set_option maxHeartbeats 2000000 in
set_option maxRecDepth 100000 in
theorem done_any (w0 w : World) (k : Nat) (bs : List Nat) (fell : Bool) (h : RdAt w0 w k bs fell) :
 Calls Try.prog 35 #[.pointer (some ⟨k, 0, none⟩)] w fun e w' => e = .returned (.bool (!fell && bs.isEmpty)) ∧ Below w.heap.size w w' := by
 obtain ⟨hold, hbel, ad, len, cap, hbox, hbyt⟩ := h
 have r0 := hbox.c0
 have r1 := hbox.c1
 have hq : ((len : Int) == 0) = bs.isEmpty := by
  have h1 := hbyt.length
  cases bs with
  | nil => subst h1; rfl
  | cons a r =>
    rw [List.length_cons] at h1
    show _ = false
    rw [beq_eq_false_iff_ne]
    omega
 obtain ⟨q, hq2⟩ : ∃ q, q = bs.isEmpty := ⟨_, rfl⟩
 rw [← hq2] at hq ⊢
 clear hold hbel hbox hbyt hq2
 go_enter Try.func35, Try.ntmps35
 cases fell with
 | true =>
   go_wp2
   go_ret
   exact ⟨rfl, Below.refl _ _⟩
 | false =>
   go_wp2
   go_ret
   exact ⟨rfl, Below.refl _ _⟩
end Go.Proofs.Ytbejincejbnbaaa
namespace Go.Proofs.Ytbejincejbnbaaa
open Go.RowKit
open Go.SeqMath
open Go.ProdMath
open Go.BatMath hiding AllB getD_lt take_all
set_option linter.unusedVariables false

def bats (ms : List BM) : List Bat := ms.map (·.b)
/-- Batches whose numbers and texts are such. -/
def BatsOk (bs : List Bat) : Prop := ∀ b ∈ bs, TextsOk b.recs ∧ b.prod ≤ 9223372036854775807 ∧ b.recs.length ≤ 140737488355328
def GivesFold (w : World) (bs : List Bat) (e : Ending) (w' : World) : Prop :=
 ∃ kt ad len cap ps dd dn dc, e = .returned (.tuple #[.pointer (some ⟨kt, 0, none⟩), .slice dd dn dc]) ∧ TabOk w' kt ad len cap ps ∧ pds ps = foldP [] bs ∧ RowAt drK w' dd dn dc (foldR [] bs) ∧ w.heap.size ≤ kt ∧ Below w.heap.size w w'
/-- The list under way lies in no block of the table's. -/
def Sep (u : Value) (ad : Option Addr) (ps : List PM) : Prop := ∀ k, u.ownBlock = some k → (∀ a, ad = some a → a.block ≠ k) ∧ ∀ m ∈ ps, ∀ a, m.ad = some a → a.block ≠ k
theorem TabOk.grown {w w' : World} {kt : Nat} {ad : Option Addr} {len cap : Nat} {ms : List PM} {u : Value} (h : TabOk w kt ad len cap ms) (hg : w.grownBy w' u.ownBlock) (hs : Sep u ad ms) (hk : ∀ k, u.ownBlock = some k → k ≠ kt) : TabOk w' kt ad len cap ms := by
 refine ⟨⟨h.tab.box.grown hg fun e => hk _ e rfl, h.tab.pds.row.grown hg fun a ha e => (hs _ e.symm).1 a ha rfl, fun m hm => (h.tab.pds.ins m hm).grown hg fun a ha e => (hs _ e.symm).2 m hm a ha rfl⟩, fun a ha => ⟨(h.row a ha).1, Nat.lt_of_lt_of_le (h.row a ha).2 hg.size⟩, fun m hm a ha => ⟨(h.ins m hm a ha).1, Nat.lt_of_lt_of_le (h.ins m hm a ha).2 hg.size⟩⟩
def FoldLoop (w : World) (bs : List Bat) (j : Nat) (v5 : Value) (wr : World) : Prop :=
 ∃ u ad len cap ps, u = v5 ∧ TabOk wr w.heap.size ad len cap ps ∧ pds ps = foldP [] (bs.take j) ∧ OwnRow drK wr (w.heap.size + 1) u (foldR [] (bs.take j)) ∧ Below w.heap.size w wr ∧ Sep u ad ps
theorem foldR_len : ∀ (l : List Pd) (bs : List Bat), (foldR l bs).length ≤ bs.length
 | l, [] => by simp [foldR]
 | l, b :: bs => by
   have := foldR_len (tapplyD l b) bs
   show ((tdropD l b).toList ++ foldR (tapplyD l b) bs).length ≤ _
   rw [List.length_append, List.length_cons]
   have h2 : (tdropD l b).toList.length ≤ 1 := by cases tdropD l b <;> simp
   omega
set_option maxRecDepth 100000 in
set_option maxHeartbeats 4000000 in
theorem fold_any (w : World) (ad : Option Addr) (len cap : Nat) (ms : List BM) (h : BatsAt w ad len cap ms) (hL : len ≤ 100000) (hok : BatsOk (bats ms)) :
 Calls Try.prog 24 #[.slice ad len cap] w (GivesFold w (bats ms)) := by
 have H := Lib.hid h
 have hlen := h.row.length
 obtain ⟨bs, hbs⟩ : ∃ bs, bs = bats ms := ⟨_, rfl⟩
 have hbl : bs.length = len := by rw [hbs]; unfold bats; rw [List.length_map]; exact hlen
 have HGET : Hid (∀ (i : Nat) m, ms[i]? = some m → bs[i]? = some m.b) := by
  intro i m hm
  rw [hbs]; unfold bats
  rw [List.getElem?_map, hm]; rfl
 rw [← hbs] at hok
 rw [← hbs]
 have HOK := Lib.hid hok
 clear h hbs hlen hok
 go_enter Try.func24, Try.ntmps24
 go_wp2
 go_loopw [5, 14] (fun v5 v14 wr => ∃ j : Nat, v14 = .int .i64 (j : Int) ∧ j ≤ len ∧ FoldLoop w bs j v5 wr) (fun _ v14 _ => len - (intOf v14).toNat)
 case atStart =>
  refine ⟨0, rfl, Nat.zero_le _, _, none, 0, 0, [], rfl, ⟨⟨heap_alloc_new w _, rowAt_nil _, fun m hm => by cases hm⟩, fun a ha => (by cases ha), fun m hm => by cases hm⟩, rfl, ownRow_nil _ _ _, (Below.refl _ _).alloc (Nat.le_refl _) _, fun k hk => by cases hk⟩
 case round =>
  obtain ⟨j, rfl, hj, u, tad, tlen, tcap, ps, rfl, htab, hps, hown, hbel, hsep⟩ := hrel
  have HSP := Lib.hid hsep
  have HT := Lib.hid htab
  have HPS := Lib.hid hps
  have HO := Lib.hid hown
  have HB := Lib.hid hbel
  clear htab hps hown hbel hsep
  obtain ⟨wo, hwo⟩ : ∃ wo : World, wo = wr := ⟨_, rfl⟩
  subst hwo
  by_cases hlt : j < len
  · have hd : decide (j < len) = true := decide_eq_true hlt
    have hjl : (j : Int) < (len : Int) := by omega
    obtain ⟨bk, off, m, rfl, hbk, hm, hrec, c0, c1, c2, c3, c4, c5, c6⟩ := (H.out.keep HB.out).get hlt
    have hbm := HGET.out j m hm
    have htk : bs.take (j + 1) = bs.take j ++ [m.b] := by
     rw [List.take_add_one, hbm]; rfl
    have HTK := Lib.hid htk
    obtain ⟨hk1, hk2, hk3⟩ := HOK.out m.b (List.mem_of_getElem? hbm)
    have HK1 := Lib.hid hk1
    have hpl : tlen ≤ 1000000 := by
     have h1 := foldP_len [] (bs.take j)
     have h2 := HT.out.tab.pds.row.length
     have h3 : (pds ps).length = ps.length := by unfold pds; rw [List.length_map]
     rw [← HPS.out, h3, List.length_take] at h1
     simp at h1
     omega
    have HFEW : Hid (fewP (pds ps)) := by show fewP _; rw [HPS.out]; exact foldP_few _ (fun p hp => by cases hp)
    have HRC := Lib.hid hrec
    clear hbm htk hk1 hm hrec hbk
    go_upto_region 6 with fail
    obtain ⟨W1, hW1⟩ : ∃ W1, W1 = wo.alloc (.cells #[.int .i64 m.b.base, .int .i64 m.b.prod, .int .i64 m.b.epoch, .int .i64 m.b.seq, .bool m.b.txn, .int .i64 m.b.marker, .slice m.ad m.b.recs.length m.cap] 58) := ⟨_, rfl⟩
    have hb1 : Below wo.heap.size wo W1 := by rw [hW1]; exact (Below.refl _ _).alloc (Nat.le_refl _) _
    obtain ⟨K, hK⟩ : ∃ K, K = wo.heap.size := ⟨_, rfl⟩
    have HX1 : Hid (BoxAt W1 K m.b.base m.b.prod m.b.epoch m.b.seq m.b.txn m.b.marker (.slice m.ad m.b.recs.length m.cap)) := by show BoxAt _ _ _ _ _ _ _ _ _; rw [hW1, hK]; exact boxAt_new wo _ _ _ _ _ _ _
    have HT1 := Lib.hid (HT.out.keep hb1)
    have HO1 := Lib.hid (HO.out.on hb1)
    have HB1 := Lib.hid (HB.out.trans (hb1.mono HB.out.size))
    have HRC1 := Lib.hid (HRC.out.keep hb1)
    rw [← hW1, ← hK]
    clear hW1 hb1 hK c0 c1 c2 c3 c4 c5 c6
    have p0 := HX1.out.c0
    have p1 := HX1.out.c1
    have p2 := HX1.out.c2
    have p3 := HX1.out.c3
    have p4 := HX1.out.c4
    have p5 := HX1.out.c5
    have p6 := HX1.out.c6
    obtain ⟨l', hl'⟩ : ∃ l', tapplyD (pds ps) m.b = l' := ⟨_, rfl⟩
    obtain ⟨dr, hdr⟩ : ∃ dr, tdropD (pds ps) m.b = dr := ⟨_, rfl⟩
    have CA := tabApply_any W1 w.heap.size tad tlen tcap ps HT1.out hpl m.b m.ad m.b.recs.length m.cap HRC1.out HK1.out hk3 hk2 HFEW.out
    rw [hl', hdr] at CA
    have CAH := Lib.hid CA
    have HP2 : Hid (l' = foldP [] (bs.take (j + 1))) := by show _ = _; rw [HTK.out, foldP_snoc, ← HPS.out, hl']
    have HR2 : Hid (foldR [] (bs.take (j + 1)) = foldR [] (bs.take j) ++ dr.toList) := by show _ = _; rw [HTK.out, foldR_snoc, ← HPS.out, hdr]
    have hrl : (foldR [] (bs.take j)).length ≤ j := by have := foldR_len [] (bs.take j); rw [List.length_take] at this; omega
    obtain ⟨lr, hlr⟩ : ∃ lr, foldR [] (bs.take j) = lr := ⟨_, rfl⟩
    rw [hlr] at hrl HO1 HR2
    clear CA hl' hdr hlr HPS HTK HFEW HK1
    go_wp2_with fail
    refine CAH.out.mono ?_
    rintro e w2 ⟨d, tad2, tlen2, tcap2, ps2, rfl, hdd, ht2, hp2, hg2, hfa2, hfi2⟩
    have HSP2 : Hid (Sep u tad2 ps2) := by
     intro k hk
     have hkl := (HO1.out.lt k hk).2
     refine ⟨fun a ha => ?_, fun m hm a ha => ?_⟩
     · rcases hfa2 a ha with h1 | h1
       · exact (HSP.out k hk).1 a h1
       · omega
     · rcases hfi2 m hm with h1 | h1
       · exact (HSP.out k hk).2 m h1 a ha
       · have := h1 a ha; omega
    have HT2 := Lib.hid ht2
    have HP3 : Hid (pds ps2 = foldP [] (bs.take (j + 1))) := by show _ = _; rw [hp2, HP2.out]
    have HO2 := Lib.hid (HO1.out.grown hg2 (fun k hk e => by have := (HO1.out.lt k hk).1; cases e; omega))
    have HB2 : Hid (Below w.heap.size w w2) := HB1.out.trans (below_grown hg2 (Nat.le_refl _) HB1.out.size)
    have HDD := Lib.hid hdd
    clear ht2 hp2 hg2 hfa2 hfi2 HSP CAH p0 p1 p2 p3 p4 p5 p6 HT1 HO1 HX1 HP2 hdd
    go_upto_region 7 with fail
    obtain ⟨W3, hW3⟩ : ∃ W3, W3 = w2.alloc (.cells #[.int .i64 d.prod, .int .i64 d.first, .int .i64 d.last] 29) := ⟨_, rfl⟩
    have hb3 : Below w2.heap.size w2 W3 := by rw [hW3]; exact (Below.refl _ _).alloc (Nat.le_refl _) _
    obtain ⟨Q, hQ⟩ : ∃ Q, Q = w2.heap.size := ⟨_, rfl⟩
    have HD3 : Hid (DBox W3 Q d) := by show DBox _ _ _; rw [hW3, hQ]; exact dbox_new w2 d
    have HT3 := Lib.hid (HT2.out.keep hb3)
    have HO3 := Lib.hid (HO2.out.on hb3)
    have HB3 := Lib.hid (HB2.out.trans (hb3.mono HB2.out.size))
    rw [← hW3, ← hQ]
    clear hW3 hb3 hQ HT2 HO2 HB2
    have d0 := HD3.out.c0
    have d1 := HD3.out.c1
    have d2 := HD3.out.c2
    cases dr with
    | none =>
      have HR4 : Hid (foldR [] (bs.take (j + 1)) = lr) := by show _ = _; rw [HR2.out]; simp
      simp only [Option.isSome_none]
      go_wp2
      go_roundw
      case rel => exact ⟨j + 1, by go_num, by omega, _, tad2, tlen2, tcap2, ps2, rfl, HT3.out, HP3.out, by rw [HR4.out]; exact HO3.out, HB3.out, HSP2.out⟩
      case measure => simp [intOf]; omega
    | some x =>
      have hxd : x = d := HDD.out
      subst hxd
      have HR4 : Hid (foldR [] (bs.take (j + 1)) = lr ++ [x]) := by show _ = _; rw [HR2.out]; rfl
      simp only [Option.isSome_some]
      have HBA : Hid (Below w.heap.size w (W3.alloc (.cells #[.int .i64 x.prod, .int .i64 x.first, .int .i64 x.last] 29))) := HB3.out.alloc HB3.out.size _
      have HRX : Hid (RowAt drK (W3.alloc (.cells #[.int .i64 x.prod, .int .i64 x.first, .int .i64 x.last] 29)) (some ⟨W3.heap.size, 0, none⟩) 1 1 [x]) := rowAt_lit drK_ok W3 [x] (by simp) _ rfl 1 rfl
      have hwl : w.heap.size + 1 ≤ W3.heap.size := HT3.out.tab.box.lt
      go_wp2_with (at_builtin; refine list_row (by rfl) drK_ok (.tmp 25) (.tmp 27) rfl (w.heap.size + 1) lr [x] _ rfl (HO3.out.alloc _) (by simp; omega) (some ⟨W3.heap.size, 0, none⟩) 1 1 rfl HRX.out (by omega) ?_)
      intro v4 w4 hap
      have HO4 := Lib.hid hap.1
      have hg34 : W3.grownBy w4 u.ownBlock := grow_trans (World.grownBy_alloc W3 _ _) hap.2.1
      have hub : ∀ k, u.ownBlock = some k → w.heap.size < k := fun k hk => by have := (HO3.out.lt k hk).1; omega
      have HB4 : Hid (Below w.heap.size w w4) := HBA.out.grown hap.2.1 HBA.out.size fun k hk => Nat.le_of_lt (hub k hk)
      have HT4 : Hid (TabOk w4 w.heap.size tad2 tlen2 tcap2 ps2) := HT3.out.grown hg34 HSP2.out (fun k hk => by have := hub k hk; omega)
      have HSP4 : Hid (Sep v4 tad2 ps2) := by
       intro k hk
       rcases hap.2.2.2 k hk with h1 | h1
       · exact HSP2.out k h1
       · have h1 : W3.heap.size + 1 ≤ k := by simpa using h1
         exact ⟨fun a ha => by have := (HT3.out.row a ha).2; omega, fun m hm a ha => by have := (HT3.out.ins m hm a ha).2; omega⟩
      clear hap hg34 hub HBA HRX HT3 HO3 HB3
      go_wp2
      go_roundw
      case rel => exact ⟨j + 1, by go_num, by omega, _, tad2, tlen2, tcap2, ps2, rfl, HT4.out, HP3.out, by rw [HR4.out]; exact HO4.out, HB4.out, HSP4.out⟩
      case measure => simp [intOf]; omega
  · have hd : decide (j < len) = false := decide_eq_false hlt
    have htk : bs.take j = bs := List.take_of_length_le (by omega)
    have HPE : Hid (pds ps = foldP [] bs) := by show _ = _; rw [HPS.out, htk]
    have HOE : Hid (OwnRow drK wo (w.heap.size + 1) u (foldR [] bs)) := by have := HO.out; rw [htk] at this; exact this
    clear HPS HO htk
    obtain ⟨dd, dc, hv, hr, _⟩ := HOE.out.at drK_ok
    subst hv
    go_wp2
    go_ret2
    exact ⟨w.heap.size, tad, tlen, tcap, ps, dd, _, dc, rfl, HT.out, HPE.out, hr, Nat.le_refl _, HB.out⟩
end Go.Proofs.Ytbejincejbnbaaa
namespace Go.Proofs.Ytbejincejbnbaaa
open Go.RowKit
open Go.SnapMath
open Go.ProdMath
open Go.BatMath hiding AllB getD_lt take_all
set_option linter.unusedVariables false

/-- Unseal in one piece. -/
def GivesUns (w : World) (bs : List Nat) (e : Ending) (w' : World) : Prop := ∃ ad len cap, e = .returned (.tuple #[.slice ad len cap, .bool (!(openS bs).2)]) ∧ Byt w' ad len cap (openS bs).1 ∧ Below w.heap.size w w'
theorem unsealR_any (w : World) (ad : Option Addr) (len cap : Nat) (bs : List Nat) (h : Byt w ad len cap bs) (hL : len ≤ 140737488355300) :
 Calls Try.prog 33 #[.slice ad len cap] w (GivesUns w bs) := by
 refine (refUnseal_any w ad len cap bs h hL).mono ?_
 rintro e w' (⟨hk, rfl, hb⟩ | ⟨hk, g, c, rfl, hy, hb⟩)
 · have ho : openS bs = ([], true) := by unfold openS; rw [hk]; rfl
   unfold GivesUns
   rw [ho]
   exact ⟨none, 0, 0, rfl, Byt.nil _, hb⟩
 · have ho : openS bs = (bs.drop 4, false) := by unfold openS; rw [hk]; rfl
   unfold GivesUns
   rw [ho]
   exact ⟨_, _, c, rfl, hy, hb⟩
/-- The producers read so far: the call's own row, each with its batches in a row of its own. -/
structure AccAt (w : World) (base : Nat) (v : Value) (ms : List PM) : Prop where
 own : OwnRow pdK w base v ms
 ins : LastsAt w ms
 sep : ∀ m ∈ ms, ∀ a, m.ad = some a → base ≤ a.block ∧ a.block < w.heap.size ∧ v.ownBlock ≠ some a.block
theorem AccAt.nil (w : World) (base : Nat) : AccAt w base (.slice none 0 0) [] := ⟨ownRow_nil pdK w base, fun m h => (by cases h), fun m h => (by cases h)⟩
/-- The row itself, as it reads. -/
theorem AccAt.row {w : World} {base n cap : Nat} {ad : Option Addr} {ms : List PM} (h : AccAt w base (.slice ad n cap) ms) : PdsAt w ad n cap ms ∧ ms.length = n := by
 obtain ⟨ad2, cap2, e, hr, _⟩ := OwnRow.row pdK_ok h.own (n := ms.length) rfl
 injection e with e1 e2 e3
 subst e1 e2 e3
 exact ⟨⟨hr, h.ins⟩, rfl⟩
theorem AccAt.grown {w w' : World} {base k : Nat} {v : Value} {ms : List PM} (h : AccAt w base v ms) (hg : w.grownBy w' (some k)) (hk : k < base) : AccAt w' base v ms := by
 refine ⟨h.own.grown hg fun j hj e => ?_, h.ins.grown hg fun m hm a ha e => ?_, fun m hm a ha => ?_⟩
 · have := (h.own.lt j hj).1
   cases e
   omega
 · have := (h.sep m hm a ha).1
   omega
 · obtain ⟨h1, h2, h3⟩ := h.sep m hm a ha
   exact ⟨h1, Nat.lt_of_lt_of_le h2 hg.size, h3⟩
theorem AccAt.on {w w' : World} {base : Nat} {v : Value} {ms : List PM} (h : AccAt w base v ms) (hb : Below w.heap.size w w') : AccAt w' base v ms :=
 ⟨h.own.on hb, h.ins.keep hb, fun m hm a ha => by obtain ⟨h1, h2, h3⟩ := h.sep m hm a ha; exact ⟨h1, Nat.lt_of_lt_of_le h2 hb.size, h3⟩⟩
/-- One more behind them. -/
theorem AccAt.snoc {w w' : World} {base : Nat} {v v' : Value} {ms : List PM} {m : PM} (h : AccAt w base v ms) (hm : LastAt w m) (ha : ∀ a, m.ad = some a → base ≤ a.block ∧ a.block < w.heap.size ∧ v.ownBlock ≠ some a.block) (hap : Appended pdK w base v (ms ++ [m]) v' w') : AccAt w' base v' (ms ++ [m]) := by
 have hall : ∀ q ∈ ms ++ [m], LastAt w q ∧ ∀ a, q.ad = some a → base ≤ a.block ∧ a.block < w.heap.size ∧ v.ownBlock ≠ some a.block := fun q hq => by
  rcases List.mem_append.1 hq with hq | hq
  · exact ⟨h.ins q hq, h.sep q hq⟩
  · rw [List.mem_singleton] at hq
    rw [hq]
    exact ⟨hm, ha⟩
 refine ⟨hap.1, fun q hq => (hall q hq).1.grown hap.2.1 fun a hqa e => ((hall q hq).2 a hqa).2.2 e.symm, fun q hq a hqa => ?_⟩
 obtain ⟨h1, h2, h3⟩ := (hall q hq).2 a hqa
 refine ⟨h1, Nat.lt_of_lt_of_le h2 hap.2.1.size, fun e => ?_⟩
 rcases hap.2.2.2 _ e with h4 | h4
 · exact h3 h4
 · omega
end Go.Proofs.Ytbejincejbnbaaa
namespace Go.Proofs.Ytbejincejbnbaaa
open Go.RowKit
open Go.AbMath
open Go.ProdMath
open Go.SnapMath (rdN rdN_len rdN_in openS in_nat)
open Go.BatMath hiding AllB getD_lt take_all
set_option linter.unusedVariables false

/-- What the code's Read is to do; R says what a list holds. -/
def AbReadDoes (R : World → Addr → List Dr → Prop) (w : World) (bs : List Nat) (e : Ending) (w' : World) : Prop :=
 Below w.heap.size w w' ∧ ((∃ a l, e = .returned (.tuple #[.pointer (some a), .int .i64 0]) ∧ R w' a l ∧ IsAb bs l) ∨ (e = .returned (.tuple #[.pointer none, .int .i64 12]) ∧ ∀ l, ¬ IsAb bs l))
set_option maxRecDepth 100000 in
set_option maxHeartbeats 8000000 in
theorem abReads_any (R : World → Addr → List Dr → Prop) (hR : ∀ W W' a l, R W a l → Below W.heap.size W W' → R W' a l)
 (hA : ∀ W a l, R W a l → DrsOk l → l.length ≤ 1000000 → Calls Try.prog 19 #[.pointer (some a)] W (GivesDrs W l))
 (w : World) (ad : Option Addr) (len cap : Nat) (bs : List Nat) (h : Byt w ad len cap bs) (hL : bs.length ≤ 1048600)
 (hD : Calls Try.prog 21 #[.slice ad len cap] w (AbReadDoes R w bs)) :
 Calls Try.prog 13 #[.slice ad len cap] w (GivesBool w true) := by
 have H := Lib.hid h
 have HKR := Lib.hid hR
 have HKA := Lib.hid hA
 have HRD0 := Lib.hid hD
 have hlen := h.length
 have hLl : len ≤ 140737488355300 := by omega
 have HSL : Hid ((openS bs).1.length ≤ 1048600) := by
  show _ ≤ _
  unfold openS
  split
  · rw [List.length_drop]; omega
  · exact Nat.zero_le _
 obtain ⟨⟨n0, b1, f1⟩, hn0⟩ : ∃ r, rdN (openS bs).1 (openS bs).2 = r := ⟨_, rfl⟩
 obtain ⟨TOT, hT⟩ : ∃ t, rdDs n0.toNat [] b1 f1 = t := ⟨_, rfl⟩
 have hall : rdAb bs = TOT := by unfold rdAb; rw [hn0]; exact hT
 have hl1 := rdN_len (openS bs).1 (openS bs).2
 have hi0 := rdN_in (openS bs).1 (openS bs).2
 rw [hn0] at hl1 hi0
 simp only at hl1 hi0
 have HL1 : Hid (b1.length ≤ 1048600) := Nat.le_trans hl1.1 HSL.out
 have HALL := Lib.hid hall
 have HTT := Lib.hid hT
 have HN0 := Lib.hid hn0
 have HBL : Hid (bs.length ≤ 1048600) := hL
 clear h hlen hL hn0 hall hT hl1 hR hA hD
 go_enter Try.func13, Try.ntmps13
 go_wp2_with fail
 refine HRD0.out.mono ?_
 rintro e w1 ⟨hb1, hdo⟩
 have HB1 := Lib.hid hb1
 have HRES : Hid (∃ r c, e = .returned (.tuple #[.pointer r, .int .i64 c]) ∧ ((∃ a l, r = some a ∧ c = 0 ∧ R w1 a l ∧ IsAb bs l) ∨ (r = none ∧ c = 12 ∧ ∀ l, ¬ IsAb bs l))) := by
  rcases hdo with ⟨a, l, he, h1, h2⟩ | ⟨he, h1⟩
  · exact ⟨some a, 0, he, .inl ⟨a, l, rfl, rfl, h1, h2⟩⟩
  · exact ⟨none, 12, he, .inr ⟨rfl, rfl, h1⟩⟩
 obtain ⟨rp, rc, rfl, hcs⟩ := HRES.out
 have HCS := Lib.hid hcs
 clear hb1 hdo HRES HRD0 hcs
 go_wp2_with fail
 refine (unsealR_any w1 ad len cap bs (H.out.keep HB1.out (Nat.le_refl _)) hLl).mono ?_
 rintro e w2 ⟨ad1, len1, cap1, rfl, hy1, hb2⟩
 have HY1 := Lib.hid hy1
 have HB12 := Lib.hid hb2
 have HB2 := Lib.hid (HB1.out.trans (hb2.mono HB1.out.size))
 clear hy1 hb2 HB1
 go_upto_region 4 with fail
 obtain ⟨W1, hW1⟩ : ∃ z, z = w2.alloc (.cells #[.slice ad1 len1 cap1, .bool (openS bs).2] 81) := ⟨_, rfl⟩
 obtain ⟨k, hk⟩ : ∃ k, k = w2.heap.size := ⟨_, rfl⟩
 have HRD : Hid (RdAt w2 W1 k (openS bs).1 (openS bs).2) := by
  show RdAt _ _ _ _ _
  rw [hW1, hk]
  exact ⟨Nat.le_refl _, (Below.refl _ _).alloc (Nat.le_refl _) _, _, _, _, rbox_new w2 _ _, HY1.out⟩
 have HB3 : Hid (Below w2.heap.size w2 W1) := by show Below _ _ _; rw [hW1]; exact (Below.refl _ _).alloc (Nat.le_refl _) _
 have HWK : Hid (w2.heap.size ≤ k) := by show _ ≤ _; rw [hk]; exact Nat.le_refl _
 (try rw [← hW1, ← hk])
 clear hW1 hk HY1
 go_upto_region 6 with fail
 obtain ⟨W2, hW2⟩ : ∃ z, z = W1.alloc (.cells #[.slice none 0 0, .int .i64 (-1)] 36) := ⟨_, rfl⟩
 obtain ⟨kl, hkl⟩ : ∃ k, k = W1.heap.size := ⟨_, rfl⟩
 have hb4 : Below W1.heap.size W1 W2 := by rw [hW2]; exact (Below.refl _ _).alloc (Nat.le_refl _) _
 have HLA : Hid (LAt (kl + 1) W2 kl [] (-1)) := by
  show LAt _ _ _ _ _
  rw [hW2, hkl]
  exact ⟨none, 0, 0, lbox_new W1 _ _, rowAt_nil _, fun a ha => by cases ha⟩
 have HKL : Hid (k < kl) := by show _ < _; rw [hkl]; exact HRD.out.lt
 have HSZ2 : Hid (kl + 1 ≤ W2.heap.size) := HLA.out.lt
 have HRD2 := Lib.hid (HRD.out.on hb4)
 have HB4 := Lib.hid (HB3.out.trans (hb4.mono HB3.out.size))
 (try rw [← hW2, ← hkl])
 clear hW2 hkl hb4 HRD HB3
 go_wp2_with fail
 refine (num_any w2 W2 k _ _ HRD2.out (Nat.le_trans HSL.out (by omega))).mono ?_
 rintro e W3 ⟨rfl, hr, hg⟩
 rw [HN0.out] at hr ⊢
 have HRD3 := Lib.hid hr
 have HLA3 := Lib.hid (HLA.out.grown hg (Nat.lt_succ_of_lt HKL.out) (Nat.ne_of_lt HKL.out))
 have HB5 := Lib.hid (HB4.out.trans (below_grown hg HWK.out HB4.out.size))
 have HSZ3 : Hid (kl + 1 ≤ W3.heap.size) := Nat.le_trans HSZ2.out hg.size
 clear hr hg HRD2 HLA HB4 HSL HSZ2
 go_wp2
 go_loopw [9, 10] (fun v9 v10 wr => ∃ (z : Int) (b : List Nat) (f good : Bool) (l : List Dr), v9 = .bool good ∧ v10 = .int .i64 z ∧ In64 z ∧ Hid (LAt (kl + 1) wr kl l (lastD l)) ∧ Hid (RdAt w2 wr k b f) ∧ Hid (DrsOk l ∧ ∀ d ∈ l, In64 d.prod) ∧ Hid ((if good = true then rdDs z.toNat l b f else (l, b, f, false)) = TOT) ∧ Hid (3 * l.length + b.length ≤ 1048600 + (if f then 3 else 0)) ∧ Hid (kl + 1 ≤ wr.heap.size) ∧ Hid (Below w2.heap.size w2 wr)) (fun _ v10 _ => (intOf v10).toNat)
 case atStart => exact ⟨n0, b1, f1, true, [], rfl, rfl, hi0, HLA3.out, HRD3.out, ⟨DrsOk.nil, fun d hd => by cases hd⟩, HTT.out, (by show 3 * 0 + b1.length ≤ _; have := HL1.out; omega), HSZ3.out, HB5.out⟩
 case round =>
  obtain ⟨z, b, f, good, l, rfl, rfl, hz, HLA, HRD, HOK, HTO, HLEN, HSZ, HB⟩ := hrel
  clear HRD3 HLA3 HB5 HL1 HTT HSZ3
  obtain ⟨wo, hwo⟩ : ∃ wo : World, wo = wr := ⟨_, rfl⟩
  subst hwo
  have q1 := HRD.out.c1
  by_cases hgo : 0 < z ∧ f = false ∧ good = true
  · obtain ⟨hz0, rfl, rfl⟩ := hgo
    have hd : decide (0 < z) = true := decide_eq_true hz0
    obtain ⟨⟨x0, c1, g1⟩, e1⟩ : ∃ r, rdN b false = r := ⟨_, rfl⟩
    obtain ⟨⟨x1, c2, g2⟩, e2⟩ : ∃ r, rdN c1 g1 = r := ⟨_, rfl⟩
    obtain ⟨⟨x2, c3, g3⟩, e3⟩ : ∃ r, rdN c2 g2 = r := ⟨_, rfl⟩
    have hdr := rdDr_of e1 e2 e3
    have hL0 : b.length ≤ 1048600 := by
     have h1 : 3 * l.length + b.length ≤ 1048600 + 0 := HLEN.out
     omega
    have hll : l.length ≤ 1000000 := by
     have h1 : 3 * l.length + b.length ≤ 1048600 + 0 := HLEN.out
     omega
    have a1 := (rdN_len b false).1
    have a2 := (rdN_len c1 g1).1
    have i0 := rdN_in b false
    rw [e1] at a1 i0
    rw [e2] at a2
    simp only at a1 a2 i0
    have hleft := rdDr_len b false
    rw [hdr] at hleft
    have HLEFT : Hid (c3.length ≤ b.length ∧ (g3 = false → false = false ∧ c3.length + 3 ≤ b.length)) := hleft
    have HE1 := Lib.hid e1
    have HE2 := Lib.hid e2
    have HE3 := Lib.hid e3
    have HDR := Lib.hid hdr
    have HI0 := Lib.hid i0
    have HLL : Hid (l.length ≤ 1000000) := hll
    have HK0 : Hid (b.length ≤ 140737488355328) := by show _ ≤ _; omega
    have HK1 : Hid (c1.length ≤ 140737488355328) := by show _ ≤ _; omega
    have HK2 : Hid (c2.length ≤ 140737488355328) := by show _ ≤ _; omega
    obtain ⟨m, hm⟩ : ∃ m, z.toNat = m + 1 := ⟨z.toNat - 1, by omega⟩
    have hto := HTO.out
    rw [if_pos rfl, hm] at hto
    have HTM := Lib.hid hto
    have HM := Lib.hid hm
    clear e1 e2 e3 hdr hL0 hll a1 a2 i0 hleft hm hto HTO
    go_wp2_with fail
    refine (num_any w2 wo k _ _ HRD.out HK0.out).mono ?_
    rintro e wa ⟨rfl, hr, hg⟩
    rw [HE1.out] at hr ⊢
    have HRa := Lib.hid hr
    have HLa := Lib.hid (HLA.out.grown hg (Nat.lt_succ_of_lt HKL.out) (Nat.ne_of_lt HKL.out))
    have HBa := Lib.hid (HB.out.trans (below_grown hg HWK.out HB.out.size))
    have HSa : Hid (kl + 1 ≤ wa.heap.size) := Nat.le_trans HSZ.out hg.size
    clear hr hg HRD HLA HB HSZ q1
    go_wp2_with fail
    refine (num_any w2 wa k _ _ HRa.out HK1.out).mono ?_
    rintro e wb ⟨rfl, hr, hg⟩
    rw [HE2.out] at hr ⊢
    have HRb := Lib.hid hr
    have HLb := Lib.hid (HLa.out.grown hg (Nat.lt_succ_of_lt HKL.out) (Nat.ne_of_lt HKL.out))
    have HBb := Lib.hid (HBa.out.trans (below_grown hg HWK.out HBa.out.size))
    have HSb : Hid (kl + 1 ≤ wb.heap.size) := Nat.le_trans HSa.out hg.size
    clear hr hg HRa HLa HBa HSa
    go_wp2_with fail
    refine (num_any w2 wb k _ _ HRb.out HK2.out).mono ?_
    rintro e wc ⟨rfl, hr, hg⟩
    rw [HE3.out] at hr ⊢
    have HRc := Lib.hid hr
    have HLc := Lib.hid (HLb.out.grown hg (Nat.lt_succ_of_lt HKL.out) (Nat.ne_of_lt HKL.out))
    have HBc := Lib.hid (HBb.out.trans (below_grown hg HWK.out HBb.out.size))
    have HSc : Hid (kl + 1 ≤ wc.heap.size) := Nat.le_trans HSb.out hg.size
    clear hr hg HRb HLb HBb HSb
    go_wp2_with fail
    refine (lAdd_any (kl + 1) wc kl l (lastD l) ⟨x0, x1, x2⟩ HLc.out HLL.out HSc.out).mono ?_
    rintro e wd ⟨rfl, hla, hg⟩
    have HRd : Hid (RdAt w2 wd k c3 g3) := HRc.out.grown hg (fun j hj => by cases hj; exact HKL.out)
    have HBd : Hid (Below w2.heap.size w2 wd) := HBc.out.trans (below_grown hg (Nat.le_trans HWK.out (Nat.le_of_lt HKL.out)) HBc.out.size)
    have HSd : Hid (kl + 1 ≤ wd.heap.size) := Nat.le_trans HSc.out hg.size
    obtain ⟨hz1, hz2⟩ := hz
    have hwz : wrap64 (z - 1) = z - 1 := by unfold wrap64; omega
    have hwt : (z - 1).toNat = m := by have := HM.out; omega
    have HWT := Lib.hid hwt
    by_cases hok : okD (lastD l) ⟨x0, x1, x2⟩
    · rw [if_pos hok, if_pos hok] at hla
      have HLd : Hid (LAt (kl + 1) wd kl (l ++ [⟨x0, x1, x2⟩]) (lastD (l ++ [⟨x0, x1, x2⟩]))) := by show LAt _ _ _ _ _; rw [lastD_snoc]; exact hla
      have HTN : Hid ((if true = true then rdDs (z - 1).toNat (l ++ [⟨x0, x1, x2⟩]) c3 g3 else (l ++ [⟨x0, x1, x2⟩], c3, g3, false)) = TOT) := by
       show _ = _
       rw [if_pos rfl, HWT.out, ← HTM.out, rdDs_yes HDR.out hok]
      have HOKN : Hid (DrsOk (l ++ [⟨x0, x1, x2⟩]) ∧ ∀ d ∈ l ++ [(⟨x0, x1, x2⟩ : Dr)], In64 d.prod) := ⟨HOK.out.1.snoc hok, fun d hd => by
       rcases List.mem_append.1 hd with hd | hd
       · exact HOK.out.2 d hd
       · rw [List.mem_singleton.1 hd]; exact HI0.out⟩
      have HLN : Hid (3 * (l ++ [(⟨x0, x1, x2⟩ : Dr)]).length + c3.length ≤ 1048600 + (if g3 then 3 else 0)) := by
       show _ ≤ _
       have h1 : 3 * l.length + b.length ≤ 1048600 + 0 := HLEN.out
       have h2 := HLEFT.out
       rw [List.length_append, List.length_singleton]
       cases g3
       · have := (h2.2 rfl).2
         show _ ≤ 1048600 + 0
         omega
       · show _ ≤ 1048600 + 3
         omega
      have hdk : decide (okD (lastD l) ⟨x0, x1, x2⟩) = true := decide_eq_true hok
      rw [hdk]
      clear hla hg hok HLc HRc HBc HSc hwt HLEN HLEFT HTM HOK hdk
      go_wp2
      go_roundw
      case rel => exact ⟨z - 1, c3, g3, true, _, rfl, by first | rfl | rw [hwz], ⟨by omega, by omega⟩, HLd.out, HRd.out, HOKN.out, HTN.out, HLN.out, HSd.out, HBd.out⟩
      case measure => simp [intOf]; first | omega | (rw [hwz]; omega)
    · rw [if_neg hok, if_neg hok] at hla
      have HLd := Lib.hid hla
      have HTN : Hid ((if false = true then rdDs (z - 1).toNat l c3 g3 else (l, c3, g3, false)) = TOT) := by
       show _ = _
       rw [if_neg (by decide), ← HTM.out, rdDs_no HDR.out hok]
      have HLN : Hid (3 * l.length + c3.length ≤ 1048600 + (if g3 then 3 else 0)) := by
       show _ ≤ _
       have h1 : 3 * l.length + b.length ≤ 1048600 + 0 := HLEN.out
       have h2 := HLEFT.out.1
       cases g3
       · show _ ≤ 1048600 + 0
         omega
       · show _ ≤ 1048600 + 3
         omega
      have hdk : decide (okD (lastD l) ⟨x0, x1, x2⟩) = false := decide_eq_false hok
      rw [hdk]
      clear hla hg hok HLc HRc HBc HSc hwt HLEN HLEFT HTM hdk
      go_wp2
      go_roundw
      case rel => exact ⟨z - 1, c3, g3, false, _, rfl, by first | rfl | rw [hwz], ⟨by omega, by omega⟩, HLd.out, HRd.out, HOK.out, HTN.out, HLN.out, HSd.out, HBd.out⟩
      case measure => simp [intOf]; first | omega | (rw [hwz]; omega)
  · have HTF : Hid (TOT = (l, b, f, good)) := by
     show _ = _
     rw [← HTO.out]
     cases good with
     | false => rfl
     | true =>
       rw [if_pos rfl]
       cases f with
       | true => exact rdDs_fell _ _ _
       | false =>
         have h0 : z.toNat = 0 := by
          rcases Int.lt_or_le 0 z with h | h
          · exact absurd ⟨h, rfl, rfl⟩ hgo
          · omega
         rw [h0]
         rfl
    have hex : decide (0 < z) = false ∨ (decide (0 < z) = true ∧ f = true) ∨ (decide (0 < z) = true ∧ f = false ∧ good = false) := by
     rcases Int.lt_or_le 0 z with h | h
     · cases f
       · cases good
         · exact .inr (.inr ⟨decide_eq_true h, rfl, rfl⟩)
         · exact absurd ⟨h, rfl, rfl⟩ hgo
       · exact .inr (.inl ⟨decide_eq_true h, rfl⟩)
     · exact .inl (decide_eq_false (by omega))
    have HAF : Hid (rdAb bs = (l, b, f, good)) := by show _ = _; rw [HALL.out]; exact HTF.out
    have HBE := Lib.hid (HB2.out.trans (HB.out.mono HB2.out.size))
    have hll : l.length ≤ 1000000 := by
     have h1 := HLEN.out
     revert h1
     cases f
     · intro h1
       have h1 : 3 * l.length + b.length ≤ 1048600 + 0 := h1
       omega
     · intro h1
       have h1 : 3 * l.length + b.length ≤ 1048600 + 3 := h1
       omega
    have HLL : Hid (l.length ≤ 1000000) := hll
    have HDI : Hid (∀ d ∈ l, DrIn d) := HOK.out.1.isIn HOK.out.2
    obtain ⟨s2, hs2⟩ : ∃ s2, s2 = str bs := ⟨_, rfl⟩
    have KS : Hid (∀ V, Below wo.heap.size wo V → (fun (V : World) => (convert 38 9 (.slice ad len cap)).run Try.prog V = .ok (.string s2) V) V) := fun V hV => run_str_at (H.out.keep (HBE.out.trans (hV.mono HBE.out.size)) (Nat.le_refl _)) hs2
    have HS2 := Lib.hid hs2
    have hdrw : Below wo.heap.size wo wo.drew := (Below.refl _ wo).drew
    clear hgo HTO HTF HLEN hs2 hll hz
    rcases hex with hd | ⟨hd, rfl⟩ | ⟨hd, rfl, rfl⟩
    · cases good with
      | false =>
        have HNO : Hid (∀ m, ¬ IsAb bs m) := ab_no HAF.out HBL.out (fun h => by have h1 := h.1; cases h1)
        have hnone : rp = none ∧ rc = 12 := by
         rcases HCS.out with ⟨a, l', e1, e2, h1, h2⟩ | ⟨e1, e2, _⟩
         · exact absurd h2 (HNO.out _)
         · exact ⟨e1, e2⟩
        obtain ⟨rfl, rfl⟩ := hnone
        go_upto_region 10 with fail
        clear q1
        refine wp_region_noPanic ?_
        refine wp_region_z [] (fun (V : World) => (convert 38 9 (.slice ad len cap)).run Try.prog V = .ok (.string s2) V) (by kernel_rfl) ?_
        have hHeld := KS.out _ hdrw
        obtain ⟨uf_0, hu⟩ : ∃ u, u = wo.drew := ⟨_, rfl⟩
        rw [← hu] at hHeld hdrw
        rw [← hu]
        clear hu
        have HU := Lib.hid hdrw
        clear hdrw
        refine zt 0 ?_
        refine zt 1 ?_
        refine zt 2 ?_
        refine zt 3 ?_
        refine zt 4 ?_
        refine zt 5 ?_
        refine zt 6 ?_
        refine zt 7 ?_
        refine zt 8 ?_
        refine zt 9 ?_
        refine zt 10 ?_
        refine zt 11 ?_
        refine zt 12 ?_
        refine zt 13 ?_
        refine zt 14 ?_
        refine wpAnyZ_done (by kernel_rfl) ?_ _
        refine NoPanic.normal ?_
        clear hHeld
        have HB7 := Lib.hid (HBE.out.trans (HU.out.mono HBE.out.size))
        clear HU KS
        go_wp2
        go_ret
        exact ⟨rfl, HB7.out⟩
      | true =>
        obtain ⟨q, hq⟩ : ∃ q, (!f && b.isEmpty) = q := ⟨_, rfl⟩
        have HQ := Lib.hid hq
        clear hq
        cases q with
        | false =>
          have HNO : Hid (∀ m, ¬ IsAb bs m) := ab_no HAF.out HBL.out (fun h => by
           have h1 := HQ.out
           rw [h.2.1, h.2.2.1] at h1
           cases h1)
          have hnone : rp = none ∧ rc = 12 := by
           rcases HCS.out with ⟨a, l', e1, e2, h1, h2⟩ | ⟨e1, e2, _⟩
           · exact absurd h2 (HNO.out _)
           · exact ⟨e1, e2⟩
          obtain ⟨rfl, rfl⟩ := hnone
          go_upto_region 10 with fail
          clear q1
          refine wp_region_noPanic ?_
          refine wp_region_z [] (fun (V : World) => (convert 38 9 (.slice ad len cap)).run Try.prog V = .ok (.string s2) V) (by kernel_rfl) ?_
          have hHeld := KS.out _ hdrw
          obtain ⟨uf_0, hu⟩ : ∃ u, u = wo.drew := ⟨_, rfl⟩
          rw [← hu] at hHeld hdrw
          rw [← hu]
          clear hu
          have HU := Lib.hid hdrw
          clear hdrw
          refine zt 0 ?_
          refine zt 1 ?_
          refine zt 2 ?_
          refine zt 3 ?_
          refine zr 4 (fun C hC => ?_)
          go_simp
          refine (done_any w2 uf_0 k b f (HRD.out.on HU.out)).mono ?_
          rintro e uf_1 ⟨rfl, hb⟩
          rw [HQ.out]
          replace HU := Lib.hid (HU.out.trans (hb.mono HU.out.size))
          clear hb
          have hHeld := KS.out _ HU.out
          refine zc hC hHeld ?_
          clear hC C
          refine zt 5 ?_
          refine zt 6 ?_
          refine zt 7 ?_
          refine zt 8 ?_
          refine zt 9 ?_
          refine zt 10 ?_
          refine zt 11 ?_
          refine zt 12 ?_
          refine zt 13 ?_
          refine zt 14 ?_
          refine wpAnyZ_done (by kernel_rfl) ?_ _
          refine NoPanic.normal ?_
          clear hHeld
          have HB7 := Lib.hid (HBE.out.trans (HU.out.mono HBE.out.size))
          clear HU KS
          go_wp2
          go_ret
          exact ⟨rfl, HB7.out⟩
        | true =>
          obtain ⟨s1, hs1⟩ : ∃ s1, s1 = str (bytesA l) := ⟨_, rfl⟩
          have HS1 := Lib.hid hs1
          clear hs1
          by_cases heq : bytesA l = bs
          · skip
            have hse : (s1.toList == s2.toList) = true := by rw [HS1.out, HS2.out, heq]; exact str_same _
            have HYES : Hid (IsAb bs l) := ab_yes HAF.out heq
            have hsome : ∃ a, rp = some a ∧ rc = 0 ∧ R w1 a l := by
             rcases HCS.out with ⟨a, l', e1, e2, h1, h2⟩ | ⟨e1, e2, h1⟩
             · have hone := IsAb.one h2 HYES.out HBL.out
               subst hone
               exact ⟨a, e1, e2, h1⟩
             · exact absurd HYES.out (h1 l)
            obtain ⟨a, rfl, rfl, hra⟩ := hsome
            have HRA := Lib.hid hra
            clear heq hra
            go_upto_region 10 with fail
            clear q1
            refine wp_region_noPanic ?_
            refine wp_region_z [] (fun (V : World) => (convert 38 9 (.slice ad len cap)).run Try.prog V = .ok (.string s2) V) (by kernel_rfl) ?_
            have hHeld := KS.out _ hdrw
            obtain ⟨uf_0, hu⟩ : ∃ u, u = wo.drew := ⟨_, rfl⟩
            rw [← hu] at hHeld hdrw
            rw [← hu]
            clear hu
            have HU := Lib.hid hdrw
            clear hdrw
            refine zt 0 ?_
            refine zt 1 ?_
            refine zt 2 ?_
            refine zt 3 ?_
            refine zr 4 (fun C hC => ?_)
            go_simp
            refine (done_any w2 uf_0 k b f (HRD.out.on HU.out)).mono ?_
            rintro e uf_1 ⟨rfl, hb⟩
            rw [HQ.out]
            replace HU := Lib.hid (HU.out.trans (hb.mono HU.out.size))
            clear hb
            have hHeld := KS.out _ HU.out
            refine zc hC hHeld ?_
            clear hC C
            refine zt 5 ?_
            refine zt 6 ?_
            refine zt 7 ?_
            refine zt 8 ?_
            refine zt 11 ?_
            refine zt 12 ?_
            refine zr 9 (fun C hC => ?_)
            go_simp
            refine (lBytes_any (kl + 1) uf_1 kl l (lastD l) (HLA.out.on HU.out) HDI.out HLL.out).mono ?_
            rintro e uf_2 ⟨v, rfl, g, cg, rfl, hcg, hg, hpre, hb⟩
            replace HU := Lib.hid (HU.out.trans (hb.mono HU.out.size))
            have hcv := run_str_at (hpre.byt (CrcMath.sealB_all (bodyA_all HDI.out HLL.out)) cg hcg) HS1.out
            obtain ⟨Lg, hLg⟩ : ∃ Lg, Lg = (bytesA l).length := ⟨_, rfl⟩
            rw [← hLg] at hcv ⊢
            clear hb hcg hg hpre hLg
            have hHeld := KS.out _ HU.out
            refine zc hC hHeld ?_
            clear hC C
            refine zr 10 (fun C hC => ?_)
            go_simp
            have hHeld := KS.out _ HU.out
            refine zc hC hHeld ?_
            clear hC C
            clear hcv
            refine zt 13 ?_
            refine zt 14 ?_
            refine wpAnyZ_done (by kernel_rfl) ?_ _
            refine NoPanic.normal ?_
            clear hHeld
            have HB7 := Lib.hid (HBE.out.trans (HU.out.mono HBE.out.size))
            have HLA7 := Lib.hid (HLA.out.on HU.out)
            have HRA7 : Hid (R uf_2 a l) := HKR.out _ _ _ _ HRA.out (HB12.out.trans ((HB.out.trans (HU.out.mono HB.out.size)).mono HB12.out.size))
            clear HU KS HLA
            obtain ⟨pa, pn, pc, hbox, hrow, _⟩ := HLA7.out
            have HBX := Lib.hid hbox
            have HRW := Lib.hid hrow
            have KS : Hid (∀ V, Below uf_2.heap.size uf_2 V → (fun (V : World) => V.cell? ⟨kl, 0, none⟩ = some (.slice pa pn pc)) V) := fun V hV => (HBX.out.on hV).c0
            clear hbox hrow
            have hdrw : Below uf_2.heap.size uf_2 uf_2.drew := (Below.refl _ _).drew
            go_upto_region 12 with fail
            refine wp_region_noPanic ?_
            refine wp_region_z [] (fun (V : World) => V.cell? ⟨kl, 0, none⟩ = some (.slice pa pn pc)) (by kernel_rfl) ?_
            have hHeld := KS.out _ hdrw
            obtain ⟨uh_0, hu⟩ : ∃ u, u = uf_2.drew := ⟨_, rfl⟩
            rw [← hu] at hHeld hdrw
            rw [← hu]
            clear hu
            have HU := Lib.hid hdrw
            clear hdrw
            refine zt 0 ?_
            refine zt 1 ?_
            refine zt 2 ?_
            refine zt 3 ?_
            refine zt 4 ?_
            refine zt 5 ?_
            refine zt 6 ?_
            refine zt 7 ?_
            refine zt 9 ?_
            refine zt 10 ?_
            refine zt 11 ?_
            refine zt 12 ?_
            refine zr 8 (fun C hC => ?_)
            go_simp
            refine (HKA.out uh_0 a l (HKR.out _ _ _ _ HRA7.out HU.out) HOK.out.1 HLL.out).mono ?_
            rintro e uh_1 ⟨qa, qn, qc, rfl, hqr, hb⟩
            replace HU := Lib.hid (HU.out.trans (hb.mono HU.out.size))
            have hrw9 := HRW.out.keep HU.out
            obtain rfl : pn = qn := hrw9.length.symm.trans hqr.length
            have HQR := Lib.hid hqr
            have HRW9 := Lib.hid hrw9
            have hqn : pn ≤ 1000000 := by rw [← hqr.length]; exact HLL.out
            clear hb hqr hrw9
            have hHeld := KS.out _ HU.out
            refine zc hC hHeld ?_
            clear hC C
            refine zr 13 (fun C hC => ?_)
            go_simp
            refine (drSame_any uh_1 qa pa pn qc pc l HQR.out HRW9.out hqn).mono ?_
            rintro e uh_2 ⟨rfl, hb⟩
            replace HU := Lib.hid (HU.out.trans (hb.mono HU.out.size))
            clear hb
            have hHeld := KS.out _ HU.out
            refine zc hC hHeld ?_
            clear hC C
            refine zt 14 ?_
            refine zt 15 ?_
            refine wpAnyZ_done (by kernel_rfl) ?_ _
            refine NoPanic.normal ?_
            clear hHeld
            have HB8 := Lib.hid (HB7.out.trans (HU.out.mono HB7.out.size))
            go_wp2
            go_ret
            exact ⟨rfl, HB8.out⟩
          · skip
            have hse : (s1.toList == s2.toList) = false := by
             rw [HS1.out, HS2.out]
             exact str_differ (CrcMath.sealB_all (bodyA_all HDI.out HLL.out)) H.out.all heq
            have HNO : Hid (∀ m, ¬ IsAb bs m) := ab_no HAF.out HBL.out (fun h => heq h.2.2.2)
            clear heq
            have hnone : rp = none ∧ rc = 12 := by
             rcases HCS.out with ⟨a, l', e1, e2, h1, h2⟩ | ⟨e1, e2, _⟩
             · exact absurd h2 (HNO.out _)
             · exact ⟨e1, e2⟩
            obtain ⟨rfl, rfl⟩ := hnone
            go_upto_region 10 with fail
            clear q1
            refine wp_region_noPanic ?_
            refine wp_region_z [] (fun (V : World) => (convert 38 9 (.slice ad len cap)).run Try.prog V = .ok (.string s2) V) (by kernel_rfl) ?_
            have hHeld := KS.out _ hdrw
            obtain ⟨uf_0, hu⟩ : ∃ u, u = wo.drew := ⟨_, rfl⟩
            rw [← hu] at hHeld hdrw
            rw [← hu]
            clear hu
            have HU := Lib.hid hdrw
            clear hdrw
            refine zt 0 ?_
            refine zt 1 ?_
            refine zt 2 ?_
            refine zt 3 ?_
            refine zr 4 (fun C hC => ?_)
            go_simp
            refine (done_any w2 uf_0 k b f (HRD.out.on HU.out)).mono ?_
            rintro e uf_1 ⟨rfl, hb⟩
            rw [HQ.out]
            replace HU := Lib.hid (HU.out.trans (hb.mono HU.out.size))
            clear hb
            have hHeld := KS.out _ HU.out
            refine zc hC hHeld ?_
            clear hC C
            refine zt 5 ?_
            refine zt 6 ?_
            refine zt 7 ?_
            refine zt 8 ?_
            refine zt 11 ?_
            refine zt 12 ?_
            refine zr 9 (fun C hC => ?_)
            go_simp
            refine (lBytes_any (kl + 1) uf_1 kl l (lastD l) (HLA.out.on HU.out) HDI.out HLL.out).mono ?_
            rintro e uf_2 ⟨v, rfl, g, cg, rfl, hcg, hg, hpre, hb⟩
            replace HU := Lib.hid (HU.out.trans (hb.mono HU.out.size))
            have hcv := run_str_at (hpre.byt (CrcMath.sealB_all (bodyA_all HDI.out HLL.out)) cg hcg) HS1.out
            obtain ⟨Lg, hLg⟩ : ∃ Lg, Lg = (bytesA l).length := ⟨_, rfl⟩
            rw [← hLg] at hcv ⊢
            clear hb hcg hg hpre hLg
            have hHeld := KS.out _ HU.out
            refine zc hC hHeld ?_
            clear hC C
            refine zr 10 (fun C hC => ?_)
            go_simp
            have hHeld := KS.out _ HU.out
            refine zc hC hHeld ?_
            clear hC C
            clear hcv
            refine zt 13 ?_
            refine zt 14 ?_
            refine wpAnyZ_done (by kernel_rfl) ?_ _
            refine NoPanic.normal ?_
            clear hHeld
            have HB7 := Lib.hid (HBE.out.trans (HU.out.mono HBE.out.size))
            clear HU KS
            go_wp2
            go_ret
            exact ⟨rfl, HB7.out⟩
    · cases good with
      | false =>
        have HNO : Hid (∀ m, ¬ IsAb bs m) := ab_no HAF.out HBL.out (fun h => by have h1 := h.1; cases h1)
        have hnone : rp = none ∧ rc = 12 := by
         rcases HCS.out with ⟨a, l', e1, e2, h1, h2⟩ | ⟨e1, e2, _⟩
         · exact absurd h2 (HNO.out _)
         · exact ⟨e1, e2⟩
        obtain ⟨rfl, rfl⟩ := hnone
        go_upto_region 10 with fail
        clear q1
        refine wp_region_noPanic ?_
        refine wp_region_z [] (fun (V : World) => (convert 38 9 (.slice ad len cap)).run Try.prog V = .ok (.string s2) V) (by kernel_rfl) ?_
        have hHeld := KS.out _ hdrw
        obtain ⟨uf_0, hu⟩ : ∃ u, u = wo.drew := ⟨_, rfl⟩
        rw [← hu] at hHeld hdrw
        rw [← hu]
        clear hu
        have HU := Lib.hid hdrw
        clear hdrw
        refine zt 0 ?_
        refine zt 1 ?_
        refine zt 2 ?_
        refine zt 3 ?_
        refine zt 4 ?_
        refine zt 5 ?_
        refine zt 6 ?_
        refine zt 7 ?_
        refine zt 8 ?_
        refine zt 9 ?_
        refine zt 10 ?_
        refine zt 11 ?_
        refine zt 12 ?_
        refine zt 13 ?_
        refine zt 14 ?_
        refine wpAnyZ_done (by kernel_rfl) ?_ _
        refine NoPanic.normal ?_
        clear hHeld
        have HB7 := Lib.hid (HBE.out.trans (HU.out.mono HBE.out.size))
        clear HU KS
        go_wp2
        go_ret
        exact ⟨rfl, HB7.out⟩
      | true =>
        obtain ⟨q, hq⟩ : ∃ q, (!true && b.isEmpty) = q := ⟨_, rfl⟩
        have HQ := Lib.hid hq
        clear hq
        cases q with
        | false =>
          have HNO : Hid (∀ m, ¬ IsAb bs m) := ab_no HAF.out HBL.out (fun h => by have h1 := h.2.1; cases h1)
          have hnone : rp = none ∧ rc = 12 := by
           rcases HCS.out with ⟨a, l', e1, e2, h1, h2⟩ | ⟨e1, e2, _⟩
           · exact absurd h2 (HNO.out _)
           · exact ⟨e1, e2⟩
          obtain ⟨rfl, rfl⟩ := hnone
          go_upto_region 10 with fail
          clear q1
          refine wp_region_noPanic ?_
          refine wp_region_z [] (fun (V : World) => (convert 38 9 (.slice ad len cap)).run Try.prog V = .ok (.string s2) V) (by kernel_rfl) ?_
          have hHeld := KS.out _ hdrw
          obtain ⟨uf_0, hu⟩ : ∃ u, u = wo.drew := ⟨_, rfl⟩
          rw [← hu] at hHeld hdrw
          rw [← hu]
          clear hu
          have HU := Lib.hid hdrw
          clear hdrw
          refine zt 0 ?_
          refine zt 1 ?_
          refine zt 2 ?_
          refine zt 3 ?_
          refine zr 4 (fun C hC => ?_)
          go_simp
          refine (done_any w2 uf_0 k b true (HRD.out.on HU.out)).mono ?_
          rintro e uf_1 ⟨rfl, hb⟩
          rw [HQ.out]
          replace HU := Lib.hid (HU.out.trans (hb.mono HU.out.size))
          clear hb
          have hHeld := KS.out _ HU.out
          refine zc hC hHeld ?_
          clear hC C
          refine zt 5 ?_
          refine zt 6 ?_
          refine zt 7 ?_
          refine zt 8 ?_
          refine zt 9 ?_
          refine zt 10 ?_
          refine zt 11 ?_
          refine zt 12 ?_
          refine zt 13 ?_
          refine zt 14 ?_
          refine wpAnyZ_done (by kernel_rfl) ?_ _
          refine NoPanic.normal ?_
          clear hHeld
          have HB7 := Lib.hid (HBE.out.trans (HU.out.mono HBE.out.size))
          clear HU KS
          go_wp2
          go_ret
          exact ⟨rfl, HB7.out⟩
        | true =>
          cases HQ.out
    · skip
      have HNO : Hid (∀ m, ¬ IsAb bs m) := ab_no HAF.out HBL.out (fun h => by have h1 := h.1; cases h1)
      have hnone : rp = none ∧ rc = 12 := by
       rcases HCS.out with ⟨a, l', e1, e2, h1, h2⟩ | ⟨e1, e2, _⟩
       · exact absurd h2 (HNO.out _)
       · exact ⟨e1, e2⟩
      obtain ⟨rfl, rfl⟩ := hnone
      go_upto_region 10 with fail
      clear q1
      refine wp_region_noPanic ?_
      refine wp_region_z [] (fun (V : World) => (convert 38 9 (.slice ad len cap)).run Try.prog V = .ok (.string s2) V) (by kernel_rfl) ?_
      have hHeld := KS.out _ hdrw
      obtain ⟨uf_0, hu⟩ : ∃ u, u = wo.drew := ⟨_, rfl⟩
      rw [← hu] at hHeld hdrw
      rw [← hu]
      clear hu
      have HU := Lib.hid hdrw
      clear hdrw
      refine zt 0 ?_
      refine zt 1 ?_
      refine zt 2 ?_
      refine zt 3 ?_
      refine zt 4 ?_
      refine zt 5 ?_
      refine zt 6 ?_
      refine zt 7 ?_
      refine zt 8 ?_
      refine zt 9 ?_
      refine zt 10 ?_
      refine zt 11 ?_
      refine zt 12 ?_
      refine zt 13 ?_
      refine zt 14 ?_
      refine wpAnyZ_done (by kernel_rfl) ?_ _
      refine NoPanic.normal ?_
      clear hHeld
      have HB7 := Lib.hid (HBE.out.trans (HU.out.mono HBE.out.size))
      clear HU KS
      go_wp2
      go_ret
      exact ⟨rfl, HB7.out⟩
end Go.Proofs.Ytbejincejbnbaaa
namespace Go.Proofs.Ytbejincejbnbaaa
open Go.RowKit
set_option linter.unusedVariables false

/-- Nothing that was there and is not of F has turned. -/
structure Kept (w w' : World) (F : Nat → Prop) : Prop where
 os : w'.os = w.os
 tape : w'.tape = w.tape
 output : w'.output = w.output
 size : w.heap.size ≤ w'.heap.size
 block : ∀ j, j < w.heap.size → ¬ F j → w'.heap[j]? = w.heap[j]?
section
variable {w w1 w2 : World} {F G : Nat → Prop}
theorem Kept.refl (w : World) (F : Nat → Prop) : Kept w w F := ⟨rfl, rfl, rfl, Nat.le_refl _, fun _ _ _ => rfl⟩
theorem Kept.trans (h : Kept w w1 F) (h2 : Kept w1 w2 G) (hg : ∀ i, G i → F i ∨ w.heap.size ≤ i) : Kept w w2 F :=
 ⟨h2.os.trans h.os, h2.tape.trans h.tape, h2.output.trans h.output, Nat.le_trans h.size h2.size, fun j hj hn => (h2.block j (Nat.lt_of_lt_of_le hj h.size) fun e => by
  rcases hg j e with h3 | h3
  · exact hn h3
  · omega).trans (h.block j hj hn)⟩
theorem Kept.of_grown {k : Nat} (h : w.grownBy w1 (some k)) (hk : F k ∨ w.heap.size ≤ k) : Kept w w1 F := ⟨h.os, h.tape, h.output, h.size, fun j hj hn => h.block j hj fun e => by
 cases e
 rcases hk with h1 | h1
 · exact hn h1
 · omega⟩
theorem Kept.of_own {v : Value} (h : w.grownBy w1 v.ownBlock) (hv : ∀ k, v.ownBlock = some k → F k ∨ w.heap.size ≤ k) : Kept w w1 F := ⟨h.os, h.tape, h.output, h.size, fun j hj hn => h.block j hj fun e => by
 rcases hv j e.symm with h1 | h1
 · exact hn h1
 · omega⟩
theorem Kept.of_below (h : Below w.heap.size w w1) : Kept w w1 F := ⟨h.os, h.tape, h.output, h.size, fun j hj _ => h.block j hj⟩
theorem Kept.more (h : Kept w w1 F) (hf : ∀ i, F i → G i) : Kept w w1 G := ⟨h.os, h.tape, h.output, h.size, fun j hj hn => h.block j hj fun e => hn (hf j e)⟩
theorem Kept.below {B : Nat} (h : Kept w w1 F) (hf : ∀ i, F i → B ≤ i) (hB : B ≤ w.heap.size) : Below B w w1 := ⟨h.os, h.tape, h.output, h.size, fun j hj => h.block j (by omega) fun e => by have := hf j e; omega⟩
theorem Kept.row {α : Type} {K : Kind α} {ad : Option Addr} {len cap : Nat} {l : List α} (hk : Kept w w1 F) (hr : RowAt K w ad len cap l) (ha : ∀ a, ad = some a → ¬ F a.block) : RowAt K w1 ad len cap l := by
 refine ⟨hr.length, hr.fits, hr.room, ?_⟩
 rcases hr.cells with h0 | ⟨b, off, e, hlt, hc⟩
 · exact .inl h0
 · refine .inr ⟨b, off, e, Nat.lt_of_lt_of_le hlt hk.size, fun i x hi j u hj => ?_⟩
   have h1 := hc i x hi j u hj
   have e1 := hk.block b hlt (ha _ e)
   unfold World.cell? at h1 ⊢
   simp only [e1]
   exact h1
end
theorem OwnRow.same {α : Type} {K : Kind α} {w w' : World} {base : Nat} {v : Value} {l : List α} (h : OwnRow K w base v l) (hs : ∀ q, v.ownBlock = some q → w'.heap[q]? = w.heap[q]?) : OwnRow K w' base v l := by
 refine ⟨h.1, ?_⟩
 rcases h.2 with h0 | ⟨g, cap, cur, h1, h2, h3, h4⟩
 · exact .inl h0
 · exact .inr ⟨g, cap, cur, h1, h2, (hs g (by rw [h1]; rfl)).trans h3, h4⟩
end Go.Proofs.Ytbejincejbnbaaa
namespace Go.Proofs.Ytbejincejbnbaaa
open Go.RowKit
open Go.SeqMath
open Go.ProdMath
open Go.BatMath hiding AllB getD_lt take_all
set_option linter.unusedVariables false

/-- A block that is a log without files. -/
def MBox (w : World) (km : Nat) (cap start : Int) (v : Value) : Prop := w.heap[km]? = some (.cells #[.int .i64 cap, .int .i64 start, v] 69 (0, 0))
section
variable {w w' : World} {km : Nat} {cap start : Int} {v : Value}
theorem MBox.c0 (h : MBox w km cap start v) : w.cell? ⟨km, 0, none⟩ = some (.int .i64 cap) := by rw [cell_of_row _ _ 0 _ _ _ h]; rfl
theorem MBox.c1 (h : MBox w km cap start v) : w.cell? ⟨km, 1, none⟩ = some (.int .i64 start) := by rw [cell_of_row _ _ 1 _ _ _ h]; rfl
theorem MBox.c2 (h : MBox w km cap start v) : w.cell? ⟨km, 2, none⟩ = some v := by rw [cell_of_row _ _ 2 _ _ _ h]; rfl
theorem MBox.free (h : MBox w km cap start v) (j : Nat) : w.frozen? ⟨km, j, none⟩ = false := frozen_of_row w km j _ _ h
theorem MBox.lt (h : MBox w km cap start v) : km < w.heap.size := lt_of_block h
theorem MBox.on (h : MBox w km cap start v) (hb : Below w.heap.size w w') : MBox w' km cap start v := by
 have hlt := h.lt
 unfold MBox at *
 rw [hb.block km hlt]
 exact h
theorem MBox.s2 (h : MBox w km cap start v) (u : Value) : MBox (w.setCell ⟨km, 2, none⟩ u) km cap start u := box_set h 2 _
theorem MBox.grown {r : Option Nat} (h : MBox w km cap start v) (hg : w.grownBy w' r) (hr : r ≠ some km) : MBox w' km cap start v := by
 have hlt := h.lt
 unfold MBox at *
 rw [hg.block km hlt (fun e => hr e.symm)]
 exact h
end
theorem batsOk_of {bs : List Bat} (h : RowOk bs) : BatsOk bs := fun b hb => by
 have h1 := ok_of (h b hb).1
 exact ⟨texts_of h1.texts, (h b hb).2.prod.2, by have := h1.recs; omega⟩
set_option maxRecDepth 100000 in
set_option maxHeartbeats 4000000 in
theorem refEnd_any (w : World) (start : Int) (ad : Option Addr) (len cap : Nat) (ms : List BM) (h : BatsAt w ad len cap ms) (hL : len ≤ 100000) (hok : RowOk (bats ms)) (v : Int) (hv : endD start (bats ms) = v) :
 Calls Try.prog 70 #[.int .i64 start, .slice ad len cap] w (Says v w) := by
 have hlen := h.row.length
 by_cases h0 : len = 0
 · subst h0
   obtain rfl : ms = [] := List.eq_nil_of_length_eq_zero hlen
   have HV : Hid (start = v) := hv
   clear h hv
   go_enter Try.func70, Try.ntmps70
   go_wp2
   go_ret
   exact says_mk HV.out (Below.refl _ _)
 · obtain ⟨bk, off, m, rfl, hbk, hm, hrec, c0, c1, c2, c3, c4, c5, c6⟩ := h.get (i := len - 1) (by omega)
   have hlast : (bats ms).getLast? = some m.b := by
    unfold bats
    rw [List.getLast?_eq_getElem?, List.length_map, hlen, List.getElem?_map, hm]; rfl
   have hmem : m.b ∈ bats ms := List.mem_of_mem_getLast? hlast
   have hob := ok_of (hok m.b hmem).1
   have h1 := hob.base0
   have h2 := hob.base1
   have h3 := hob.recs
   rw [end_last hlast] at hv
   obtain ⟨cnt, hcnt⟩ : ∃ cnt, (if m.b.marker ≠ 0 then 1 else (m.b.recs.length : Int)) = cnt := ⟨_, rfl⟩
   have hc2 : countD m.b = cnt := hcnt
   have hc3 : 0 ≤ cnt ∧ cnt ≤ 16 := by rw [← hcnt]; split <;> omega
   rw [hc2] at hv
   have HCNT := Lib.hid hcnt
   have hdl : decide ((len : Int) = 0) = false := decide_eq_false (by omega)
   have hdl2 : ((len : Int) == 0) = false := beq_false_of_ne (by omega)
   have hdl3 : (len == 0) = false := beq_false_of_ne h0
   have hw1 : wrap64 ((len : Int) - 1) = (len : Int) - 1 := by unfold wrap64; omega
   have hi1 : (1 : Int) ≤ (len : Int) := by omega
   have hi2 : (len : Int) - 1 < (len : Int) := by omega
   have hi3 : ((len : Int) - 1).toNat = len - 1 := by omega
   have HVV : Hid (m.b.base + cnt = v) := hv
   clear h hok hlast hmem hob h3 hc2 hcnt hm hrec hbk hlen hv
   go_enter Try.func70, Try.ntmps70
   go_upto_region 4 with fail
   obtain ⟨W1, hW1⟩ : ∃ W1, W1 = w.alloc (.cells #[.int .i64 m.b.base, .int .i64 m.b.prod, .int .i64 m.b.epoch, .int .i64 m.b.seq, .bool m.b.txn, .int .i64 m.b.marker, .slice m.ad m.b.recs.length m.cap] 58) := ⟨_, rfl⟩
   have HB1 : Hid (Below w.heap.size w W1) := by show Below _ _ _; rw [hW1]; exact (Below.refl _ _).alloc (Nat.le_refl _) _
   obtain ⟨K, hK⟩ : ∃ K, K = w.heap.size := ⟨_, rfl⟩
   have HX1 : Hid (BoxAt W1 K m.b.base m.b.prod m.b.epoch m.b.seq m.b.txn m.b.marker (.slice m.ad m.b.recs.length m.cap)) := by show BoxAt _ _ _ _ _ _ _ _ _; rw [hW1, hK]; exact boxAt_new w _ _ _ _ _ _ _
   rw [← hW1, ← hK]
   clear hW1 hK c0 c1 c2 c3 c4 c5 c6
   have KS : Hid (∀ W, Below W1.heap.size W1 W → (fun (W : World) => W.cell? ⟨K, 0, none⟩ = some (.int .i64 m.b.base) ∧ W.cell? ⟨K, 1, none⟩ = some (.int .i64 m.b.prod) ∧ W.cell? ⟨K, 2, none⟩ = some (.int .i64 m.b.epoch) ∧ W.cell? ⟨K, 3, none⟩ = some (.int .i64 m.b.seq) ∧ W.cell? ⟨K, 4, none⟩ = some (.bool m.b.txn) ∧ W.cell? ⟨K, 5, none⟩ = some (.int .i64 m.b.marker) ∧ W.cell? ⟨K, 6, none⟩ = some (.slice m.ad m.b.recs.length m.cap)) W) := by
    intro W hW
    have hX := HX1.out.on hW
    exact ⟨hX.c0, hX.c1, hX.c2, hX.c3, hX.c4, hX.c5, hX.c6⟩
   have hdrw : Below W1.heap.size W1 W1.drew := (Below.refl _ W1).drew
   have hwr : IntKind.i64.wrap (m.b.base + cnt) = v := by rw [HVV.out]; have := HVV.out; exact IntWalk.i64_in _ (by omega)
   refine wp_region_noPanic ?_
   refine wp_region_z [] (fun (W : World) => W.cell? ⟨K, 0, none⟩ = some (.int .i64 m.b.base) ∧ W.cell? ⟨K, 1, none⟩ = some (.int .i64 m.b.prod) ∧ W.cell? ⟨K, 2, none⟩ = some (.int .i64 m.b.epoch) ∧ W.cell? ⟨K, 3, none⟩ = some (.int .i64 m.b.seq) ∧ W.cell? ⟨K, 4, none⟩ = some (.bool m.b.txn) ∧ W.cell? ⟨K, 5, none⟩ = some (.int .i64 m.b.marker) ∧ W.cell? ⟨K, 6, none⟩ = some (.slice m.ad m.b.recs.length m.cap)) (by kernel_rfl) ?_
   have hHeld := KS.out _ hdrw
   obtain ⟨u0, hu0⟩ : ∃ u, u = W1.drew := ⟨_, rfl⟩
   rw [← hu0] at hHeld hdrw
   rw [← hu0]
   clear hu0
   have HU := Lib.hid hdrw
   clear hdrw
   refine zt 0 ?_
   refine zt 1 ?_
   refine zt 2 ?_
   refine zr 3 (fun C hC => ?_)
   go_simp
   refine (refCount_any u0 _ _ _ _ _ _ m.ad m.b.recs.length m.cap cnt HCNT.out).mono ?_
   rintro e u1 ⟨rfl, hbb⟩
   have HU1 := Lib.hid (HU.out.trans (hbb.mono HU.out.size))
   clear hbb
   go_wp2_with fail
   have hHeld := KS.out _ HU1.out
   refine zc hC hHeld ?_
   clear hC C
   refine zt 4 ?_
   refine zt 5 ?_
   refine wpAnyZ_done (by kernel_rfl) ?_ _
   refine NoPanic.normal ?_
   go_wp2
   go_ret
   exact says_mk (by first | rfl | exact HVV.out) (HB1.out.trans (HU1.out.mono HB1.out.size))
set_option maxRecDepth 100000 in
set_option maxHeartbeats 4000000 in
theorem modEnd_any (w : World) (km : Nat) (mc start : Int) (ad : Option Addr) (len cap : Nat) (ms : List BM) (hm : MBox w km mc start (.slice ad len cap)) (h : BatsAt w ad len cap ms) (hL : len ≤ 100000) (hok : RowOk (bats ms)) (v : Int) (hv : endD start (bats ms) = v) :
 Calls Try.prog 50 #[.pointer (some ⟨km, 0, none⟩)] w (Says v w) := by
 have HM := Lib.hid hm
 have H := Lib.hid h
 clear hm h
 go_enter Try.func50, Try.ntmps50
 go_upto_region 1 with fail
 have KS : Hid (∀ W, Below w.heap.size w W → (fun (W : World) => W.cell? ⟨km, 1, none⟩ = some (.int .i64 start) ∧ W.cell? ⟨km, 2, none⟩ = some (.slice ad len cap)) W) := by
  intro W hW
  have hX := HM.out.on hW
  exact ⟨hX.c1, hX.c2⟩
 have hdrw : Below w.heap.size w w.drew := (Below.refl _ w).drew
 refine wp_region_noPanic ?_
 refine wp_region_z [] (fun (W : World) => W.cell? ⟨km, 1, none⟩ = some (.int .i64 start) ∧ W.cell? ⟨km, 2, none⟩ = some (.slice ad len cap)) (by kernel_rfl) ?_
 have hHeld := KS.out _ hdrw
 obtain ⟨u0, hu0⟩ : ∃ u, u = w.drew := ⟨_, rfl⟩
 rw [← hu0] at hHeld hdrw
 rw [← hu0]
 clear hu0
 have HU := Lib.hid hdrw
 clear hdrw
 refine zt 0 ?_
 refine zt 1 ?_
 refine zt 2 ?_
 refine zt 3 ?_
 refine zt 4 ?_
 refine zt 5 ?_
 refine zt 6 ?_
 refine zt 7 ?_
 refine zr 8 (fun C hC => ?_)
 go_simp
 refine (refEnd_any u0 start ad len cap ms (H.out.keep HU.out) hL hok v hv).mono ?_
 rintro e u1 ⟨rfl, hbb⟩
 have HU1 := Lib.hid (HU.out.trans (hbb.mono HU.out.size))
 clear hbb
 go_wp2_with fail
 have hHeld := KS.out _ HU1.out
 refine zc hC hHeld ?_
 clear hC C
 refine zt 9 ?_
 refine wpAnyZ_done (by kernel_rfl) ?_ _
 refine NoPanic.normal ?_
 go_wp2
 go_ret
 exact says_mk rfl HU1.out
def SizeLoop (w : World) (bs : List Bat) (j : Nat) (v3 : Value) (wr : World) : Prop := v3 = .int .i64 (bytesD (bs.take j)) ∧ Below w.heap.size w wr
set_option maxRecDepth 100000 in
set_option maxHeartbeats 4000000 in
theorem modSize_any (w : World) (km : Nat) (mc start : Int) (ad : Option Addr) (len cap : Nat) (ms : List BM) (hm : MBox w km mc start (.slice ad len cap)) (h : BatsAt w ad len cap ms) (hL : len ≤ 100000) (hok : RowOk (bats ms)) (v : Int) (hv : bytesD (bats ms) = v) :
 Calls Try.prog 67 #[.pointer (some ⟨km, 0, none⟩)] w (Says v w) := by
 have H := Lib.hid h
 have hlen := h.row.length
 obtain ⟨bs, hbs⟩ : ∃ bs, bs = bats ms := ⟨_, rfl⟩
 have hbl : bs.length = len := by rw [hbs]; unfold bats; rw [List.length_map]; exact hlen
 have HGET : Hid (∀ (i : Nat) m, ms[i]? = some m → bs[i]? = some m.b) := by
  intro i m hm
  rw [hbs]; unfold bats
  rw [List.getElem?_map, hm]; rfl
 rw [← hbs] at hok hv
 have HOK := Lib.hid hok
 have HV := Lib.hid hv
 have m2 := hm.c2
 clear h hbs hlen hok hv hm
 go_enter Try.func67, Try.ntmps67
 go_wp2
 clear m2
 go_loopw [3, 11] (fun v3 v11 wr => ∃ j : Nat, v11 = .int .i64 (j : Int) ∧ j ≤ len ∧ SizeLoop w bs j v3 wr) (fun _ v11 _ => len - (intOf v11).toNat)
 case atStart => exact ⟨0, rfl, Nat.zero_le _, rfl, Below.refl _ _⟩
 case round =>
  obtain ⟨j, rfl, hj, rfl, hbel⟩ := hrel
  have HB := Lib.hid hbel
  clear hbel
  obtain ⟨wo, hwo⟩ : ∃ wo : World, wo = wr := ⟨_, rfl⟩
  subst hwo
  obtain ⟨x, hx⟩ : ∃ x, bytesD (bs.take j) = x := ⟨_, rfl⟩
  have hxb : 0 ≤ x ∧ x ≤ 240400000 := by
   have h1 := bytesD_bd (bs.take j)
   rw [hx, List.length_take] at h1
   omega
  obtain ⟨hx0, hx1⟩ := hxb
  rw [hx]
  have HX := Lib.hid hx
  clear hx
  by_cases hlt : j < len
  · have hd : decide (j < len) = true := decide_eq_true hlt
    have hjl : (j : Int) < (len : Int) := by omega
    obtain ⟨bk, off, m, rfl, hbk, hm, hrec, c0, c1, c2, c3, c4, c5, c6⟩ := (H.out.keep HB.out).get hlt
    have hbm := HGET.out j m hm
    have hmem := List.mem_of_getElem? hbm
    have hob := ok_of (HOK.out m.b hmem).1
    have HTX := Lib.hid (texts_of hob.texts)
    have hr16 := hob.recs
    have hpr := (HOK.out m.b hmem).2.prod.2
    obtain ⟨s, hs⟩ : ∃ s, sizeB m.b = s := ⟨_, rfl⟩
    have hsb : 0 ≤ s ∧ s ≤ 2404 := by rw [← hs]; exact size_bd _
    obtain ⟨hs0, hs1⟩ := hsb
    have HNX : Hid (bytesD (bs.take (j + 1)) = x + s) := by
     show _ = _
     rw [List.take_add_one, hbm]
     show bytesD (bs.take j ++ [m.b]) = _
     rw [bytesD_snoc, HX.out, hs]
    have HS := Lib.hid hs
    have HRC := Lib.hid hrec
    clear hbm hmem hob hs hm hrec hbk
    go_upto_region 5 with fail
    obtain ⟨W1, hW1⟩ : ∃ W1, W1 = wo.alloc (.cells #[.int .i64 m.b.base, .int .i64 m.b.prod, .int .i64 m.b.epoch, .int .i64 m.b.seq, .bool m.b.txn, .int .i64 m.b.marker, .slice m.ad m.b.recs.length m.cap] 58) := ⟨_, rfl⟩
    have hb1 : Below wo.heap.size wo W1 := by rw [hW1]; exact (Below.refl _ _).alloc (Nat.le_refl _) _
    obtain ⟨K, hK⟩ : ∃ K, K = wo.heap.size := ⟨_, rfl⟩
    have HX1 : Hid (BoxAt W1 K m.b.base m.b.prod m.b.epoch m.b.seq m.b.txn m.b.marker (.slice m.ad m.b.recs.length m.cap)) := by show BoxAt _ _ _ _ _ _ _ _ _; rw [hW1, hK]; exact boxAt_new wo _ _ _ _ _ _ _
    have HRC1 := Lib.hid (HRC.out.keep hb1)
    have HB1 := Lib.hid (HB.out.trans (hb1.mono HB.out.size))
    rw [← hW1, ← hK]
    clear hW1 hK hb1 c0 c1 c2 c3 c4 c5 c6 HB
    have p0 := HX1.out.c0
    have p1 := HX1.out.c1
    have p2 := HX1.out.c2
    have p3 := HX1.out.c3
    have p4 := HX1.out.c4
    have p5 := HX1.out.c5
    have p6 := HX1.out.c6
    go_wp2_with fail
    have CS := refSize_any W1 m.b m.ad m.b.recs.length m.cap HRC1.out HTX.out (by omega) hpr
    rw [HS.out] at CS
    refine CS.mono ?_
    clear CS
    rintro e w2 ⟨rfl, hb2⟩
    have HB2 := Lib.hid (HB1.out.trans (hb2.mono HB1.out.size))
    clear hb2 p0 p1 p2 p3 p4 p5 p6
    go_wp2
    go_roundw
    case rel => exact ⟨j + 1, by go_num, by omega, by rw [HNX.out], HB2.out⟩
    case measure => simp [intOf]; omega
  · have hd : decide (j < len) = false := decide_eq_false hlt
    have HE : Hid (x = v) := by show x = v; rw [← HX.out, List.take_of_length_le (by omega), HV.out]
    go_wp2
    go_ret
    exact says_mk HE.out HB.out
end Go.Proofs.Ytbejincejbnbaaa
