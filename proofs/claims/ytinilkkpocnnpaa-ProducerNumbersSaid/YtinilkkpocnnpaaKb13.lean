/- Parts of a proof, merged: ProdFold, ModEnd. -/
import Derived.Test.YtinilkkpocnnpaaKb12
import Derived.Test.YtinilkkpocnnpaaKb10
namespace Go.Proofs.Ytinilkkpocnnpaa
open Go.RowKit
open Go.SeqMath
open Go.ProdMath
open Go.BatMath hiding AllB getD_lt take_all
set_option linter.unusedVariables false

def bats (ms : List BM) : List Bat := ms.map (·.b)
/-- Batches whose numbers and texts are such. -/
def BatsOk (bs : List Bat) : Prop := ∀ b ∈ bs, TextsOk b.recs ∧ b.prod ≤ 9223372036854775807 ∧ b.recs.length ≤ 140737488355328
def GivesFold (w : World) (bs : List Bat) (e : Ending) (w' : World) : Prop :=
  ∃ kt ad len cap ps dd dn dc, e = .returned (.tuple #[.pointer (some ⟨kt, 0, none⟩), .slice dd dn dc]) ∧ TabOk w' kt ad len cap ps ∧ pds ps = foldP [] bs ∧ RowAt drK w' dd dn dc (foldR [] bs) ∧ w.heap.size ≤ kt ∧ Below w.heap.size w w'
/-- The list under way lies in no block of the table's. -/
def Sep (u : Value) (ad : Option Addr) (ps : List PM) : Prop := ∀ k, u.ownBlock = some k → (∀ a, ad = some a → a.block ≠ k) ∧ ∀ m ∈ ps, ∀ a, m.ad = some a → a.block ≠ k
theorem TabOk.grown {w w' : World} {kt : Nat} {ad : Option Addr} {len cap : Nat} {ms : List PM} {u : Value} (h : TabOk w kt ad len cap ms) (hg : w.grownBy w' u.ownBlock) (hs : Sep u ad ms) (hk : ∀ k, u.ownBlock = some k → k ≠ kt) : TabOk w' kt ad len cap ms := by
  refine ⟨⟨h.tab.box.grown hg fun e => hk _ e rfl, h.tab.pds.row.grown hg fun a ha e => (hs _ e.symm).1 a ha rfl, fun m hm => (h.tab.pds.ins m hm).grown hg fun a ha e => (hs _ e.symm).2 m hm a ha rfl⟩, fun a ha => ⟨(h.row a ha).1, Nat.lt_of_lt_of_le (h.row a ha).2 hg.size⟩, fun m hm a ha => ⟨(h.ins m hm a ha).1, Nat.lt_of_lt_of_le (h.ins m hm a ha).2 hg.size⟩⟩
def FoldLoop (w : World) (bs : List Bat) (j : Nat) (v5 : Value) (wr : World) : Prop :=
  ∃ u ad len cap ps, u = v5 ∧ TabOk wr w.heap.size ad len cap ps ∧ pds ps = foldP [] (bs.take j) ∧ OwnRow drK wr (w.heap.size + 1) u (foldR [] (bs.take j)) ∧ Below w.heap.size w wr ∧ Sep u ad ps
theorem foldR_len : ∀ (l : List Pd) (bs : List Bat), (foldR l bs).length ≤ bs.length
  | l, [] => by simp [foldR]
  | l, b :: bs => by
    have := foldR_len (tapplyD l b) bs
    show ((tdropD l b).toList ++ foldR (tapplyD l b) bs).length ≤ _
    rw [List.length_append, List.length_cons]
    have h2 : (tdropD l b).toList.length ≤ 1 := by cases tdropD l b <;> simp
    omega
set_option maxRecDepth 100000 in
set_option maxHeartbeats 4000000 in
theorem fold_any (w : World) (ad : Option Addr) (len cap : Nat) (ms : List BM) (h : BatsAt w ad len cap ms) (hL : len ≤ 100000) (hok : BatsOk (bats ms)) :
    Calls Try.prog 23 #[.slice ad len cap] w (GivesFold w (bats ms)) := by
  have H := Lib.hid h
  have hlen := h.row.length
  obtain ⟨bs, hbs⟩ : ∃ bs, bs = bats ms := ⟨_, rfl⟩
  have hbl : bs.length = len := by rw [hbs]; unfold bats; rw [List.length_map]; exact hlen
  have HGET : Hid (∀ (i : Nat) m, ms[i]? = some m → bs[i]? = some m.b) := by
    intro i m hm
    rw [hbs]; unfold bats
    rw [List.getElem?_map, hm]; rfl
  rw [← hbs] at hok
  rw [← hbs]
  have HOK := Lib.hid hok
  clear h hbs hlen hok
  go_enter Try.func23, Try.ntmps23
  go_wp2
  go_loopw [5, 14] (fun v5 v14 wr => ∃ j : Nat, v14 = .int .i64 (j : Int) ∧ j ≤ len ∧ FoldLoop w bs j v5 wr) (fun _ v14 _ => len - (intOf v14).toNat)
  case atStart =>
    refine ⟨0, rfl, Nat.zero_le _, _, none, 0, 0, [], rfl, ⟨⟨heap_alloc_new w _, rowAt_nil _, fun m hm => by cases hm⟩, fun a ha => (by cases ha), fun m hm => by cases hm⟩, rfl, ownRow_nil _ _ _, (Below.refl _ _).alloc (Nat.le_refl _) _, fun k hk => by cases hk⟩
  case round =>
    obtain ⟨j, rfl, hj, u, tad, tlen, tcap, ps, rfl, htab, hps, hown, hbel, hsep⟩ := hrel
    have HSP := Lib.hid hsep
    have HT := Lib.hid htab
    have HPS := Lib.hid hps
    have HO := Lib.hid hown
    have HB := Lib.hid hbel
    clear htab hps hown hbel hsep
    obtain ⟨wo, hwo⟩ : ∃ wo : World, wo = wr := ⟨_, rfl⟩
    subst hwo
    by_cases hlt : j < len
    · have hd : decide (j < len) = true := decide_eq_true hlt
      have hjl : (j : Int) < (len : Int) := by omega
      obtain ⟨bk, off, m, rfl, hbk, hm, hrec, c0, c1, c2, c3, c4, c5, c6⟩ := (H.out.keep HB.out).get hlt
      have hbm := HGET.out j m hm
      have htk : bs.take (j + 1) = bs.take j ++ [m.b] := by
        rw [List.take_add_one, hbm]; rfl
      have HTK := Lib.hid htk
      obtain ⟨hk1, hk2, hk3⟩ := HOK.out m.b (List.mem_of_getElem? hbm)
      have HK1 := Lib.hid hk1
      have hpl : tlen ≤ 1000000 := by
        have h1 := foldP_len [] (bs.take j)
        have h2 := HT.out.tab.pds.row.length
        have h3 : (pds ps).length = ps.length := by unfold pds; rw [List.length_map]
        rw [← HPS.out, h3, List.length_take] at h1
        simp at h1
        omega
      have HFEW : Hid (fewP (pds ps)) := by show fewP _; rw [HPS.out]; exact foldP_few _ (fun p hp => by cases hp)
      have HRC := Lib.hid hrec
      clear hbm htk hk1 hm hrec hbk
      go_upto_region 6 with fail
      obtain ⟨W1, hW1⟩ : ∃ W1, W1 = wo.alloc (.cells #[.int .i64 m.b.base, .int .i64 m.b.prod, .int .i64 m.b.epoch, .int .i64 m.b.seq, .bool m.b.txn, .int .i64 m.b.marker, .slice m.ad m.b.recs.length m.cap] 33) := ⟨_, rfl⟩
      have hb1 : Below wo.heap.size wo W1 := by rw [hW1]; exact (Below.refl _ _).alloc (Nat.le_refl _) _
      obtain ⟨K, hK⟩ : ∃ K, K = wo.heap.size := ⟨_, rfl⟩
      have HX1 : Hid (BoxAt W1 K m.b.base m.b.prod m.b.epoch m.b.seq m.b.txn m.b.marker (.slice m.ad m.b.recs.length m.cap)) := by show BoxAt _ _ _ _ _ _ _ _ _; rw [hW1, hK]; exact boxAt_new wo _ _ _ _ _ _ _
      have HT1 := Lib.hid (HT.out.keep hb1)
      have HO1 := Lib.hid (HO.out.on hb1)
      have HB1 := Lib.hid (HB.out.trans (hb1.mono HB.out.size))
      have HRC1 := Lib.hid (HRC.out.keep hb1)
      rw [← hW1, ← hK]
      clear hW1 hb1 hK c0 c1 c2 c3 c4 c5 c6
      have p0 := HX1.out.c0
      have p1 := HX1.out.c1
      have p2 := HX1.out.c2
      have p3 := HX1.out.c3
      have p4 := HX1.out.c4
      have p5 := HX1.out.c5
      have p6 := HX1.out.c6
      obtain ⟨l', hl'⟩ : ∃ l', tapplyD (pds ps) m.b = l' := ⟨_, rfl⟩
      obtain ⟨dr, hdr⟩ : ∃ dr, tdropD (pds ps) m.b = dr := ⟨_, rfl⟩
      have CA := tabApply_any W1 w.heap.size tad tlen tcap ps HT1.out hpl m.b m.ad m.b.recs.length m.cap HRC1.out HK1.out hk3 hk2 HFEW.out
      rw [hl', hdr] at CA
      have CAH := Lib.hid CA
      have HP2 : Hid (l' = foldP [] (bs.take (j + 1))) := by show _ = _; rw [HTK.out, foldP_snoc, ← HPS.out, hl']
      have HR2 : Hid (foldR [] (bs.take (j + 1)) = foldR [] (bs.take j) ++ dr.toList) := by show _ = _; rw [HTK.out, foldR_snoc, ← HPS.out, hdr]
      have hrl : (foldR [] (bs.take j)).length ≤ j := by have := foldR_len [] (bs.take j); rw [List.length_take] at this; omega
      obtain ⟨lr, hlr⟩ : ∃ lr, foldR [] (bs.take j) = lr := ⟨_, rfl⟩
      rw [hlr] at hrl HO1 HR2
      clear CA hl' hdr hlr HPS HTK HFEW HK1
      go_wp2_with fail
      refine CAH.out.mono ?_
      rintro e w2 ⟨d, tad2, tlen2, tcap2, ps2, rfl, hdd, ht2, hp2, hg2, hfa2, hfi2⟩
      have HSP2 : Hid (Sep u tad2 ps2) := by
        intro k hk
        have hkl := (HO1.out.lt k hk).2
        refine ⟨fun a ha => ?_, fun m hm a ha => ?_⟩
        · rcases hfa2 a ha with h1 | h1
          · exact (HSP.out k hk).1 a h1
          · omega
        · rcases hfi2 m hm with h1 | h1
          · exact (HSP.out k hk).2 m h1 a ha
          · have := h1 a ha; omega
      have HT2 := Lib.hid ht2
      have HP3 : Hid (pds ps2 = foldP [] (bs.take (j + 1))) := by show _ = _; rw [hp2, HP2.out]
      have HO2 := Lib.hid (HO1.out.grown hg2 (fun k hk e => by have := (HO1.out.lt k hk).1; cases e; omega))
      have HB2 : Hid (Below w.heap.size w w2) := HB1.out.trans (below_grown hg2 (Nat.le_refl _) HB1.out.size)
      have HDD := Lib.hid hdd
      clear ht2 hp2 hg2 hfa2 hfi2 HSP CAH p0 p1 p2 p3 p4 p5 p6 HT1 HO1 HX1 HP2 hdd
      go_upto_region 7 with fail
      obtain ⟨W3, hW3⟩ : ∃ W3, W3 = w2.alloc (.cells #[.int .i64 d.prod, .int .i64 d.first, .int .i64 d.last] 80) := ⟨_, rfl⟩
      have hb3 : Below w2.heap.size w2 W3 := by rw [hW3]; exact (Below.refl _ _).alloc (Nat.le_refl _) _
      obtain ⟨Q, hQ⟩ : ∃ Q, Q = w2.heap.size := ⟨_, rfl⟩
      have HD3 : Hid (DBox W3 Q d) := by show DBox _ _ _; rw [hW3, hQ]; exact dbox_new w2 d
      have HT3 := Lib.hid (HT2.out.keep hb3)
      have HO3 := Lib.hid (HO2.out.on hb3)
      have HB3 := Lib.hid (HB2.out.trans (hb3.mono HB2.out.size))
      rw [← hW3, ← hQ]
      clear hW3 hb3 hQ HT2 HO2 HB2
      have d0 := HD3.out.c0
      have d1 := HD3.out.c1
      have d2 := HD3.out.c2
      cases dr with
      | none =>
        have HR4 : Hid (foldR [] (bs.take (j + 1)) = lr) := by show _ = _; rw [HR2.out]; simp
        simp only [Option.isSome_none]
        go_wp2
        go_roundw
        case rel => exact ⟨j + 1, by go_num, by omega, _, tad2, tlen2, tcap2, ps2, rfl, HT3.out, HP3.out, by rw [HR4.out]; exact HO3.out, HB3.out, HSP2.out⟩
        case measure => simp [intOf]; omega
      | some x =>
        have hxd : x = d := HDD.out
        subst hxd
        have HR4 : Hid (foldR [] (bs.take (j + 1)) = lr ++ [x]) := by show _ = _; rw [HR2.out]; rfl
        simp only [Option.isSome_some]
        have HBA : Hid (Below w.heap.size w (W3.alloc (.cells #[.int .i64 x.prod, .int .i64 x.first, .int .i64 x.last] 80))) := HB3.out.alloc HB3.out.size _
        have HRX : Hid (RowAt drK (W3.alloc (.cells #[.int .i64 x.prod, .int .i64 x.first, .int .i64 x.last] 80)) (some ⟨W3.heap.size, 0, none⟩) 1 1 [x]) := rowAt_lit drK_ok W3 [x] (by simp) _ rfl 1 rfl
        have hwl : w.heap.size + 1 ≤ W3.heap.size := HT3.out.tab.box.lt
        go_wp2_with (at_builtin; refine list_row (by rfl) drK_ok (.tmp 25) (.tmp 27) rfl (w.heap.size + 1) lr [x] _ rfl (HO3.out.alloc _) (by simp; omega) (some ⟨W3.heap.size, 0, none⟩) 1 1 rfl HRX.out (by omega) ?_)
        intro v4 w4 hap
        have HO4 := Lib.hid hap.1
        have hg34 : W3.grownBy w4 u.ownBlock := grow_trans (World.grownBy_alloc W3 _ _) hap.2.1
        have hub : ∀ k, u.ownBlock = some k → w.heap.size < k := fun k hk => by have := (HO3.out.lt k hk).1; omega
        have HB4 : Hid (Below w.heap.size w w4) := HBA.out.grown hap.2.1 HBA.out.size fun k hk => Nat.le_of_lt (hub k hk)
        have HT4 : Hid (TabOk w4 w.heap.size tad2 tlen2 tcap2 ps2) := HT3.out.grown hg34 HSP2.out (fun k hk => by have := hub k hk; omega)
        have HSP4 : Hid (Sep v4 tad2 ps2) := by
          intro k hk
          rcases hap.2.2.2 k hk with h1 | h1
          · exact HSP2.out k h1
          · have h1 : W3.heap.size + 1 ≤ k := by simpa using h1
            exact ⟨fun a ha => by have := (HT3.out.row a ha).2; omega, fun m hm a ha => by have := (HT3.out.ins m hm a ha).2; omega⟩
        clear hap hg34 hub HBA HRX HT3 HO3 HB3
        go_wp2
        go_roundw
        case rel => exact ⟨j + 1, by go_num, by omega, _, tad2, tlen2, tcap2, ps2, rfl, HT4.out, HP3.out, by rw [HR4.out]; exact HO4.out, HB4.out, HSP4.out⟩
        case measure => simp [intOf]; omega
    · have hd : decide (j < len) = false := decide_eq_false hlt
      have htk : bs.take j = bs := List.take_of_length_le (by omega)
      have HPE : Hid (pds ps = foldP [] bs) := by show _ = _; rw [HPS.out, htk]
      have HOE : Hid (OwnRow drK wo (w.heap.size + 1) u (foldR [] bs)) := by have := HO.out; rw [htk] at this; exact this
      clear HPS HO htk
      obtain ⟨dd, dc, hv, hr, _⟩ := HOE.out.at drK_ok
      subst hv
      go_wp2
      go_ret2
      exact ⟨w.heap.size, tad, tlen, tcap, ps, dd, _, dc, rfl, HT.out, HPE.out, hr, Nat.le_refl _, HB.out⟩
end Go.Proofs.Ytinilkkpocnnpaa
namespace Go.Proofs.Ytinilkkpocnnpaa
open Go.RowKit
open Go.SeqMath
open Go.ProdMath
open Go.BatMath hiding AllB getD_lt take_all
set_option linter.unusedVariables false

/-- A block that is a log without files. -/
def MBox (w : World) (km : Nat) (cap start : Int) (v : Value) : Prop := w.heap[km]? = some (.cells #[.int .i64 cap, .int .i64 start, v] 30 (0, 0))
section
variable {w w' : World} {km : Nat} {cap start : Int} {v : Value}
theorem MBox.c0 (h : MBox w km cap start v) : w.cell? ⟨km, 0, none⟩ = some (.int .i64 cap) := by rw [cell_of_row _ _ 0 _ _ _ h]; rfl
theorem MBox.c1 (h : MBox w km cap start v) : w.cell? ⟨km, 1, none⟩ = some (.int .i64 start) := by rw [cell_of_row _ _ 1 _ _ _ h]; rfl
theorem MBox.c2 (h : MBox w km cap start v) : w.cell? ⟨km, 2, none⟩ = some v := by rw [cell_of_row _ _ 2 _ _ _ h]; rfl
theorem MBox.free (h : MBox w km cap start v) (j : Nat) : w.frozen? ⟨km, j, none⟩ = false := frozen_of_row w km j _ _ h
theorem MBox.lt (h : MBox w km cap start v) : km < w.heap.size := lt_of_block h
theorem MBox.on (h : MBox w km cap start v) (hb : Below w.heap.size w w') : MBox w' km cap start v := by
  have hlt := h.lt
  unfold MBox at *
  rw [hb.block km hlt]
  exact h
theorem MBox.s2 (h : MBox w km cap start v) (u : Value) : MBox (w.setCell ⟨km, 2, none⟩ u) km cap start u := box_set h 2 _
theorem MBox.grown {r : Option Nat} (h : MBox w km cap start v) (hg : w.grownBy w' r) (hr : r ≠ some km) : MBox w' km cap start v := by
  have hlt := h.lt
  unfold MBox at *
  rw [hg.block km hlt (fun e => hr e.symm)]
  exact h
end
theorem batsOk_of {bs : List Bat} (h : RowOk bs) : BatsOk bs := fun b hb => by
  have h1 := ok_of (h b hb).1
  exact ⟨texts_of h1.texts, (h b hb).2.prod.2, by have := h1.recs; omega⟩
set_option maxRecDepth 100000 in
set_option maxHeartbeats 4000000 in
theorem refEnd_any (w : World) (start : Int) (ad : Option Addr) (len cap : Nat) (ms : List BM) (h : BatsAt w ad len cap ms) (hL : len ≤ 100000) (hok : RowOk (bats ms)) (v : Int) (hv : endD start (bats ms) = v) :
    Calls Try.prog 22 #[.int .i64 start, .slice ad len cap] w (Says v w) := by
  have hlen := h.row.length
  by_cases h0 : len = 0
  · subst h0
    obtain rfl : ms = [] := List.eq_nil_of_length_eq_zero hlen
    have HV : Hid (start = v) := hv
    clear h hv
    go_enter Try.func22, Try.ntmps22
    go_wp2
    go_ret
    exact says_mk HV.out (Below.refl _ _)
  · obtain ⟨bk, off, m, rfl, hbk, hm, hrec, c0, c1, c2, c3, c4, c5, c6⟩ := h.get (i := len - 1) (by omega)
    have hlast : (bats ms).getLast? = some m.b := by
      unfold bats
      rw [List.getLast?_eq_getElem?, List.length_map, hlen, List.getElem?_map, hm]; rfl
    have hmem : m.b ∈ bats ms := List.mem_of_mem_getLast? hlast
    have hob := ok_of (hok m.b hmem).1
    have h1 := hob.base0
    have h2 := hob.base1
    have h3 := hob.recs
    rw [end_last hlast] at hv
    obtain ⟨cnt, hcnt⟩ : ∃ cnt, (if m.b.marker ≠ 0 then 1 else (m.b.recs.length : Int)) = cnt := ⟨_, rfl⟩
    have hc2 : countD m.b = cnt := hcnt
    have hc3 : 0 ≤ cnt ∧ cnt ≤ 16 := by rw [← hcnt]; split <;> omega
    rw [hc2] at hv
    have HCNT := Lib.hid hcnt
    have hdl : decide ((len : Int) = 0) = false := decide_eq_false (by omega)
    have hdl2 : ((len : Int) == 0) = false := beq_false_of_ne (by omega)
    have hdl3 : (len == 0) = false := beq_false_of_ne h0
    have hw1 : wrap64 ((len : Int) - 1) = (len : Int) - 1 := by unfold wrap64; omega
    have hi1 : (1 : Int) ≤ (len : Int) := by omega
    have hi2 : (len : Int) - 1 < (len : Int) := by omega
    have hi3 : ((len : Int) - 1).toNat = len - 1 := by omega
    have HVV : Hid (m.b.base + cnt = v) := hv
    clear h hok hlast hmem hob h3 hc2 hcnt hm hrec hbk hlen hv
    go_enter Try.func22, Try.ntmps22
    go_upto_region 4 with fail
    obtain ⟨W1, hW1⟩ : ∃ W1, W1 = w.alloc (.cells #[.int .i64 m.b.base, .int .i64 m.b.prod, .int .i64 m.b.epoch, .int .i64 m.b.seq, .bool m.b.txn, .int .i64 m.b.marker, .slice m.ad m.b.recs.length m.cap] 33) := ⟨_, rfl⟩
    have HB1 : Hid (Below w.heap.size w W1) := by show Below _ _ _; rw [hW1]; exact (Below.refl _ _).alloc (Nat.le_refl _) _
    obtain ⟨K, hK⟩ : ∃ K, K = w.heap.size := ⟨_, rfl⟩
    have HX1 : Hid (BoxAt W1 K m.b.base m.b.prod m.b.epoch m.b.seq m.b.txn m.b.marker (.slice m.ad m.b.recs.length m.cap)) := by show BoxAt _ _ _ _ _ _ _ _ _; rw [hW1, hK]; exact boxAt_new w _ _ _ _ _ _ _
    rw [← hW1, ← hK]
    clear hW1 hK c0 c1 c2 c3 c4 c5 c6
    have KS : Hid (∀ W, Below W1.heap.size W1 W → (fun (W : World) => W.cell? ⟨K, 0, none⟩ = some (.int .i64 m.b.base) ∧ W.cell? ⟨K, 1, none⟩ = some (.int .i64 m.b.prod) ∧ W.cell? ⟨K, 2, none⟩ = some (.int .i64 m.b.epoch) ∧ W.cell? ⟨K, 3, none⟩ = some (.int .i64 m.b.seq) ∧ W.cell? ⟨K, 4, none⟩ = some (.bool m.b.txn) ∧ W.cell? ⟨K, 5, none⟩ = some (.int .i64 m.b.marker) ∧ W.cell? ⟨K, 6, none⟩ = some (.slice m.ad m.b.recs.length m.cap)) W) := by
      intro W hW
      have hX := HX1.out.on hW
      exact ⟨hX.c0, hX.c1, hX.c2, hX.c3, hX.c4, hX.c5, hX.c6⟩
    have hdrw : Below W1.heap.size W1 W1.drew := (Below.refl _ W1).drew
    have hwr : IntKind.i64.wrap (m.b.base + cnt) = v := by rw [HVV.out]; have := HVV.out; exact IntWalk.i64_in _ (by omega)
    refine wp_region_noPanic ?_
    refine wp_region_z [] (fun (W : World) => W.cell? ⟨K, 0, none⟩ = some (.int .i64 m.b.base) ∧ W.cell? ⟨K, 1, none⟩ = some (.int .i64 m.b.prod) ∧ W.cell? ⟨K, 2, none⟩ = some (.int .i64 m.b.epoch) ∧ W.cell? ⟨K, 3, none⟩ = some (.int .i64 m.b.seq) ∧ W.cell? ⟨K, 4, none⟩ = some (.bool m.b.txn) ∧ W.cell? ⟨K, 5, none⟩ = some (.int .i64 m.b.marker) ∧ W.cell? ⟨K, 6, none⟩ = some (.slice m.ad m.b.recs.length m.cap)) (by kernel_rfl) ?_
    have hHeld : (fun (W : World) => W.cell? ⟨K, 0, none⟩ = some (.int .i64 m.b.base) ∧ W.cell? ⟨K, 1, none⟩ = some (.int .i64 m.b.prod) ∧ W.cell? ⟨K, 2, none⟩ = some (.int .i64 m.b.epoch) ∧ W.cell? ⟨K, 3, none⟩ = some (.int .i64 m.b.seq) ∧ W.cell? ⟨K, 4, none⟩ = some (.bool m.b.txn) ∧ W.cell? ⟨K, 5, none⟩ = some (.int .i64 m.b.marker) ∧ W.cell? ⟨K, 6, none⟩ = some (.slice m.ad m.b.recs.length m.cap)) _ := KS.out _ hdrw
    obtain ⟨u0, hu0⟩ : ∃ u, u = W1.drew := ⟨_, rfl⟩
    rw [← hu0] at hHeld hdrw
    rw [← hu0]
    clear hu0
    have HU := Lib.hid hdrw
    clear hdrw
    refine wpAnyZ_take (i := 0) (oi := ⟨_, _, _, _, _, _⟩) (v := ?_) rfl (by kernel_rfl) (by kernel_rfl) (by kernel_rfl) (by kernel_rfl) (by kernel_rfl) (fun _ _ _ h => h) (Or.inl ⟨by rfl, ?_⟩) (by assumption) ?_
    rotate_left
    · intro W hSw
      (try dsimp only at hSw)
      go_simp
      (try with_reducible rfl)
    (try simp only [Act.put, List.setIfInBounds_toArray, List.set_cons_zero, List.set_cons_succ])
    refine wpAnyZ_take (i := 1) (oi := ⟨_, _, _, _, _, _⟩) (v := ?_) rfl (by kernel_rfl) (by kernel_rfl) (by kernel_rfl) (by kernel_rfl) (by kernel_rfl) (fun _ _ _ h => h) (Or.inl ⟨by rfl, ?_⟩) (by assumption) ?_
    rotate_left
    · intro W hSw
      (try dsimp only at hSw)
      go_simp
      (try with_reducible rfl)
    (try simp only [Act.put, List.setIfInBounds_toArray, List.set_cons_zero, List.set_cons_succ])
    refine wpAnyZ_take (i := 2) (oi := ⟨_, _, _, _, _, _⟩) (v := ?_) rfl (by kernel_rfl) (by kernel_rfl) (by kernel_rfl) (by kernel_rfl) (by kernel_rfl) (fun _ _ _ h => h) (Or.inl ⟨by rfl, ?_⟩) (by assumption) ?_
    rotate_left
    · intro W hSw
      (try dsimp only at hSw)
      go_simp
      (try with_reducible rfl)
    (try simp only [Act.put, List.setIfInBounds_toArray, List.set_cons_zero, List.set_cons_succ])
    refine wpAnyZ_ready (rs := [3]) (by kernel_rfl) (by simp) ?_
    refine AllReadyZ.cons (o := ⟨_, _, _, _, _, _⟩) rfl (fun C hC => ?_) AllReadyZ.nil
    go_simp
    refine (refCount_any u0 _ _ _ _ _ _ m.ad m.b.recs.length m.cap cnt HCNT.out).mono ?_
    rintro e u1 ⟨rfl, hbb⟩
    have HU1 := Lib.hid (HU.out.trans (hbb.mono HU.out.size))
    clear hbb
    go_wp2_with fail
    have hHeld : (fun (W : World) => W.cell? ⟨K, 0, none⟩ = some (.int .i64 m.b.base) ∧ W.cell? ⟨K, 1, none⟩ = some (.int .i64 m.b.prod) ∧ W.cell? ⟨K, 2, none⟩ = some (.int .i64 m.b.epoch) ∧ W.cell? ⟨K, 3, none⟩ = some (.int .i64 m.b.seq) ∧ W.cell? ⟨K, 4, none⟩ = some (.bool m.b.txn) ∧ W.cell? ⟨K, 5, none⟩ = some (.int .i64 m.b.marker) ∧ W.cell? ⟨K, 6, none⟩ = some (.slice m.ad m.b.recs.length m.cap)) u1 := KS.out _ HU1.out
    refine hC.out _ _ (fun _ => hHeld) (fun _ => ?_)
    clear hC C
    (try simp only [Act.put, List.setIfInBounds_toArray, List.set_cons_zero, List.set_cons_succ])
    refine wpAnyZ_take (i := 4) (oi := ⟨_, _, _, _, _, _⟩) (v := ?_) rfl (by kernel_rfl) (by kernel_rfl) (by kernel_rfl) (by kernel_rfl) (by kernel_rfl) (fun _ _ _ h => h) (Or.inl ⟨by rfl, ?_⟩) (by assumption) ?_
    rotate_left
    · intro W hSw
      (try dsimp only at hSw)
      go_simp
      (try with_reducible rfl)
    (try simp only [Act.put, List.setIfInBounds_toArray, List.set_cons_zero, List.set_cons_succ])
    refine wpAnyZ_take (i := 5) (oi := ⟨_, _, _, _, _, _⟩) (v := ?_) rfl (by kernel_rfl) (by kernel_rfl) (by kernel_rfl) (by kernel_rfl) (by kernel_rfl) (fun _ _ _ h => h) (Or.inl ⟨by rfl, ?_⟩) (by assumption) ?_
    rotate_left
    · intro W hSw
      (try dsimp only at hSw)
      go_simp
      (try with_reducible rfl)
    (try simp only [Act.put, List.setIfInBounds_toArray, List.set_cons_zero, List.set_cons_succ])
    refine wpAnyZ_done (by kernel_rfl) ?_ _
    refine NoPanic.normal ?_
    go_wp2
    go_ret
    exact says_mk (by first | rfl | exact HVV.out) (HB1.out.trans (HU1.out.mono HB1.out.size))
set_option maxRecDepth 100000 in
set_option maxHeartbeats 4000000 in
theorem modEnd_any (w : World) (km : Nat) (mc start : Int) (ad : Option Addr) (len cap : Nat) (ms : List BM) (hm : MBox w km mc start (.slice ad len cap)) (h : BatsAt w ad len cap ms) (hL : len ≤ 100000) (hok : RowOk (bats ms)) (v : Int) (hv : endD start (bats ms) = v) :
    Calls Try.prog 9 #[.pointer (some ⟨km, 0, none⟩)] w (Says v w) := by
  have HM := Lib.hid hm
  have H := Lib.hid h
  clear hm h
  go_enter Try.func9, Try.ntmps9
  go_upto_region 1 with fail
  have KS : Hid (∀ W, Below w.heap.size w W → (fun (W : World) => W.cell? ⟨km, 1, none⟩ = some (.int .i64 start) ∧ W.cell? ⟨km, 2, none⟩ = some (.slice ad len cap)) W) := by
    intro W hW
    have hX := HM.out.on hW
    exact ⟨hX.c1, hX.c2⟩
  have hdrw : Below w.heap.size w w.drew := (Below.refl _ w).drew
  refine wp_region_noPanic ?_
  refine wp_region_z [] (fun (W : World) => W.cell? ⟨km, 1, none⟩ = some (.int .i64 start) ∧ W.cell? ⟨km, 2, none⟩ = some (.slice ad len cap)) (by kernel_rfl) ?_
  have hHeld : (fun (W : World) => W.cell? ⟨km, 1, none⟩ = some (.int .i64 start) ∧ W.cell? ⟨km, 2, none⟩ = some (.slice ad len cap)) _ := KS.out _ hdrw
  obtain ⟨u0, hu0⟩ : ∃ u, u = w.drew := ⟨_, rfl⟩
  rw [← hu0] at hHeld hdrw
  rw [← hu0]
  clear hu0
  have HU := Lib.hid hdrw
  clear hdrw
  refine wpAnyZ_take (i := 0) (oi := ⟨_, _, _, _, _, _⟩) (v := ?_) rfl (by kernel_rfl) (by kernel_rfl) (by kernel_rfl) (by kernel_rfl) (by kernel_rfl) (fun _ _ _ h => h) (Or.inl ⟨by rfl, ?_⟩) (by assumption) ?_
  rotate_left
  · intro W hSw
    (try dsimp only at hSw)
    go_simp
    (try with_reducible rfl)
  (try simp only [Act.put, List.setIfInBounds_toArray, List.set_cons_zero, List.set_cons_succ])
  refine wpAnyZ_take (i := 1) (oi := ⟨_, _, _, _, _, _⟩) (v := ?_) rfl (by kernel_rfl) (by kernel_rfl) (by kernel_rfl) (by kernel_rfl) (by kernel_rfl) (fun _ _ _ h => h) (Or.inl ⟨by rfl, ?_⟩) (by assumption) ?_
  rotate_left
  · intro W hSw
    (try dsimp only at hSw)
    go_simp
    (try with_reducible rfl)
  (try simp only [Act.put, List.setIfInBounds_toArray, List.set_cons_zero, List.set_cons_succ])
  refine wpAnyZ_take (i := 2) (oi := ⟨_, _, _, _, _, _⟩) (v := ?_) rfl (by kernel_rfl) (by kernel_rfl) (by kernel_rfl) (by kernel_rfl) (by kernel_rfl) (fun _ _ _ h => h) (Or.inl ⟨by rfl, ?_⟩) (by assumption) ?_
  rotate_left
  · intro W hSw
    (try dsimp only at hSw)
    go_simp
    (try with_reducible rfl)
  (try simp only [Act.put, List.setIfInBounds_toArray, List.set_cons_zero, List.set_cons_succ])
  refine wpAnyZ_take (i := 3) (oi := ⟨_, _, _, _, _, _⟩) (v := ?_) rfl (by kernel_rfl) (by kernel_rfl) (by kernel_rfl) (by kernel_rfl) (by kernel_rfl) (fun _ _ _ h => h) (Or.inl ⟨by rfl, ?_⟩) (by assumption) ?_
  rotate_left
  · intro W hSw
    (try dsimp only at hSw)
    go_simp
    (try with_reducible rfl)
  (try simp only [Act.put, List.setIfInBounds_toArray, List.set_cons_zero, List.set_cons_succ])
  refine wpAnyZ_take (i := 4) (oi := ⟨_, _, _, _, _, _⟩) (v := ?_) rfl (by kernel_rfl) (by kernel_rfl) (by kernel_rfl) (by kernel_rfl) (by kernel_rfl) (fun _ _ _ h => h) (Or.inl ⟨by rfl, ?_⟩) (by assumption) ?_
  rotate_left
  · intro W hSw
    (try dsimp only at hSw)
    go_simp
    (try with_reducible rfl)
  (try simp only [Act.put, List.setIfInBounds_toArray, List.set_cons_zero, List.set_cons_succ])
  refine wpAnyZ_take (i := 5) (oi := ⟨_, _, _, _, _, _⟩) (v := ?_) rfl (by kernel_rfl) (by kernel_rfl) (by kernel_rfl) (by kernel_rfl) (by kernel_rfl) (fun _ _ _ h => h) (Or.inl ⟨by rfl, ?_⟩) (by assumption) ?_
  rotate_left
  · intro W hSw
    (try dsimp only at hSw)
    go_simp
    (try with_reducible rfl)
  (try simp only [Act.put, List.setIfInBounds_toArray, List.set_cons_zero, List.set_cons_succ])
  refine wpAnyZ_take (i := 6) (oi := ⟨_, _, _, _, _, _⟩) (v := ?_) rfl (by kernel_rfl) (by kernel_rfl) (by kernel_rfl) (by kernel_rfl) (by kernel_rfl) (fun _ _ _ h => h) (Or.inl ⟨by rfl, ?_⟩) (by assumption) ?_
  rotate_left
  · intro W hSw
    (try dsimp only at hSw)
    go_simp
    (try with_reducible rfl)
  (try simp only [Act.put, List.setIfInBounds_toArray, List.set_cons_zero, List.set_cons_succ])
  refine wpAnyZ_take (i := 7) (oi := ⟨_, _, _, _, _, _⟩) (v := ?_) rfl (by kernel_rfl) (by kernel_rfl) (by kernel_rfl) (by kernel_rfl) (by kernel_rfl) (fun _ _ _ h => h) (Or.inl ⟨by rfl, ?_⟩) (by assumption) ?_
  rotate_left
  · intro W hSw
    (try dsimp only at hSw)
    go_simp
    (try with_reducible rfl)
  (try simp only [Act.put, List.setIfInBounds_toArray, List.set_cons_zero, List.set_cons_succ])
  refine wpAnyZ_ready (rs := [8]) (by kernel_rfl) (by simp) ?_
  refine AllReadyZ.cons (o := ⟨_, _, _, _, _, _⟩) rfl (fun C hC => ?_) AllReadyZ.nil
  go_simp
  refine (refEnd_any u0 start ad len cap ms (H.out.keep HU.out) hL hok v hv).mono ?_
  rintro e u1 ⟨rfl, hbb⟩
  have HU1 := Lib.hid (HU.out.trans (hbb.mono HU.out.size))
  clear hbb
  go_wp2_with fail
  have hHeld : (fun (W : World) => W.cell? ⟨km, 1, none⟩ = some (.int .i64 start) ∧ W.cell? ⟨km, 2, none⟩ = some (.slice ad len cap)) u1 := KS.out _ HU1.out
  refine hC.out _ _ (fun _ => hHeld) (fun _ => ?_)
  clear hC C
  (try simp only [Act.put, List.setIfInBounds_toArray, List.set_cons_zero, List.set_cons_succ])
  refine wpAnyZ_take (i := 9) (oi := ⟨_, _, _, _, _, _⟩) (v := ?_) rfl (by kernel_rfl) (by kernel_rfl) (by kernel_rfl) (by kernel_rfl) (by kernel_rfl) (fun _ _ _ h => h) (Or.inl ⟨by rfl, ?_⟩) (by assumption) ?_
  rotate_left
  · intro W hSw
    (try dsimp only at hSw)
    go_simp
    (try with_reducible rfl)
  (try simp only [Act.put, List.setIfInBounds_toArray, List.set_cons_zero, List.set_cons_succ])
  refine wpAnyZ_done (by kernel_rfl) ?_ _
  refine NoPanic.normal ?_
  go_wp2
  go_ret
  exact says_mk rfl HU1.out
def SizeLoop (w : World) (bs : List Bat) (j : Nat) (v3 : Value) (wr : World) : Prop := v3 = .int .i64 (bytesD (bs.take j)) ∧ Below w.heap.size w wr
set_option maxRecDepth 100000 in
set_option maxHeartbeats 4000000 in
theorem modSize_any (w : World) (km : Nat) (mc start : Int) (ad : Option Addr) (len cap : Nat) (ms : List BM) (hm : MBox w km mc start (.slice ad len cap)) (h : BatsAt w ad len cap ms) (hL : len ≤ 100000) (hok : RowOk (bats ms)) (v : Int) (hv : bytesD (bats ms) = v) :
    Calls Try.prog 47 #[.pointer (some ⟨km, 0, none⟩)] w (Says v w) := by
  have H := Lib.hid h
  have hlen := h.row.length
  obtain ⟨bs, hbs⟩ : ∃ bs, bs = bats ms := ⟨_, rfl⟩
  have hbl : bs.length = len := by rw [hbs]; unfold bats; rw [List.length_map]; exact hlen
  have HGET : Hid (∀ (i : Nat) m, ms[i]? = some m → bs[i]? = some m.b) := by
    intro i m hm
    rw [hbs]; unfold bats
    rw [List.getElem?_map, hm]; rfl
  rw [← hbs] at hok hv
  have HOK := Lib.hid hok
  have HV := Lib.hid hv
  have m2 := hm.c2
  clear h hbs hlen hok hv hm
  go_enter Try.func47, Try.ntmps47
  go_wp2
  clear m2
  go_loopw [3, 11] (fun v3 v11 wr => ∃ j : Nat, v11 = .int .i64 (j : Int) ∧ j ≤ len ∧ SizeLoop w bs j v3 wr) (fun _ v11 _ => len - (intOf v11).toNat)
  case atStart => exact ⟨0, rfl, Nat.zero_le _, rfl, Below.refl _ _⟩
  case round =>
    obtain ⟨j, rfl, hj, rfl, hbel⟩ := hrel
    have HB := Lib.hid hbel
    clear hbel
    obtain ⟨wo, hwo⟩ : ∃ wo : World, wo = wr := ⟨_, rfl⟩
    subst hwo
    obtain ⟨x, hx⟩ : ∃ x, bytesD (bs.take j) = x := ⟨_, rfl⟩
    have hxb : 0 ≤ x ∧ x ≤ 240400000 := by
      have h1 := bytesD_bd (bs.take j)
      rw [hx, List.length_take] at h1
      omega
    obtain ⟨hx0, hx1⟩ := hxb
    rw [hx]
    have HX := Lib.hid hx
    clear hx
    by_cases hlt : j < len
    · have hd : decide (j < len) = true := decide_eq_true hlt
      have hjl : (j : Int) < (len : Int) := by omega
      obtain ⟨bk, off, m, rfl, hbk, hm, hrec, c0, c1, c2, c3, c4, c5, c6⟩ := (H.out.keep HB.out).get hlt
      have hbm := HGET.out j m hm
      have hmem := List.mem_of_getElem? hbm
      have hob := ok_of (HOK.out m.b hmem).1
      have HTX := Lib.hid (texts_of hob.texts)
      have hr16 := hob.recs
      have hpr := (HOK.out m.b hmem).2.prod.2
      obtain ⟨s, hs⟩ : ∃ s, sizeB m.b = s := ⟨_, rfl⟩
      have hsb : 0 ≤ s ∧ s ≤ 2404 := by rw [← hs]; exact size_bd _
      obtain ⟨hs0, hs1⟩ := hsb
      have HNX : Hid (bytesD (bs.take (j + 1)) = x + s) := by
        show _ = _
        rw [List.take_add_one, hbm]
        show bytesD (bs.take j ++ [m.b]) = _
        rw [bytesD_snoc, HX.out, hs]
      have HS := Lib.hid hs
      have HRC := Lib.hid hrec
      clear hbm hmem hob hs hm hrec hbk
      go_upto_region 5 with fail
      obtain ⟨W1, hW1⟩ : ∃ W1, W1 = wo.alloc (.cells #[.int .i64 m.b.base, .int .i64 m.b.prod, .int .i64 m.b.epoch, .int .i64 m.b.seq, .bool m.b.txn, .int .i64 m.b.marker, .slice m.ad m.b.recs.length m.cap] 33) := ⟨_, rfl⟩
      have hb1 : Below wo.heap.size wo W1 := by rw [hW1]; exact (Below.refl _ _).alloc (Nat.le_refl _) _
      obtain ⟨K, hK⟩ : ∃ K, K = wo.heap.size := ⟨_, rfl⟩
      have HX1 : Hid (BoxAt W1 K m.b.base m.b.prod m.b.epoch m.b.seq m.b.txn m.b.marker (.slice m.ad m.b.recs.length m.cap)) := by show BoxAt _ _ _ _ _ _ _ _ _; rw [hW1, hK]; exact boxAt_new wo _ _ _ _ _ _ _
      have HRC1 := Lib.hid (HRC.out.keep hb1)
      have HB1 := Lib.hid (HB.out.trans (hb1.mono HB.out.size))
      rw [← hW1, ← hK]
      clear hW1 hK hb1 c0 c1 c2 c3 c4 c5 c6 HB
      have p0 := HX1.out.c0
      have p1 := HX1.out.c1
      have p2 := HX1.out.c2
      have p3 := HX1.out.c3
      have p4 := HX1.out.c4
      have p5 := HX1.out.c5
      have p6 := HX1.out.c6
      go_wp2_with fail
      have CS := refSize_any W1 m.b m.ad m.b.recs.length m.cap HRC1.out HTX.out (by omega) hpr
      rw [HS.out] at CS
      refine CS.mono ?_
      clear CS
      rintro e w2 ⟨rfl, hb2⟩
      have HB2 := Lib.hid (HB1.out.trans (hb2.mono HB1.out.size))
      clear hb2 p0 p1 p2 p3 p4 p5 p6
      go_wp2
      go_roundw
      case rel => exact ⟨j + 1, by go_num, by omega, by rw [HNX.out], HB2.out⟩
      case measure => simp [intOf]; omega
    · have hd : decide (j < len) = false := decide_eq_false hlt
      have HE : Hid (x = v) := by show x = v; rw [← HX.out, List.take_of_length_le (by omega), HV.out]
      go_wp2
      go_ret
      exact says_mk HE.out HB.out
end Go.Proofs.Ytinilkkpocnnpaa
