/- Parts of a proof, merged: ModEnd, FoRec, PrMath, SnapMath, SnapMath2, SnapRow, AbMath, SeqAdd, SeqLast, SeqGap, SeqFollows, PrSmall, PrRight, AbSame. -/
import Derived.WalkKit
import Derived.IntWalk
import Derived.Lib.Hide
import Derived.Outline
import Derived.Laws.StructEq
import Derived.Test.YtipaebflkebdjaaKa3
import Derived.Test.YtipaebflkebdjaaKa1
import Derived.Test.YtipaebflkebdjaaKa6
import Derived.Test.YtipaebflkebdjaaKa5
namespace Go.Proofs.Ytipaebflkebdjaa
open Go.RowKit
open Go.SeqMath
open Go.ProdMath
open Go.BatMath hiding AllB getD_lt take_all
set_option linter.unusedVariables false

/-- A block that is a log without files. -/
def MBox (w : World) (km : Nat) (cap start : Int) (v : Value) : Prop := w.heap[km]? = some (.cells #[.int .i64 cap, .int .i64 start, v] 68 (0, 0))
section
variable {w w' : World} {km : Nat} {cap start : Int} {v : Value}
theorem MBox.c0 (h : MBox w km cap start v) : w.cell? ⟨km, 0, none⟩ = some (.int .i64 cap) := by rw [cell_of_row _ _ 0 _ _ _ h]; rfl
theorem MBox.c1 (h : MBox w km cap start v) : w.cell? ⟨km, 1, none⟩ = some (.int .i64 start) := by rw [cell_of_row _ _ 1 _ _ _ h]; rfl
theorem MBox.c2 (h : MBox w km cap start v) : w.cell? ⟨km, 2, none⟩ = some v := by rw [cell_of_row _ _ 2 _ _ _ h]; rfl
theorem MBox.free (h : MBox w km cap start v) (j : Nat) : w.frozen? ⟨km, j, none⟩ = false := frozen_of_row w km j _ _ h
theorem MBox.lt (h : MBox w km cap start v) : km < w.heap.size := lt_of_block h
theorem MBox.on (h : MBox w km cap start v) (hb : Below w.heap.size w w') : MBox w' km cap start v := by
 have hlt := h.lt
 unfold MBox at *
 rw [hb.block km hlt]
 exact h
theorem MBox.s2 (h : MBox w km cap start v) (u : Value) : MBox (w.setCell ⟨km, 2, none⟩ u) km cap start u := box_set h 2 _
theorem MBox.grown {r : Option Nat} (h : MBox w km cap start v) (hg : w.grownBy w' r) (hr : r ≠ some km) : MBox w' km cap start v := by
 have hlt := h.lt
 unfold MBox at *
 rw [hg.block km hlt (fun e => hr e.symm)]
 exact h
end
theorem batsOk_of {bs : List Bat} (h : RowOk bs) : BatsOk bs := fun b hb => by
 have h1 := ok_of (h b hb).1
 exact ⟨texts_of h1.texts, (h b hb).2.prod.2, by have := h1.recs; omega⟩
set_option maxRecDepth 100000 in
set_option maxHeartbeats 4000000 in
theorem refEnd_any (w : World) (start : Int) (ad : Option Addr) (len cap : Nat) (ms : List BM) (h : BatsAt w ad len cap ms) (hL : len ≤ 100000) (hok : RowOk (bats ms)) (v : Int) (hv : endD start (bats ms) = v) :
 Calls Try.prog 11 #[.int .i64 start, .slice ad len cap] w (Says v w) := by
 have hlen := h.row.length
 by_cases h0 : len = 0
 · subst h0
   obtain rfl : ms = [] := List.eq_nil_of_length_eq_zero hlen
   have HV : Hid (start = v) := hv
   clear h hv
   go_enter Try.func11, Try.ntmps11
   go_wp2
   go_ret
   exact says_mk HV.out (Below.refl _ _)
 · obtain ⟨bk, off, m, rfl, hbk, hm, hrec, c0, c1, c2, c3, c4, c5, c6⟩ := h.get (i := len - 1) (by omega)
   have hlast : (bats ms).getLast? = some m.b := by
    unfold bats
    rw [List.getLast?_eq_getElem?, List.length_map, hlen, List.getElem?_map, hm]; rfl
   have hmem : m.b ∈ bats ms := List.mem_of_mem_getLast? hlast
   have hob := ok_of (hok m.b hmem).1
   have h1 := hob.base0
   have h2 := hob.base1
   have h3 := hob.recs
   rw [end_last hlast] at hv
   obtain ⟨cnt, hcnt⟩ : ∃ cnt, (if m.b.marker ≠ 0 then 1 else (m.b.recs.length : Int)) = cnt := ⟨_, rfl⟩
   have hc2 : countD m.b = cnt := hcnt
   have hc3 : 0 ≤ cnt ∧ cnt ≤ 16 := by rw [← hcnt]; split <;> omega
   rw [hc2] at hv
   have HCNT := Lib.hid hcnt
   have hdl : decide ((len : Int) = 0) = false := decide_eq_false (by omega)
   have hdl2 : ((len : Int) == 0) = false := beq_false_of_ne (by omega)
   have hdl3 : (len == 0) = false := beq_false_of_ne h0
   have hw1 : wrap64 ((len : Int) - 1) = (len : Int) - 1 := by unfold wrap64; omega
   have hi1 : (1 : Int) ≤ (len : Int) := by omega
   have hi2 : (len : Int) - 1 < (len : Int) := by omega
   have hi3 : ((len : Int) - 1).toNat = len - 1 := by omega
   have HVV : Hid (m.b.base + cnt = v) := hv
   clear h hok hlast hmem hob h3 hc2 hcnt hm hrec hbk hlen hv
   go_enter Try.func11, Try.ntmps11
   go_upto_region 4 with fail
   obtain ⟨W1, hW1⟩ : ∃ W1, W1 = w.alloc (.cells #[.int .i64 m.b.base, .int .i64 m.b.prod, .int .i64 m.b.epoch, .int .i64 m.b.seq, .bool m.b.txn, .int .i64 m.b.marker, .slice m.ad m.b.recs.length m.cap] 52) := ⟨_, rfl⟩
   have HB1 : Hid (Below w.heap.size w W1) := by show Below _ _ _; rw [hW1]; exact (Below.refl _ _).alloc (Nat.le_refl _) _
   obtain ⟨K, hK⟩ : ∃ K, K = w.heap.size := ⟨_, rfl⟩
   have HX1 : Hid (BoxAt W1 K m.b.base m.b.prod m.b.epoch m.b.seq m.b.txn m.b.marker (.slice m.ad m.b.recs.length m.cap)) := by show BoxAt _ _ _ _ _ _ _ _ _; rw [hW1, hK]; exact boxAt_new w _ _ _ _ _ _ _
   rw [← hW1, ← hK]
   clear hW1 hK c0 c1 c2 c3 c4 c5 c6
   have KS : Hid (∀ W, Below W1.heap.size W1 W → (fun (W : World) => W.cell? ⟨K, 0, none⟩ = some (.int .i64 m.b.base) ∧ W.cell? ⟨K, 1, none⟩ = some (.int .i64 m.b.prod) ∧ W.cell? ⟨K, 2, none⟩ = some (.int .i64 m.b.epoch) ∧ W.cell? ⟨K, 3, none⟩ = some (.int .i64 m.b.seq) ∧ W.cell? ⟨K, 4, none⟩ = some (.bool m.b.txn) ∧ W.cell? ⟨K, 5, none⟩ = some (.int .i64 m.b.marker) ∧ W.cell? ⟨K, 6, none⟩ = some (.slice m.ad m.b.recs.length m.cap)) W) := by
    intro W hW
    have hX := HX1.out.on hW
    exact ⟨hX.c0, hX.c1, hX.c2, hX.c3, hX.c4, hX.c5, hX.c6⟩
   have hdrw : Below W1.heap.size W1 W1.drew := (Below.refl _ W1).drew
   have hwr : IntKind.i64.wrap (m.b.base + cnt) = v := by rw [HVV.out]; have := HVV.out; exact IntWalk.i64_in _ (by omega)
   refine wp_region_noPanic ?_
   refine wp_region_z [] (fun (W : World) => W.cell? ⟨K, 0, none⟩ = some (.int .i64 m.b.base) ∧ W.cell? ⟨K, 1, none⟩ = some (.int .i64 m.b.prod) ∧ W.cell? ⟨K, 2, none⟩ = some (.int .i64 m.b.epoch) ∧ W.cell? ⟨K, 3, none⟩ = some (.int .i64 m.b.seq) ∧ W.cell? ⟨K, 4, none⟩ = some (.bool m.b.txn) ∧ W.cell? ⟨K, 5, none⟩ = some (.int .i64 m.b.marker) ∧ W.cell? ⟨K, 6, none⟩ = some (.slice m.ad m.b.recs.length m.cap)) (by kernel_rfl) ?_
   have hHeld := KS.out _ hdrw
   obtain ⟨u0, hu0⟩ : ∃ u, u = W1.drew := ⟨_, rfl⟩
   rw [← hu0] at hHeld hdrw
   rw [← hu0]
   clear hu0
   have HU := Lib.hid hdrw
   clear hdrw
   refine zt 0 ?_
   refine zt 1 ?_
   refine zt 2 ?_
   refine zr 3 (fun C hC => ?_)
   go_simp
   refine (refCount_any u0 _ _ _ _ _ _ m.ad m.b.recs.length m.cap cnt HCNT.out).mono ?_
   rintro e u1 ⟨rfl, hbb⟩
   have HU1 := Lib.hid (HU.out.trans (hbb.mono HU.out.size))
   clear hbb
   go_wp2_with fail
   have hHeld := KS.out _ HU1.out
   refine zc hC hHeld ?_
   clear hC C
   refine zt 4 ?_
   refine zt 5 ?_
   refine wpAnyZ_done (by kernel_rfl) ?_ _
   refine NoPanic.normal ?_
   go_wp2
   go_ret
   exact says_mk (by first | rfl | exact HVV.out) (HB1.out.trans (HU1.out.mono HB1.out.size))
set_option maxRecDepth 100000 in
set_option maxHeartbeats 4000000 in
theorem modEnd_any (w : World) (km : Nat) (mc start : Int) (ad : Option Addr) (len cap : Nat) (ms : List BM) (hm : MBox w km mc start (.slice ad len cap)) (h : BatsAt w ad len cap ms) (hL : len ≤ 100000) (hok : RowOk (bats ms)) (v : Int) (hv : endD start (bats ms) = v) :
 Calls Try.prog 47 #[.pointer (some ⟨km, 0, none⟩)] w (Says v w) := by
 have HM := Lib.hid hm
 have H := Lib.hid h
 clear hm h
 go_enter Try.func47, Try.ntmps47
 go_upto_region 1 with fail
 have KS : Hid (∀ W, Below w.heap.size w W → (fun (W : World) => W.cell? ⟨km, 1, none⟩ = some (.int .i64 start) ∧ W.cell? ⟨km, 2, none⟩ = some (.slice ad len cap)) W) := by
  intro W hW
  have hX := HM.out.on hW
  exact ⟨hX.c1, hX.c2⟩
 have hdrw : Below w.heap.size w w.drew := (Below.refl _ w).drew
 refine wp_region_noPanic ?_
 refine wp_region_z [] (fun (W : World) => W.cell? ⟨km, 1, none⟩ = some (.int .i64 start) ∧ W.cell? ⟨km, 2, none⟩ = some (.slice ad len cap)) (by kernel_rfl) ?_
 have hHeld := KS.out _ hdrw
 obtain ⟨u0, hu0⟩ : ∃ u, u = w.drew := ⟨_, rfl⟩
 rw [← hu0] at hHeld hdrw
 rw [← hu0]
 clear hu0
 have HU := Lib.hid hdrw
 clear hdrw
 refine zt 0 ?_
 refine zt 1 ?_
 refine zt 2 ?_
 refine zt 3 ?_
 refine zt 4 ?_
 refine zt 5 ?_
 refine zt 6 ?_
 refine zt 7 ?_
 refine zr 8 (fun C hC => ?_)
 go_simp
 refine (refEnd_any u0 start ad len cap ms (H.out.keep HU.out) hL hok v hv).mono ?_
 rintro e u1 ⟨rfl, hbb⟩
 have HU1 := Lib.hid (HU.out.trans (hbb.mono HU.out.size))
 clear hbb
 go_wp2_with fail
 have hHeld := KS.out _ HU1.out
 refine zc hC hHeld ?_
 clear hC C
 refine zt 9 ?_
 refine wpAnyZ_done (by kernel_rfl) ?_ _
 refine NoPanic.normal ?_
 go_wp2
 go_ret
 exact says_mk rfl HU1.out
def SizeLoop (w : World) (bs : List Bat) (j : Nat) (v3 : Value) (wr : World) : Prop := v3 = .int .i64 (bytesD (bs.take j)) ∧ Below w.heap.size w wr
set_option maxRecDepth 100000 in
set_option maxHeartbeats 4000000 in
theorem modSize_any (w : World) (km : Nat) (mc start : Int) (ad : Option Addr) (len cap : Nat) (ms : List BM) (hm : MBox w km mc start (.slice ad len cap)) (h : BatsAt w ad len cap ms) (hL : len ≤ 100000) (hok : RowOk (bats ms)) (v : Int) (hv : bytesD (bats ms) = v) :
 Calls Try.prog 63 #[.pointer (some ⟨km, 0, none⟩)] w (Says v w) := by
 have H := Lib.hid h
 have hlen := h.row.length
 obtain ⟨bs, hbs⟩ : ∃ bs, bs = bats ms := ⟨_, rfl⟩
 have hbl : bs.length = len := by rw [hbs]; unfold bats; rw [List.length_map]; exact hlen
 have HGET : Hid (∀ (i : Nat) m, ms[i]? = some m → bs[i]? = some m.b) := by
  intro i m hm
  rw [hbs]; unfold bats
  rw [List.getElem?_map, hm]; rfl
 rw [← hbs] at hok hv
 have HOK := Lib.hid hok
 have HV := Lib.hid hv
 have m2 := hm.c2
 clear h hbs hlen hok hv hm
 go_enter Try.func63, Try.ntmps63
 go_wp2
 clear m2
 go_loopw [3, 11] (fun v3 v11 wr => ∃ j : Nat, v11 = .int .i64 (j : Int) ∧ j ≤ len ∧ SizeLoop w bs j v3 wr) (fun _ v11 _ => len - (intOf v11).toNat)
 case atStart => exact ⟨0, rfl, Nat.zero_le _, rfl, Below.refl _ _⟩
 case round =>
  obtain ⟨j, rfl, hj, rfl, hbel⟩ := hrel
  have HB := Lib.hid hbel
  clear hbel
  obtain ⟨wo, hwo⟩ : ∃ wo : World, wo = wr := ⟨_, rfl⟩
  subst hwo
  obtain ⟨x, hx⟩ : ∃ x, bytesD (bs.take j) = x := ⟨_, rfl⟩
  have hxb : 0 ≤ x ∧ x ≤ 240400000 := by
   have h1 := bytesD_bd (bs.take j)
   rw [hx, List.length_take] at h1
   omega
  obtain ⟨hx0, hx1⟩ := hxb
  rw [hx]
  have HX := Lib.hid hx
  clear hx
  by_cases hlt : j < len
  · have hd : decide (j < len) = true := decide_eq_true hlt
    have hjl : (j : Int) < (len : Int) := by omega
    obtain ⟨bk, off, m, rfl, hbk, hm, hrec, c0, c1, c2, c3, c4, c5, c6⟩ := (H.out.keep HB.out).get hlt
    have hbm := HGET.out j m hm
    have hmem := List.mem_of_getElem? hbm
    have hob := ok_of (HOK.out m.b hmem).1
    have HTX := Lib.hid (texts_of hob.texts)
    have hr16 := hob.recs
    have hpr := (HOK.out m.b hmem).2.prod.2
    obtain ⟨s, hs⟩ : ∃ s, sizeB m.b = s := ⟨_, rfl⟩
    have hsb : 0 ≤ s ∧ s ≤ 2404 := by rw [← hs]; exact size_bd _
    obtain ⟨hs0, hs1⟩ := hsb
    have HNX : Hid (bytesD (bs.take (j + 1)) = x + s) := by
     show _ = _
     rw [List.take_add_one, hbm]
     show bytesD (bs.take j ++ [m.b]) = _
     rw [bytesD_snoc, HX.out, hs]
    have HS := Lib.hid hs
    have HRC := Lib.hid hrec
    clear hbm hmem hob hs hm hrec hbk
    go_upto_region 5 with fail
    obtain ⟨W1, hW1⟩ : ∃ W1, W1 = wo.alloc (.cells #[.int .i64 m.b.base, .int .i64 m.b.prod, .int .i64 m.b.epoch, .int .i64 m.b.seq, .bool m.b.txn, .int .i64 m.b.marker, .slice m.ad m.b.recs.length m.cap] 52) := ⟨_, rfl⟩
    have hb1 : Below wo.heap.size wo W1 := by rw [hW1]; exact (Below.refl _ _).alloc (Nat.le_refl _) _
    obtain ⟨K, hK⟩ : ∃ K, K = wo.heap.size := ⟨_, rfl⟩
    have HX1 : Hid (BoxAt W1 K m.b.base m.b.prod m.b.epoch m.b.seq m.b.txn m.b.marker (.slice m.ad m.b.recs.length m.cap)) := by show BoxAt _ _ _ _ _ _ _ _ _; rw [hW1, hK]; exact boxAt_new wo _ _ _ _ _ _ _
    have HRC1 := Lib.hid (HRC.out.keep hb1)
    have HB1 := Lib.hid (HB.out.trans (hb1.mono HB.out.size))
    rw [← hW1, ← hK]
    clear hW1 hK hb1 c0 c1 c2 c3 c4 c5 c6 HB
    have p0 := HX1.out.c0
    have p1 := HX1.out.c1
    have p2 := HX1.out.c2
    have p3 := HX1.out.c3
    have p4 := HX1.out.c4
    have p5 := HX1.out.c5
    have p6 := HX1.out.c6
    go_wp2_with fail
    have CS := refSize_any W1 m.b m.ad m.b.recs.length m.cap HRC1.out HTX.out (by omega) hpr
    rw [HS.out] at CS
    refine CS.mono ?_
    clear CS
    rintro e w2 ⟨rfl, hb2⟩
    have HB2 := Lib.hid (HB1.out.trans (hb2.mono HB1.out.size))
    clear hb2 p0 p1 p2 p3 p4 p5 p6
    go_wp2
    go_roundw
    case rel => exact ⟨j + 1, by go_num, by omega, by rw [HNX.out], HB2.out⟩
    case measure => simp [intOf]; omega
  · have hd : decide (j < len) = false := decide_eq_false hlt
    have HE : Hid (x = v) := by show x = v; rw [← HX.out, List.take_of_length_le (by omega), HV.out]
    go_wp2
    go_ret
    exact says_mk HE.out HB.out
end Go.Proofs.Ytipaebflkebdjaa
namespace Go.Proofs.Ytipaebflkebdjaa
open Go.RowKit
open Go.FoMath
open Go.ProdMath
open Go.BatMath hiding AllB getD_lt take_all
set_option linter.unusedVariables false

theorem infoGt : (Try.prog.info? 61).map (fun i => (i.zero, i.size, i.bytes)) = some (some (.agg #[.int .i64 0, .int .i64 0, .string ⟨#[]⟩, .string ⟨#[]⟩]), 4, 48) := by kernel_rfl
def gtK : Kind Gt := ⟨fun g => [.int .i64 g.off, .int .i64 g.prod, .string g.rc.key, .string g.rc.val], 4, 61, 31⟩
theorem gtK_ok : gtK.Ok 48 where
 und := Try.underlying31
 info := by
  obtain ⟨i, hi, hz, hs, hb⟩ := info_parts infoGt
  exact ⟨i, _, hi, hz, hs, hb, rfl⟩
 len := fun _ => rfl
 pos := by decide
 one := fun r u hu => by
  simp only [gtK, List.mem_cons, List.not_mem_nil, or_false] at hu
  rcases hu with rfl | rfl | rfl | rfl <;> rfl
 few := by decide
structure GtAt (W : World) (b o : Nat) (x : Gt) : Prop where
 c0 : W.cell? ⟨b, o, none⟩ = some (.int .i64 x.off)
 c1 : W.cell? ⟨b, o + 1, none⟩ = some (.int .i64 x.prod)
 c2 : W.cell? ⟨b, o + 2, none⟩ = some (.string x.rc.key)
 c3 : W.cell? ⟨b, o + 3, none⟩ = some (.string x.rc.val)
theorem gt_get {w : World} {ad : Option Addr} {len cap : Nat} {l : List Gt} (h : RowAt gtK w ad len cap l) {i : Nat} (hi : i < len) : ∃ b off x, ad = some ⟨b, off, none⟩ ∧ b < w.heap.size ∧ l[i]? = some x ∧ GtAt w b (off + i * 4) x := by
 obtain ⟨b, off, x, e, hb, hx, hc⟩ := h.get hi
 exact ⟨b, off, x, e, hb, hx, hc 0 _ rfl, hc 1 _ rfl, hc 2 _ rfl, hc 3 _ rfl⟩
theorem rc_get {w : World} {ad : Option Addr} {len cap : Nat} {l : List Rc} (h : RecsAt w ad len cap l) {i : Nat} (hi : i < len) : ∃ b off x, ad = some ⟨b, off, none⟩ ∧ b < w.heap.size ∧ l[i]? = some x ∧ w.cell? ⟨b, off + i * 2, none⟩ = some (.string x.key) ∧ w.cell? ⟨b, off + i * 2 + 1, none⟩ = some (.string x.val) := by
 obtain ⟨b, off, x, e, hb, hx, hc⟩ := (recsAt_row.1 h).get hi
 exact ⟨b, off, x, e, hb, hx, hc 0 _ rfl, hc 1 _ rfl⟩
/-- A row of records, in new memory. -/
def GivesGots (w : World) (l : List Gt) (e : Ending) (w' : World) : Prop :=
 ∃ ad n cap, e = .returned (.slice ad n cap) ∧ RowAt gtK w' ad n cap l ∧ (∀ a, ad = some a → w.heap.size ≤ a.block ∧ a.block < w'.heap.size) ∧ Below w.heap.size w w'
/-- The first i records of a batch. -/
def partG (b : Bat) (i : Nat) (a z : Int) : List Gt := if b.marker = 0 then (recsG b.prod b.base (b.recs.take i)).filter (fun g => decide (a ≤ g.off ∧ g.off < z)) else []
theorem recsG_take {p : Int} : ∀ {l : List Rc} {i : Nat} {r : Rc} (n : Int), l[i]? = some r → recsG p n (l.take (i + 1)) = recsG p n (l.take i) ++ [⟨n + (i : Int), p, r⟩]
 | [], i, r, n, h => by cases h
 | x :: l, 0, r, n, h => by
   cases h
   show [(⟨n, p, x⟩ : Gt)] = [] ++ [⟨n + 0, p, x⟩]
   rw [Int.add_zero]
   rfl
 | x :: l, i + 1, r, n, h => by
   have ih := recsG_take (p := p) (l := l) (i := i) (n + 1) h
   show (⟨n, p, x⟩ : Gt) :: recsG p (n + 1) (l.take (i + 1)) = (⟨n, p, x⟩ :: recsG p (n + 1) (l.take i)) ++ [⟨n + ((i + 1 : Nat) : Int), p, r⟩]
   rw [ih]
   have : n + 1 + (i : Int) = n + ((i + 1 : Nat) : Int) := by omega
   rw [this]
   rfl
theorem partG_zero (b : Bat) (a z : Int) : partG b 0 a z = [] := by unfold partG; split <;> rfl
theorem partG_all (b : Bat) (a z : Int) : partG b b.recs.length a z = batG b a z := by unfold partG batG; rw [List.take_length]
theorem partG_yes {b : Bat} {i : Nat} {a z : Int} {r : Rc} (h : b.recs[i]? = some r) (hm : b.marker = 0) (h1 : a ≤ b.base + (i : Int)) (h2 : b.base + (i : Int) < z) : partG b (i + 1) a z = partG b i a z ++ [⟨b.base + (i : Int), b.prod, r⟩] := by
 unfold partG
 rw [if_pos hm, if_pos hm, recsG_take b.base h, List.filter_append]
 congr 1
 simp [h1, h2]
theorem partG_no {b : Bat} {i : Nat} {a z : Int} {r : Rc} (h : b.recs[i]? = some r) (hn : b.marker ≠ 0 ∨ b.base + (i : Int) < a ∨ z ≤ b.base + (i : Int)) : partG b (i + 1) a z = partG b i a z := by
 unfold partG
 by_cases hm : b.marker = 0
 · rw [if_pos hm, if_pos hm, recsG_take b.base h, List.filter_append]
   have : ([(⟨b.base + (i : Int), b.prod, r⟩ : Gt)]).filter (fun g => decide (a ≤ g.off ∧ g.off < z)) = [] := by
    rw [List.filter_cons_of_neg]
    · rfl
    · intro h
      have h3 := of_decide_eq_true h
      simp only at h3
      rcases hn with h4 | h4 | h4
      · exact h4 hm
      · omega
      · omega
   rw [this, List.append_nil]
 · rw [if_neg hm, if_neg hm]
theorem partG_len (b : Bat) (i : Nat) (a z : Int) : (partG b i a z).length ≤ i := by
 unfold partG
 split
 · refine Nat.le_trans (List.length_filter_le _ _) ?_
   have h1 : ∀ (p n : Int) (l : List Rc), (recsG p n l).length = l.length := fun p n l => by
    induction l generalizing n with
    | nil => rfl
    | cons x l ih => show _ + 1 = _ + 1; rw [ih]
   rw [h1, List.length_take]
   omega
 · exact Nat.zero_le _
theorem recordsD_snoc : ∀ (l : List Bat) (b : Bat) (a z : Int), recordsD (l ++ [b]) a z = recordsD l a z ++ batG b a z
 | [], b, a, z => by show batG b a z ++ [] = [] ++ batG b a z; rw [List.append_nil]; rfl
 | c :: l, b, a, z => by
   show batG c a z ++ recordsD (l ++ [b]) a z = batG c a z ++ recordsD l a z ++ batG b a z
   rw [recordsD_snoc l b a z, List.append_assoc]
theorem recordsD_few {a z : Int} : ∀ {l : List Bat}, (∀ b ∈ l, b.recs.length ≤ 16) → (recordsD l a z).length ≤ 16 * l.length
 | [], _ => Nat.le_refl _
 | b :: l, h => by
   have h1 := partG_len b b.recs.length a z
   rw [partG_all] at h1
   have h2 := recordsD_few (a := a) (z := z) (l := l) (fun c hc => h c (by simp [hc]))
   have h3 := h b (by simp)
   show (batG b a z ++ recordsD l a z).length ≤ _
   rw [List.length_append, List.length_cons]
   omega
/-- What Records asks of a batch. -/
def GotsOk (bs : List Bat) : Prop := ∀ b ∈ bs, 0 ≤ b.base ∧ b.base ≤ 1099511627776 ∧ b.recs.length ≤ 16
set_option maxRecDepth 100000 in
set_option maxHeartbeats 8000000 in
theorem refRecords_any (w : World) (ad : Option Addr) (len cap : Nat) (ms : List BM) (h : BatsAt w ad len cap ms) (hL : len ≤ 5000) (hok : GotsOk (bats ms)) (fr t0 : Int) :
 Calls Try.prog 33 #[.slice ad len cap, .int .i64 fr, .int .i64 t0] w (GivesGots w (recordsD (bats ms) fr t0)) := by
 have H := Lib.hid h
 have hlen := h.row.length
 obtain ⟨bs, hbs⟩ : ∃ bs, bs = bats ms := ⟨_, rfl⟩
 have hbl : bs.length = len := by rw [hbs]; unfold bats; rw [List.length_map]; exact hlen
 have HGET : Hid (∀ (i : Nat) m, ms[i]? = some m → bs[i]? = some m.b) := by
  intro i m hm
  rw [hbs]; unfold bats
  rw [List.getElem?_map, hm]; rfl
 rw [← hbs] at hok ⊢
 have HOK := Lib.hid hok
 have HBL := Lib.hid hbl
 clear h hbs hlen hok hbl
 go_enter Try.func33, Try.ntmps33
 go_wp2
 go_loopw [7, 15] (fun v7 v15 wr => ∃ (j : Nat) (u : Value), u = v7 ∧ v15 = .int .i64 (j : Int) ∧ j ≤ len ∧ Hid (OwnRow gtK wr w.heap.size u (recordsD (bs.take j) fr t0)) ∧ Hid (Below w.heap.size w wr)) (fun _ v15 _ => len - (intOf v15).toNat)
 case atStart => exact ⟨0, _, rfl, rfl, Nat.zero_le _, ownRow_nil _ _ _, Below.refl _ _⟩
 case round =>
  obtain ⟨j, u, rfl, rfl, hj, HO, HB⟩ := hrel
  obtain ⟨wo, hwo⟩ : ∃ wo : World, wo = wr := ⟨_, rfl⟩
  subst hwo
  by_cases hlt : j < len
  · have hd : decide (j < len) = true := decide_eq_true hlt
    have hjl : (j : Int) < (len : Int) := by omega
    obtain ⟨bk, off, m, rfl, hbk, hm, hrec, c0, c1, c2, c3, c4, c5, c6⟩ := (H.out.keep HB.out).get hlt
    have hbm := HGET.out j m hm
    obtain ⟨hb0, hb1, hrl⟩ := HOK.out m.b (List.mem_of_getElem? hbm)
    have HTK : Hid (recordsD (bs.take (j + 1)) fr t0 = recordsD (bs.take j) fr t0 ++ batG m.b fr t0) := by show _ = _; rw [List.take_add_one, hbm, Option.toList_some, recordsD_snoc]
    have HACC : Hid ((recordsD (bs.take j) fr t0).length ≤ 80000) := by
     show _ ≤ _
     have h1 := recordsD_few (a := fr) (z := t0) (l := bs.take j) (fun b hb => (HOK.out b (List.mem_of_mem_take hb)).2.2)
     rw [List.length_take] at h1
     omega
    have HRC : Hid (RecsAt w m.ad m.b.recs.length m.cap m.b.recs) := H.out.ins m (List.mem_of_getElem? hm)
    obtain ⟨⟨b0, b1, b2, b3, b4, b5, recs⟩, rd, rc⟩ := m
    simp only at c0 c1 c2 c3 c4 c5 c6 hb0 hb1 hrl HTK HRC
    obtain ⟨rn, hrn⟩ : ∃ n, recs.length = n := ⟨_, rfl⟩
    rw [hrn] at c6 hrl HRC
    have HRN := Lib.hid hrn
    clear hbm hm hrec hbk hrn
    go_upto_region 5 with fail
    obtain ⟨W1, hW1⟩ : ∃ W1, W1 = wo.alloc (.cells #[.int .i64 b0, .int .i64 b1, .int .i64 b2, .int .i64 b3, .bool b4, .int .i64 b5, .slice rd rn rc] 52) := ⟨_, rfl⟩
    have hb1' : Below wo.heap.size wo W1 := by rw [hW1]; exact (Below.refl _ _).alloc (Nat.le_refl _) _
    obtain ⟨K, hK⟩ : ∃ K, K = wo.heap.size := ⟨_, rfl⟩
    have HX1 : Hid (BoxAt W1 K b0 b1 b2 b3 b4 b5 (.slice rd rn rc)) := by show BoxAt _ _ _ _ _ _ _ _ _; rw [hW1, hK]; exact boxAt_new wo _ _ _ _ _ _ _
    have HO1 := Lib.hid (HO.out.on hb1')
    have HB1 := Lib.hid (HB.out.trans (hb1'.mono HB.out.size))
    have HKW : Hid (w.heap.size ≤ K) := by show _ ≤ _; rw [hK]; exact HB.out.size
    have HUK : Hid (∀ q, u.ownBlock = some q → q < K) := fun q hq => by have := (HO.out.lt q hq).2; rw [hK]; exact this
    have HKK : Hid (K < W1.heap.size) := HX1.out.lt
    rw [← hW1, ← hK]
    clear hW1 hb1' hK c0 c1 c2 c3 c4 c5 c6
    have x6 := HX1.out.c6
    go_wp2
    clear x6
    go_loopw [7, 22] (fun v7 v22 wr => ∃ (i : Nat) (v : Value), v = v7 ∧ v22 = .int .i64 (i : Int) ∧ i ≤ rn ∧ Hid (OwnRow gtK wr w.heap.size v (recordsD (bs.take j) fr t0 ++ partG ⟨b0, b1, b2, b3, b4, b5, recs⟩ i fr t0)) ∧ Hid (∀ q, v.ownBlock = some q → q ≠ K) ∧ Hid (BoxAt wr K b0 b1 b2 b3 b4 b5 (.slice rd rn rc)) ∧ Hid (Below w.heap.size w wr)) (fun _ v22 _ => rn - (intOf v22).toNat)
    case atStart =>
     refine ⟨0, _, rfl, rfl, Nat.zero_le _, ?_, ?_, HX1.out, HB1.out⟩
     · show OwnRow _ _ _ _ _
       rw [partG_zero, List.append_nil]
       exact HO1.out
     · exact fun q hq => Nat.ne_of_lt (HUK.out q hq)
    case round =>
     obtain ⟨i, v, rfl, rfl, hi, HV, HNK, HX, HBB⟩ := hrel
     clear HO1 HX1 HB1
     obtain ⟨wi, hwi⟩ : ∃ wi : World, wi = wr := ⟨_, rfl⟩
     subst hwi
     by_cases hit : i < rn
     · have hdi : decide (i < rn) = true := decide_eq_true hit
       have hil : (i : Int) < (rn : Int) := by omega
       obtain ⟨rb, ro, r, el, hrb, hri, k0, k1⟩ := rc_get (HRC.out.keep HBB.out) hit
       subst el
       have HRI := Lib.hid hri
       obtain ⟨n, hn⟩ : ∃ n : Int, n = b0 + (i : Int) := ⟨_, rfl⟩
       have HN := Lib.hid hn
       clear hri hn
       obtain ⟨rk, rv⟩ := r
       simp only at k0 k1
       go_upto_region 8 with fail
       obtain ⟨W2, hW2⟩ : ∃ y, y = wi.alloc (.cells #[.string rk, .string rv] 59) := ⟨_, rfl⟩
       obtain ⟨Q, hQ⟩ : ∃ y, y = wi.heap.size := ⟨_, rfl⟩
       have hb2 : Below wi.heap.size wi W2 := by rw [hW2]; exact (Below.refl _ _).alloc (Nat.le_refl _) _
       have HRX : Hid (W2.heap[Q]? = some (.cells #[.string rk, .string rv] 59 (0, 0))) := by show _ = _; rw [hW2, hQ]; exact heap_alloc_new wi _
       have HX2 := Lib.hid (HX.out.on hb2)
       have HV2 := Lib.hid (HV.out.on hb2)
       have HB2 := Lib.hid (HBB.out.trans (hb2.mono HBB.out.size))
       (try rw [← hW2, ← hQ])
       clear hW2 hQ hb2 k0 k1 HX HV HBB hrb
       have x0 := HX2.out.c0
       have x1 := HX2.out.c1
       have x5 := HX2.out.c5
       have s0 : W2.cell? ⟨Q, 0, none⟩ = some (.string rk) := by rw [cell_of_row _ _ 0 _ _ _ HRX.out]; rfl
       have s1 : W2.cell? ⟨Q, 1, none⟩ = some (.string rv) := by rw [cell_of_row _ _ 1 _ _ _ HRX.out]; rfl
       go_upto_region 9 with fail
       rw [← HN.out]
       have hcs : (b5 ≠ 0) ∨ (b5 = 0 ∧ ¬ fr ≤ n) ∨ (b5 = 0 ∧ fr ≤ n ∧ ¬ n < t0) ∨ (b5 = 0 ∧ fr ≤ n ∧ n < t0) := by omega
       rcases hcs with h5 | ⟨h5, h6⟩ | ⟨h5, h6, h7⟩ | ⟨h5, h6, h7⟩
       · have hd5 : (b5 == 0) = false := beq_false_of_ne h5
         have HP : Hid (partG ⟨b0, b1, b2, b3, b4, b5, recs⟩ (i + 1) fr t0 = partG ⟨b0, b1, b2, b3, b4, b5, recs⟩ i fr t0) := partG_no HRI.out (.inl h5)
         clear h5
         go_wp2
         go_roundw
         case rel => exact ⟨i + 1, v, rfl, rfl, hit, by rw [HP.out]; exact HV2.out, HNK.out, HX2.out, HB2.out⟩
         case measure => simp [intOf]; omega
       · have hd5 : (b5 == 0) = true := by rw [h5]; rfl
         have hd6 : decide (fr ≤ n) = false := decide_eq_false h6
         have HP : Hid (partG ⟨b0, b1, b2, b3, b4, b5, recs⟩ (i + 1) fr t0 = partG ⟨b0, b1, b2, b3, b4, b5, recs⟩ i fr t0) := partG_no HRI.out (.inr (.inl (by have := HN.out; simp only; omega)))
         clear h5 h6
         go_wp2
         go_roundw
         case rel => exact ⟨i + 1, v, rfl, rfl, hit, by rw [HP.out]; exact HV2.out, HNK.out, HX2.out, HB2.out⟩
         case measure => simp [intOf]; omega
       · have hd5 : (b5 == 0) = true := by rw [h5]; rfl
         have hd6 : decide (fr ≤ n) = true := decide_eq_true h6
         have hd7 : decide (n < t0) = false := decide_eq_false h7
         have HP : Hid (partG ⟨b0, b1, b2, b3, b4, b5, recs⟩ (i + 1) fr t0 = partG ⟨b0, b1, b2, b3, b4, b5, recs⟩ i fr t0) := partG_no HRI.out (.inr (.inr (by have := HN.out; simp only; omega)))
         clear h5 h6 h7
         go_wp2
         go_roundw
         case rel => exact ⟨i + 1, v, rfl, rfl, hit, by rw [HP.out]; exact HV2.out, HNK.out, HX2.out, HB2.out⟩
         case measure => simp [intOf]; omega
       · have hd5 : (b5 == 0) = true := by rw [h5]; rfl
         have hd6 : decide (fr ≤ n) = true := decide_eq_true h6
         have hd7 : decide (n < t0) = true := decide_eq_true h7
         have HP : Hid (partG ⟨b0, b1, b2, b3, b4, b5, recs⟩ (i + 1) fr t0 = partG ⟨b0, b1, b2, b3, b4, b5, recs⟩ i fr t0 ++ [⟨n, b1, ⟨rk, rv⟩⟩]) := by
          show _ = _
          rw [HN.out]
          exact partG_yes HRI.out h5 (by have := HN.out; simp only; omega) (by have := HN.out; simp only; omega)
         have HPL : Hid ((recordsD (bs.take j) fr t0 ++ partG ⟨b0, b1, b2, b3, b4, b5, recs⟩ i fr t0).length ≤ 90000) := by
          show _ ≤ _
          have h1 := partG_len ⟨b0, b1, b2, b3, b4, b5, recs⟩ i fr t0
          have h2 := HACC.out
          rw [List.length_append]
          omega
         clear h5 h6 h7
         obtain ⟨W3, hW3⟩ : ∃ y, y = W2.alloc (.cells #[.int .i64 n, .int .i64 b1, .string rk, .string rv] 61) := ⟨_, rfl⟩
         have hb3 : Below W2.heap.size W2 W3 := by rw [hW3]; exact (Below.refl _ _).alloc (Nat.le_refl _) _
         have HLIT : Hid (RowAt gtK W3 (some ⟨W2.heap.size, 0, none⟩) 1 1 [⟨n, b1, ⟨rk, rv⟩⟩]) := by
          show RowAt _ _ _ _ _ _
          rw [hW3]
          exact rowAt_lit gtK_ok W2 [⟨n, b1, ⟨rk, rv⟩⟩] (by simp) _ rfl 1 rfl
         have HX3 := Lib.hid (HX2.out.on hb3)
         have HV3 := Lib.hid (HV2.out.on hb3)
         have HB3 := Lib.hid (HB2.out.trans (hb3.mono HB2.out.size))
         have HW3 := Lib.hid hW3
         clear hb3 hW3
         go_wp2_with (at_builtin; rw [← HW3.out]; refine list_row (by rfl) gtK_ok (.tmp 44) (.tmp 50) rfl w.heap.size (recordsD (bs.take j) fr t0 ++ partG ⟨b0, b1, b2, b3, b4, b5, recs⟩ i fr t0) [⟨n, b1, ⟨rk, rv⟩⟩] v rfl HV3.out HB3.out.size (some ⟨W2.heap.size, 0, none⟩) 1 1 rfl HLIT.out (by have := HPL.out; omega) ?_)
         intro v4 w4 hap
         have HV4 : Hid (OwnRow gtK w4 w.heap.size v4 (recordsD (bs.take j) fr t0 ++ partG ⟨b0, b1, b2, b3, b4, b5, recs⟩ (i + 1) fr t0)) := by
          show OwnRow _ _ _ _ _
          rw [HP.out]
          exact hap.1
         have HX4 : Hid (BoxAt w4 K b0 b1 b2 b3 b4 b5 (.slice (some ⟨rb, ro, none⟩) rn rc)) := (hap.2.1.block K HX3.out.lt (fun e => HNK.out K e.symm rfl)).trans HX3.out
         have HN4 : Hid (∀ q, v4.ownBlock = some q → q ≠ K) := fun q hq => by
          rcases hap.2.2.2 q hq with h1 | h1
          · exact HNK.out q h1
          · have := HX3.out.lt; omega
         have HB4 : Hid (Below w.heap.size w w4) := HB3.out.grown hap.2.1 HB3.out.size (fun q hq => (HV3.out.lt q hq).1)
         clear hap HV3 HX3 HB3 HLIT HW3 HV2 HX2 HB2 HRX x0 x1 x5 s0 s1
         go_wp2
         go_roundw
         case rel => exact ⟨i + 1, v4, rfl, rfl, hit, HV4.out, HN4.out, HX4.out, HB4.out⟩
         case measure => simp [intOf]; omega
     · have hdi : decide (i < rn) = false := decide_eq_false hit
       have hir : i = rn := by omega
       have HO2 : Hid (OwnRow gtK wi w.heap.size v (recordsD (bs.take (j + 1)) fr t0)) := by
        have h1 := HV.out
        rw [hir, ← HRN.out, partG_all, ← HTK.out] at h1
        exact h1
       clear hir
       go_wp2
       go_roundw
       case rel => exact ⟨j + 1, v, rfl, rfl, hlt, HO2.out, HBB.out⟩
       case measure => simp [intOf]; omega
  · have hd : decide (j < len) = false := decide_eq_false hlt
    have hjl : j = len := by omega
    have HFIN : Hid (OwnRow gtK wo w.heap.size u (recordsD bs fr t0)) := by
     have h1 := HO.out
     rw [hjl, ← HBL.out, List.take_length] at h1
     exact h1
    clear hjl
    go_wp2
    go_ret
    obtain ⟨ad, cap, hv, hr, hk⟩ := OwnRow.at gtK_ok HFIN.out
    exact ⟨ad, _, cap, congrArg Ending.returned hv, hr, hk, HB.out⟩
end Go.Proofs.Ytipaebflkebdjaa
namespace Go.ProdMath
open Go.SeqMath
open Go.BatMath
set_option linter.unusedVariables false

def TrOk (x : Tr) : Prop := 0 ≤ gapI x.f x.l ∧ gapI x.f x.l < 16 ∧ 0 ≤ x.b ∧ x.b ≤ 1099511627776
def TrNext (y x : Tr) : Prop := y.b < x.b ∧ followsB y.l x.f = true
def StepOk (l : List Tr) (j : Nat) : Prop := ∀ x, l[j]? = some x → TrOk x ∧ ∀ y, 0 < j → l[j - 1]? = some y → TrNext y x
def RightP (p : Pd) : Prop := (0 ≤ p.id ∧ 0 ≤ p.epoch ∧ p.epoch ≤ 32767 ∧ -1 ≤ p.opn ∧ p.opn ≤ 1099511627776 ∧ p.last.length ≤ 5) ∧ ∀ j, StepOk p.last j
/-! rows of batches that follow one another -/
end Go.ProdMath
namespace Go.SnapMath
open Go.ProdMath
open Go.BatMath (In64)
open Go.VarMath (encN getB getB_encN enc_len enc_all zig zig_lt encU AllB)
set_option linter.unusedVariables false

theorem encN_len {n : Int} (h : In64 n) : 1 ≤ (encN n).length ∧ (encN n).length ≤ 10 := enc_len (zig_lt h.1 h.2)
theorem encN_all {n : Int} (h : In64 n) : AllB (encN n) := enc_all (zig_lt h.1 h.2)
def trS (x : Tr) : List Nat := encN x.f ++ (encN x.l ++ encN x.b)
def trsS : List Tr → List Nat
 | [] => []
 | x :: l => trS x ++ trsS l
def pdS (p : Pd) : List Nat := encN p.id ++ (encN p.epoch ++ (encN p.opn ++ (encN (p.last.length : Int) ++ trsS p.last)))
def pdsS : List Pd → List Nat
 | [] => []
 | p :: l => pdS p ++ pdsS l
def bodyS (l : List Pd) (n : Int) : List Nat := encN n ++ (encN (l.length : Int) ++ pdsS l)
def snapS (l : List Pd) (n : Int) : List Nat := CrcMath.sealB (bodyS l n)
def TrIn (x : Tr) : Prop := In64 x.f ∧ In64 x.l ∧ In64 x.b
def PdIn (p : Pd) : Prop := In64 p.id ∧ In64 p.epoch ∧ In64 p.opn ∧ p.last.length ≤ 1000000 ∧ ∀ x ∈ p.last, TrIn x
def PdsIn (l : List Pd) : Prop := l.length ≤ 1000000 ∧ ∀ p ∈ l, PdIn p
theorem in_nat {n : Nat} (h : n ≤ 1000000) : In64 (n : Int) := ⟨by omega, by omega⟩
theorem trS_all {x : Tr} (h : TrIn x) : AllB (trS x) := fun y hy => by
 unfold trS at hy
 rcases List.mem_append.1 hy with hy | hy
 · exact encN_all h.1 y hy
 · rcases List.mem_append.1 hy with hy | hy
   · exact encN_all h.2.1 y hy
   · exact encN_all h.2.2 y hy
theorem trsS_all : ∀ {l : List Tr} (h : ∀ x ∈ l, TrIn x), AllB (trsS l)
 | [], _, y, hy => by cases hy
 | x :: l, h, y, hy => by
   rcases List.mem_append.1 (show y ∈ trS x ++ trsS l from hy) with hy | hy
   · exact trS_all (h x (by simp)) y hy
   · exact trsS_all (fun z hz => h z (by simp [hz])) y hy
theorem pdS_all {p : Pd} (h : PdIn p) : AllB (pdS p) := fun y hy => by
 unfold pdS at hy
 obtain ⟨h1, h2, h3, h4, h5⟩ := h
 rcases List.mem_append.1 hy with hy | hy
 · exact encN_all h1 y hy
 rcases List.mem_append.1 hy with hy | hy
 · exact encN_all h2 y hy
 rcases List.mem_append.1 hy with hy | hy
 · exact encN_all h3 y hy
 rcases List.mem_append.1 hy with hy | hy
 · exact encN_all (in_nat h4) y hy
 · exact trsS_all h5 y hy
theorem pdsS_all : ∀ {l : List Pd} (h : ∀ p ∈ l, PdIn p), AllB (pdsS l)
 | [], _, y, hy => by cases hy
 | x :: l, h, y, hy => by
   rcases List.mem_append.1 (show y ∈ pdS x ++ pdsS l from hy) with hy | hy
   · exact pdS_all (h x (by simp)) y hy
   · exact pdsS_all (fun z hz => h z (by simp [hz])) y hy
theorem bodyS_all {l : List Pd} {n : Int} (h : PdsIn l) (hn : In64 n) : AllB (bodyS l n) := fun y hy => by
 unfold bodyS at hy
 rcases List.mem_append.1 hy with hy | hy
 · exact encN_all hn y hy
 rcases List.mem_append.1 hy with hy | hy
 · exact encN_all (in_nat h.1) y hy
 · exact pdsS_all h.2 y hy
end Go.SnapMath
namespace Go.SnapMath
open Go.ProdMath
open Go.BatMath (In64)
open Go.VarMath (encN getB getB_encN AllB)
set_option linter.unusedVariables false

/-- One step: the number, what is left, whether it fell. -/
def rdN (bs : List Nat) (fell : Bool) : Int × List Nat × Bool := if fell = true ∨ (getB bs).2 = 0 then (0, bs, true) else ((getB bs).1, bs.drop (getB bs).2, false)
theorem rdN_yes {bs : List Nat} {n : Int} {j : Nat} (hg : getB bs = (n, j)) (h : j ≠ 0) : rdN bs false = (n, bs.drop j, false) := by
 unfold rdN
 rw [if_neg (by rw [hg]; rintro (h1 | h1); cases h1; exact h h1), hg]
theorem rdN_enc {n : Int} (h : In64 n) (r : List Nat) : rdN (encN n ++ r) false = (n, r, false) := by
 have h1 := getB_encN h.1 h.2 r
 have h2 := (encN_len h).1
 rw [rdN_yes h1 (by omega), List.drop_left]
def rdTr (bs : List Nat) (f : Bool) : Tr × List Nat × Bool :=
 (⟨(rdN bs f).1, (rdN (rdN bs f).2.1 (rdN bs f).2.2).1, (rdN (rdN (rdN bs f).2.1 (rdN bs f).2.2).2.1 (rdN (rdN bs f).2.1 (rdN bs f).2.2).2.2).1⟩, (rdN (rdN (rdN bs f).2.1 (rdN bs f).2.2).2.1 (rdN (rdN bs f).2.1 (rdN bs f).2.2).2.2).2)
theorem rdTr_of {bs b1 b2 b3 : List Nat} {f f1 f2 f3 : Bool} {x y z : Int} (h1 : rdN bs f = (x, b1, f1)) (h2 : rdN b1 f1 = (y, b2, f2)) (h3 : rdN b2 f2 = (z, b3, f3)) : rdTr bs f = (⟨x, y, z⟩, b3, f3) := by
 unfold rdTr
 rw [h1, h2, h3]
theorem rdTr_enc {x : Tr} (h : TrIn x) (r : List Nat) : rdTr (trS x ++ r) false = (x, r, false) := by
 unfold trS
 rw [List.append_assoc, List.append_assoc]
 exact rdTr_of (rdN_enc h.1 _) (rdN_enc h.2.1 _) (rdN_enc h.2.2 _)
def rdTrs : Nat → List Nat → Bool → List Tr × List Nat × Bool
 | 0, bs, f => ([], bs, f)
 | k + 1, bs, f => if f = true then ([], bs, f) else ((rdTr bs f).1 :: (rdTrs k (rdTr bs f).2.1 (rdTr bs f).2.2).1, (rdTrs k (rdTr bs f).2.1 (rdTr bs f).2.2).2)
theorem rdTrs_succ (k : Nat) (bs : List Nat) {x : Tr} {b : List Nat} {f : Bool} (h : rdTr bs false = (x, b, f)) : rdTrs (k + 1) bs false = (x :: (rdTrs k b f).1, (rdTrs k b f).2) := by
 show (if false = true then _ else _) = _
 rw [if_neg (by decide), h]
theorem rdTrs_enc : ∀ {l : List Tr} (h : ∀ x ∈ l, TrIn x) (r : List Nat), rdTrs l.length (trsS l ++ r) false = (l, r, false)
 | [], _, r => rfl
 | x :: l, h, r => by
   have h1 : rdTr (trS x ++ trsS l ++ r) false = (x, trsS l ++ r, false) := by
    rw [List.append_assoc]
    exact rdTr_enc (h x (by simp)) _
   show rdTrs (l.length + 1) (trS x ++ trsS l ++ r) false = _
   rw [rdTrs_succ _ _ h1, rdTrs_enc (fun y hy => h y (by simp [hy]))]
def rdPd (bs : List Nat) (f : Bool) : Pd × List Nat × Bool :=
 let a := rdN bs f
 let b := rdN a.2.1 a.2.2
 let c := rdN b.2.1 b.2.2
 let d := rdN c.2.1 c.2.2
 let e := rdTrs d.1.toNat d.2.1 d.2.2
 (⟨a.1, b.1, e.1, c.1⟩, e.2)
theorem rdPd_of {bs b1 b2 b3 b4 b5 : List Nat} {f f1 f2 f3 f4 f5 : Bool} {x y z k : Int} {l : List Tr} (h1 : rdN bs f = (x, b1, f1)) (h2 : rdN b1 f1 = (y, b2, f2)) (h3 : rdN b2 f2 = (z, b3, f3)) (h4 : rdN b3 f3 = (k, b4, f4)) (h5 : rdTrs k.toNat b4 f4 = (l, b5, f5)) :
 rdPd bs f = (⟨x, y, l, z⟩, b5, f5) := by
 unfold rdPd
 simp only [h1, h2, h3, h4, h5]
theorem rdPd_enc {p : Pd} (h : PdIn p) (r : List Nat) : rdPd (pdS p ++ r) false = (p, r, false) := by
 obtain ⟨g1, g2, g3, g4, g5⟩ := h
 unfold pdS
 rw [List.append_assoc, List.append_assoc, List.append_assoc, List.append_assoc]
 refine rdPd_of (rdN_enc g1 _) (rdN_enc g2 _) (rdN_enc g3 _) (rdN_enc (in_nat g4) _) ?_
 rw [Int.toNat_natCast]
 exact rdTrs_enc g5 _
noncomputable def okP (p : Pd) : Bool := @decide (RightP p) (Classical.propDecidable _)
theorem okP_iff (p : Pd) : okP p = true ↔ RightP p := by unfold okP; exact @decide_eq_true_iff _ (Classical.propDecidable _)
def lastId (acc : List Pd) (p : Pd) : Bool := match acc.getLast? with
 | none => true
 | some q => decide (q.id < p.id)
noncomputable def rdPds : Nat → List Pd → List Nat → Bool → Option (List Pd × List Nat × Bool)
 | 0, acc, bs, f => some (acc, bs, f)
 | n + 1, acc, bs, f => if f = true then some (acc, bs, f) else if (okP (rdPd bs f).1 && lastId acc (rdPd bs f).1) = true then rdPds n (acc ++ [(rdPd bs f).1]) (rdPd bs f).2.1 (rdPd bs f).2.2 else none
theorem rdPds_yes {n : Nat} {acc : List Pd} {bs b : List Nat} {p : Pd} {f : Bool} (h : rdPd bs false = (p, b, f)) (hp : okP p = true) (ha : lastId acc p = true) : rdPds (n + 1) acc bs false = rdPds n (acc ++ [p]) b f := by
 show (if false = true then _ else _) = _
 rw [if_neg (by decide), h]
 show (if (okP p && lastId acc p) = true then _ else _) = _
 rw [hp, ha]
 rfl
theorem asc_snoc {acc : List Pd} {p : Pd} (h : Asc acc) (ha : lastId acc p = true) : Asc (acc ++ [p]) := by
 unfold Asc at *
 refine List.pairwise_append.2 ⟨h, List.pairwise_singleton _ _, fun a hm b hb => ?_⟩
 rw [List.mem_singleton] at hb
 subst hb
 rcases List.eq_nil_or_concat acc with e | ⟨i, q, e⟩
 · rw [e] at hm; cases hm
 · subst e
   unfold lastId at ha
   rw [List.concat_eq_append, List.getLast?_append, List.getLast?_singleton] at ha
   have hq : q.id < b.id := of_decide_eq_true ha
   rw [List.concat_eq_append] at h hm
   rcases List.mem_append.1 hm with hm | hm
   · have := (List.pairwise_append.1 h).2.2 a hm q (by simp)
     omega
   · rw [List.mem_singleton] at hm
     rw [hm]
     exact hq
theorem last_asc {acc l : List Pd} {p : Pd} (h : Asc (acc ++ p :: l)) : lastId acc p = true := by
 unfold lastId
 cases hg : acc.getLast? with
 | none => rfl
 | some q =>
   have hq : q ∈ acc := List.mem_of_getLast? hg
   exact decide_eq_true ((List.pairwise_append.1 h).2.2 q hq p (by simp))
theorem rdPds_enc : ∀ (l acc : List Pd) (h : ∀ p ∈ l, PdIn p) (hr : ∀ p ∈ l, RightP p) (ha : Asc (acc ++ l)) (r : List Nat), rdPds l.length acc (pdsS l ++ r) false = some (acc ++ l, r, false)
 | [], acc, _, _, _, r => by rw [List.append_nil]; rfl
 | p :: l, acc, h, hr, ha, r => by
   have h1 : rdPd (pdS p ++ pdsS l ++ r) false = (p, pdsS l ++ r, false) := by
    rw [List.append_assoc]
    exact rdPd_enc (h p (by simp)) _
   show rdPds (l.length + 1) acc (pdS p ++ pdsS l ++ r) false = _
   rw [rdPds_yes h1 ((okP_iff p).2 (hr p (by simp))) (last_asc ha)]
   have e : acc ++ p :: l = (acc ++ [p]) ++ l := by rw [List.append_assoc]; rfl
   rw [e] at ha ⊢
   exact rdPds_enc l _ (fun q hq => h q (by simp [hq])) (fun q hq => hr q (by simp [hq])) ha r
/-- What reading gives: what stands behind the sum, whether the sum is another. -/
def openS (bs : List Nat) : List Nat × Bool := if CrcMath.okB bs = true then (bs.drop 4, false) else ([], true)
noncomputable def rdAll (bs : List Nat) : Int × Option (List Pd × List Nat × Bool) :=
 let a := rdN (openS bs).1 (openS bs).2
 let c := rdN a.2.1 a.2.2
 (a.1, rdPds c.1.toNat [] c.2.1 c.2.2)
theorem rdAll_of {bs b1 b2 : List Nat} {f1 f2 : Bool} {n k : Int} (h1 : rdN (openS bs).1 (openS bs).2 = (n, b1, f1)) (h2 : rdN b1 f1 = (k, b2, f2)) : rdAll bs = (n, rdPds k.toNat [] b2 f2) := by
 unfold rdAll
 simp only [h1, h2]
theorem trS_pos {p : Pd} (h : PdIn p) : 4 ≤ (pdS p).length := by
 obtain ⟨g1, g2, g3, g4, g5⟩ := h
 have h1 := (encN_len g1).1
 have h2 := (encN_len g2).1
 have h3 := (encN_len g3).1
 have h4 := (encN_len (in_nat g4)).1
 unfold pdS
 simp only [List.length_append]
 omega
theorem pdsS_pos : ∀ {l : List Pd} (h : ∀ p ∈ l, PdIn p), 4 * l.length ≤ (pdsS l).length
 | [], _ => Nat.le_refl _
 | p :: l, h => by
   have h1 := trS_pos (h p (by simp))
   have h2 := pdsS_pos (l := l) fun q hq => h q (by simp [hq])
   show _ ≤ (pdS p ++ pdsS l).length
   rw [List.length_append, List.length_cons]
   omega
theorem tr_in {x : Tr} (h : TrOk x) : TrIn x := by
 obtain ⟨h1, _, h3, h4⟩ := h
 have hb : SeqMath.rightB x.f = true ∧ SeqMath.rightB x.l = true := by
  rcases Classical.em (SeqMath.rightB x.f = true ∧ SeqMath.rightB x.l = true) with h | h
  · exact h
  · unfold SeqMath.gapI at h1
    rw [if_neg h] at h1
    omega
 have hr : ∀ n : Int, SeqMath.rightB n = true → 0 ≤ n ∧ n ≤ 2147483647 := fun n hn => by
  unfold SeqMath.rightB at hn
  simpa using hn
 have c1 := hr _ hb.1
 have c2 := hr _ hb.2
 exact ⟨⟨by omega, by omega⟩, ⟨by omega, by omega⟩, ⟨by omega, by omega⟩⟩
theorem right_in {p : Pd} (h : RightP p) (hi : In64 p.id) : PdIn p := by
 obtain ⟨⟨h1, h2, h3, h4, h5, h6⟩, hs⟩ := h
 refine ⟨hi, ⟨by omega, by omega⟩, ⟨by omega, by omega⟩, by omega, fun x hx => ?_⟩
 obtain ⟨j, hj⟩ := List.mem_iff_getElem?.1 hx
 exact tr_in (hs j x hj).1
/-- What the list holds at every round. -/
structure AccOk (acc : List Pd) : Prop where
 right : ∀ p ∈ acc, RightP p
 ids : ∀ p ∈ acc, In64 p.id
 asc : Asc acc
theorem AccOk.nil : AccOk [] := ⟨fun p h => (by cases h), fun p h => (by cases h), List.Pairwise.nil⟩
theorem AccOk.snoc {acc : List Pd} {p : Pd} (h : AccOk acc) (hp : RightP p) (hi : In64 p.id) (ha : lastId acc p = true) : AccOk (acc ++ [p]) := by
 refine ⟨fun q hq => ?_, fun q hq => ?_, asc_snoc h.asc ha⟩
 · rcases List.mem_append.1 hq with hq | hq
   · exact h.right q hq
   · rw [List.mem_singleton] at hq
     rw [hq]
     exact hp
 · rcases List.mem_append.1 hq with hq | hq
   · exact h.ids q hq
   · rw [List.mem_singleton] at hq
     rw [hq]
     exact hi
theorem AccOk.pdIn {acc : List Pd} (h : AccOk acc) : ∀ p ∈ acc, PdIn p := fun p hp => right_in (h.right p hp) (h.ids p hp)
theorem AccOk.few {acc : List Pd} (h : AccOk acc) : ∀ p ∈ acc, p.last.length ≤ 5 := fun p hp => (h.right p hp).1.2.2.2.2.2
/-- Bytes that are a table's and a number's. -/
def IsSnap (bs : List Nat) (l : List Pd) (n : Int) : Prop := AccOk l ∧ (0 ≤ n ∧ n ≤ 1099511627776) ∧ bs = snapS l n
theorem snap_few {l : List Pd} {n : Int} (h : AccOk l) : 4 * l.length ≤ (snapS l n).length := by
 have := pdsS_pos h.pdIn
 unfold snapS bodyS
 rw [CrcMath.length_sealB, List.length_append, List.length_append]
 omega
theorem IsSnap.rd {bs : List Nat} {l : List Pd} {n : Int} (h : IsSnap bs l n) (hL : bs.length ≤ 1048600) : rdAll bs = (n, some (l, [], false)) := by
 obtain ⟨ha, hn, e⟩ := h
 have h4 := snap_few (n := n) ha
 rw [← e] at h4
 have hin : PdsIn l := ⟨by omega, ha.pdIn⟩
 have hn64 : In64 n := ⟨by omega, by omega⟩
 have hok : CrcMath.okB bs = true := by
  rw [e]
  exact CrcMath.okB_seal (bodyS_all hin hn64)
 have ho : openS bs = (bodyS l n, false) := by
  unfold openS
  rw [if_pos hok, e]
  unfold snapS
  rw [CrcMath.drop_sealB]
 have h1 : rdN (openS bs).1 (openS bs).2 = (n, encN (l.length : Int) ++ pdsS l, false) := by
  rw [ho]
  exact rdN_enc hn64 _
 have h2 := rdN_enc (in_nat hin.1) (pdsS l)
 rw [rdAll_of h1 h2, Int.toNat_natCast]
 have h3 := rdPds_enc l [] hin.2 ha.right ha.asc []
 rw [List.append_nil] at h3
 rw [h3]
 rfl
theorem rd_none {bs : List Nat} {n : Int} (h : rdAll bs = (n, none)) (hL : bs.length ≤ 1048600) : ∀ l m, ¬ IsSnap bs l m := fun l m hs => by
 rw [hs.rd hL] at h
 cases h
end Go.SnapMath
namespace Go.SnapMath
open Go.ProdMath
open Go.BatMath (In64 Bat Ok ok_of rightE head_of headB noneB none_of)
open Go.SeqMath (gapI followsB lastI addI)
set_option linter.unusedVariables false

/-- A state that what stood below e may have left. -/
structure StOk (e : Int) (p : Pd) : Prop where
 right : RightP p
 last : ∀ x ∈ p.last, x.b < e
theorem StOk.up {e e' : Int} {p : Pd} (h : StOk e p) (he : e ≤ e') : StOk e' p := ⟨h.right, fun x hx => by have := h.last x hx; omega⟩
theorem lt_len {l : List Tr} {j : Nat} {x : Tr} (h : l[j]? = some x) : j < l.length := (List.getElem?_eq_some_iff.1 h).1
theorem step_snoc {l : List Tr} {x : Tr} (h : ∀ j, StepOk l j) (hx : TrOk x) (hn : ∀ y, l.getLast? = some y → TrNext y x) : ∀ j, StepOk (l ++ [x]) j := fun j z hz => by
 have hj := lt_len hz
 rw [List.length_append, List.length_singleton] at hj
 by_cases hlt : j < l.length
 · rw [List.getElem?_append_left hlt] at hz
   refine ⟨(h j z hz).1, fun y h0 hy => ?_⟩
   rw [List.getElem?_append_left (by omega)] at hy
   exact (h j z hz).2 y h0 hy
 · have hje : j = l.length := by omega
   subst hje
   rw [List.getElem?_append_right (Nat.le_refl _), Nat.sub_self] at hz
   cases hz
   refine ⟨hx, fun y h0 hy => hn y ?_⟩
   rw [List.getElem?_append_left (by omega)] at hy
   rw [List.getLast?_eq_getElem?]
   exact hy
theorem step_drop {l : List Tr} (h : ∀ j, StepOk l j) (d : Nat) : ∀ j, StepOk (l.drop d) j := fun j z hz => by
 rw [List.getElem?_drop] at hz
 refine ⟨(h _ z hz).1, fun y h0 hy => ?_⟩
 rw [List.getElem?_drop] at hy
 refine (h _ z hz).2 y (by omega) ?_
 rw [show d + j - 1 = d + (j - 1) by omega]
 exact hy
theorem tr_ok {s base : Int} {n : Nat} (s0 : 0 ≤ s) (s1 : s ≤ 2147483647) (n1 : 1 ≤ n) (n2 : n ≤ 16) (b0 : 0 ≤ base) (b1 : base ≤ 1099511627776) : TrOk ⟨s, lastI s n, base⟩ := by
 have hl : lastI s n = addI s ((n : Int) - 1) := by unfold lastI; rw [if_pos ⟨by omega, by omega⟩]
 have hg : gapI s (lastI s n) = (n : Int) - 1 := by rw [hl]; exact SeqMath.gap_add s0 s1 (by omega) (by omega)
 refine ⟨?_, ?_, b0, b1⟩
 · show 0 ≤ gapI s (lastI s n); omega
 · show gapI s (lastI s n) < 16; omega
/-- A right batch of a producer, with its records. -/
theorem data_ok {b : Bat} (h : rightE b = 0) (hm : b.marker = 0) (hp : 0 ≤ b.prod) : 0 ≤ b.seq ∧ 1 ≤ b.recs.length := by
 unfold rightE at h
 split at h
 · omega
 · split at h
   · rename_i h1; exact absurd hm h1
   · split at h
     · rename_i h1
       obtain ⟨h1, h2⟩ := h1
       refine ⟨?_, List.length_pos_iff.2 h2⟩
       rcases h1 with h1 | h1
       · have := (none_of h1).1; omega
       · have := SeqMath.of_right h1.2; omega
     · omega
theorem epoch_ok {b : Bat} (h : rightE b = 0) (hp : 0 ≤ b.prod) : 0 ≤ b.epoch := by
 unfold rightE at h
 split at h
 · omega
 · split at h
   · split at h
     · rename_i h1; exact (head_of h1.2.1).2.1
     · omega
   · split at h
     · rename_i h1
       rcases h1.1 with h1 | h1
       · have := (none_of h1).1; omega
       · exact (head_of h1.1).2.1
     · omega
theorem old_ok {e : Int} {p : Pd} {known : Bool} (b : Bat) (h : known = true → StOk e p) : (∀ j, StepOk (oldLast p known b) j) ∧ (oldLast p known b).length ≤ 5 ∧ (∀ x ∈ oldLast p known b, x.b < e) ∧ -1 ≤ oldOpen p known ∧ oldOpen p known ≤ 1099511627776 := by
 have ho : -1 ≤ oldOpen p known ∧ oldOpen p known ≤ 1099511627776 := by
  unfold oldOpen
  split
  · rename_i hk
    exact ⟨(h hk).right.1.2.2.2.1, (h hk).right.1.2.2.2.2.1⟩
  · exact ⟨by decide, by decide⟩
 by_cases hk : known = true ∧ p.epoch = b.epoch
 · have he : oldLast p known b = p.last := by unfold oldLast; rw [if_pos hk]
   rw [he]
   have h1 := h hk.1
   exact ⟨h1.right.2, h1.right.1.2.2.2.2.2, h1.last, ho⟩
 · have he : oldLast p known b = [] := by unfold oldLast; rw [if_neg hk]
   rw [he]
   exact ⟨fun j x hx => (by cases hx), Nat.zero_le _, fun x hx => (by cases hx), ho⟩
theorem dup_mem : ∀ {l : List Tr} {s : Int} {c : Nat} {n : Int}, dupL l s c = some n → ∃ x ∈ l, x.b = n
 | [], s, c, n, h => by cases h
 | x :: l, s, c, n, h => by
   cases hb : hitB x s c with
   | true =>
     rw [dup_hit hb] at h
     cases h
     exact ⟨x, by simp, rfl⟩
   | false =>
     rw [dup_miss hb] at h
     obtain ⟨y, hy, e⟩ := dup_mem h
     exact ⟨y, by simp [hy], e⟩
/-- One batch more, that the state takes as a new one. -/
theorem apply_ok {p : Pd} {known : Bool} {b : Bat} {e : Int} (h : known = true → StOk b.base p) (hr : rightE b = 0) (hp : 0 ≤ b.prod) (hc : (checkD p known b).2 = 0) (hn : (checkD p known b).1 < 0) (he : b.base < e) : StOk e (applyD p known b) := by
 have ok := ok_of hr
 obtain ⟨o1, o2, o3, o4, o5⟩ := old_ok b h
 have hep := epoch_ok hr hp
 unfold applyD
 split
 · exact ⟨⟨⟨hp, hep, ok.epoch1, by show (-1 : Int) ≤ -1; omega, by show (-1 : Int) ≤ _; omega, o2⟩, o1⟩, fun x hx => by have := o3 x hx; omega⟩
 · rename_i hm
   have hm0 : b.marker = 0 := Classical.byContradiction fun h => hm h
   obtain ⟨hs, hrn⟩ := data_ok hr hm0 hp
   have hTr : TrOk ⟨b.seq, lastI b.seq b.recs.length, b.base⟩ := tr_ok hs ok.seq1 hrn ok.recs ok.base0 ok.base1
   have hnext : ∀ y, (oldLast p known b).getLast? = some y → TrNext y ⟨b.seq, lastI b.seq b.recs.length, b.base⟩ := fun y hy => by
    refine ⟨o3 y (List.mem_of_getLast? hy), ?_⟩
    by_cases hk : known = true ∧ p.epoch = b.epoch
    · have hol : oldLast p known b = p.last := by unfold oldLast; rw [if_pos hk]
      rw [hol] at hy
      have hne : p.last ≠ [] := fun e => by rw [e] at hy; cases hy
      have hls : lastSeq p.last = y.l := by unfold lastSeq; rw [hy]
      unfold checkD at hc hn
      rw [if_neg hm, if_neg (by rw [hk.1]; decide), if_neg (by omega), if_neg (by omega)] at hc hn
      cases hd : dupL p.last b.seq b.recs.length with
      | some n =>
        rw [hd] at hn
        have hn : n < 0 := hn
        obtain ⟨x, hx, hxb⟩ := dup_mem hd
        obtain ⟨j, hj⟩ := List.mem_iff_getElem?.1 hx
        have := ((h hk.1).right.2 j x hj).1.2.2.1
        omega
      | none =>
        rw [hd] at hc
        have hc : (if p.last ≠ [] ∧ followsB (lastSeq p.last) b.seq = false then ((-1 : Int), (15 : Int)) else if 0 ≤ p.opn ∧ b.txn = false then (-1, 16) else (-1, 0)).2 = 0 := hc
        split at hc
        · cases hc
        · rename_i h3
          show followsB y.l b.seq = true
          rw [← hls]
          cases hf : followsB (lastSeq p.last) b.seq with
          | true => rfl
          | false => exact absurd ⟨hne, hf⟩ h3
    · have hol : oldLast p known b = [] := by unfold oldLast; rw [if_neg hk]
      rw [hol] at hy
      cases hy
   have hlen : (newLast (oldLast p known b) ⟨b.seq, lastI b.seq b.recs.length, b.base⟩).length ≤ 5 := by
    unfold newLast
    rw [List.length_drop, List.length_append, List.length_singleton]
    omega
   refine ⟨⟨⟨hp, hep, ok.epoch1, ?_, ?_, hlen⟩, ?_⟩, ?_⟩
   · show -1 ≤ (if b.txn = true ∧ oldOpen p known < 0 then b.base else oldOpen p known)
     have := ok.base0
     split <;> omega
   · show (if b.txn = true ∧ oldOpen p known < 0 then b.base else oldOpen p known) ≤ _
     have := ok.base1
     split <;> omega
   · exact step_drop (step_snoc o1 hTr hnext) _
   · intro x hx
     have hx := List.mem_of_mem_drop hx
     rcases List.mem_append.1 hx with hx | hx
     · have := o3 x hx; omega
     · rw [List.mem_singleton] at hx
       rw [hx]
       exact he
theorem row_states {start : Int} {bs : List Bat} (h : RowD start bs) (h0 : 0 ≤ start) (h1 : start ≤ 1099511627776) : Asc (foldP [] bs) ∧ ∀ p ∈ foldP [] bs, StOk (endD start bs) p ∧ In64 p.id := by
 induction h with
 | nil => exact ⟨List.Pairwise.nil, fun p hp => by cases hp⟩
 | @snoc l b hl hb hw hc hn he ih =>
   obtain ⟨ha, hs⟩ := ih
   have hr := tcheck_right hc
   have hcd : 0 ≤ countD b := by unfold countD; split <;> omega
   have hend : endD start (l ++ [b]) = b.base + countD b := end_last (by simp)
   rw [foldP_snoc]
   refine ⟨tapply_asc ha b, ?_⟩
   by_cases hp : b.prod < 0
   · rw [tapply_no (Or.inr hp)]
     intro p hm
     exact ⟨(hs p hm).1.up (by rw [hend, hb]; omega), (hs p hm).2⟩
   · have hp : 0 ≤ b.prod := by omega
     unfold tcheckD at hc hn
     rw [if_neg (fun h => h hr), if_neg (by omega)] at hc hn
     have hlk := has_look ha b.prod
     rw [hlk.1, hlk.2] at hc hn
     rw [tapply_ins ha b hr hp]
     have hpos : 0 < countD b := by
      unfold countD
      split
      · omega
      · rename_i h1
        have := (data_ok hr (Classical.byContradiction fun h => h1 h) hp).2
        omega
     intro p hm
     rcases ins_ids _ _ _ hm with e | e
     · rw [e]
       refine ⟨apply_ok (fun hk => ?_) hr hp hc hn (by rw [hend]; omega), ?_⟩
       · obtain ⟨q, hq⟩ := Option.isSome_iff_exists.1 hk
         rw [hq]
         rw [hb]
         exact (hs q (look_id hq).2).1
       · rw [apply_id]
         exact hw.prod
     · exact ⟨(hs p e).1.up (by rw [hend, hb]; omega), (hs p e).2⟩
theorem row_acc {start : Int} {bs : List Bat} (h : RowD start bs) (h0 : 0 ≤ start) (h1 : start ≤ 1099511627776) : AccOk (foldP [] bs) := by
 obtain ⟨ha, hs⟩ := row_states h h0 h1
 exact ⟨fun p hp => (hs p hp).1.right, fun p hp => (hs p hp).2, ha⟩
end Go.SnapMath
namespace Go.SnapMath
open Go.ProdMath
open Go.BatMath (In64 Bat)
theorem tapply_len (l : List Pd) (b : Bat) : (tapplyD l b).length ≤ l.length + 1 := by
 unfold tapplyD
 split
 · omega
 · split
   · rw [List.length_set]; omega
   · rw [List.length_append, List.length_cons, List.length_take, List.length_drop]
     have := atD_le l b.prod
     omega
theorem fold_len : ∀ (bs : List Bat) (l : List Pd), (foldP l bs).length ≤ l.length + bs.length
 | [], l => Nat.le_refl _
 | b :: bs, l => by
   have h1 := fold_len bs (tapplyD l b)
   have h2 := tapply_len l b
   show (foldP (tapplyD l b) bs).length ≤ _
   rw [List.length_cons]
   omega
end Go.SnapMath
namespace Go.AbMath
open Go.ProdMath
open Go.SnapMath
open Go.BatMath (In64 Bat)
set_option linter.unusedVariables false

/-- One that may stand in a list. -/
def DrOk (d : Dr) : Prop := 0 ≤ d.prod ∧ 0 ≤ d.first ∧ d.first < d.last ∧ d.last ≤ 1099511627776
def AscL (l : List Dr) : Prop := l.Pairwise fun a b => a.last < b.last
def lastD (l : List Dr) : Int := match l.getLast? with
 | none => -1
 | some d => d.last
def okD (z : Int) (d : Dr) : Prop := DrOk d ∧ z < d.last
instance (d : Dr) : Decidable (DrOk d) := by unfold DrOk; infer_instance
instance (z : Int) (d : Dr) : Decidable (okD z d) := by unfold okD; infer_instance
def addD (l : List Dr) (d : Dr) : List Dr := if okD (lastD l) d then l ++ [d] else l
def withinD (l : List Dr) (a b : Int) : List Dr := l.filter fun d => decide (a < b ∧ d.first < b ∧ a ≤ d.last)
def cutD (l : List Dr) (e : Int) : List Dr := l.filter fun d => decide (d.last < e)
structure DrsOk (l : List Dr) : Prop where
 each : ∀ d ∈ l, DrOk d
 asc : AscL l
theorem DrsOk.nil : DrsOk [] := ⟨fun d h => (by cases h), List.Pairwise.nil⟩
theorem lastD_snoc (l : List Dr) (d : Dr) : lastD (l ++ [d]) = d.last := by unfold lastD; rw [List.getLast?_append, List.getLast?_singleton]; rfl
theorem lastD_lt {l : List Dr} (h : DrsOk l) {z : Int} (hz : -1 < z) : lastD l < z ↔ ∀ d ∈ l, d.last < z := by
 rcases List.eq_nil_or_concat l with e | ⟨i, q, e⟩
 · subst e
   exact ⟨fun _ d hd => (by cases hd), fun _ => hz⟩
 · rw [List.concat_eq_append] at e
   subst e
   rw [lastD_snoc]
   refine ⟨fun hq d hd => ?_, fun hall => hall q (by simp)⟩
   rcases List.mem_append.1 hd with hd | hd
   · have := (List.pairwise_append.1 h.asc).2.2 d hd q (by simp)
     omega
   · rw [List.mem_singleton.1 hd]; exact hq
theorem DrsOk.snoc {l : List Dr} (h : DrsOk l) {d : Dr} (hd : okD (lastD l) d) : DrsOk (l ++ [d]) := by
 have h1 := (lastD_lt h (z := d.last) (by have := hd.1; unfold DrOk at this; omega)).1 hd.2
 refine ⟨fun x hx => ?_, List.pairwise_append.2 ⟨h.asc, List.pairwise_singleton _ _, fun a ha b hb => by rw [List.mem_singleton.1 hb]; exact h1 a ha⟩⟩
 rcases List.mem_append.1 hx with hx | hx
 · exact h.each x hx
 · rw [List.mem_singleton.1 hx]; exact hd.1
theorem DrsOk.add {l : List Dr} (h : DrsOk l) (d : Dr) : DrsOk (addD l d) := by
 unfold addD
 split
 · rename_i hd; exact h.snoc hd
 · exact h
theorem DrsOk.filter {l : List Dr} (h : DrsOk l) (p : Dr → Bool) : DrsOk (l.filter p) := ⟨fun d hd => h.each d (List.mem_filter.1 hd).1, List.Pairwise.sublist List.filter_sublist h.asc⟩
/-! rows -/
theorem row_opns {start : Int} {bs : List Bat} (h : RowD start bs) (h0 : 0 ≤ start) (h1 : start ≤ 1099511627776) : ∀ p ∈ foldP [] bs, p.opn < endD start bs := by
 induction h with
 | nil => intro p hp; cases hp
 | @snoc l b hl hb hw hc hn he ih =>
   obtain ⟨ha, hs⟩ := row_states hl h0 h1
   have hr := tcheck_right hc
   have hpos := right_count hr
   have hend : endD start (l ++ [b]) = b.base + countD b := end_last (by simp)
   have hb0 : 0 ≤ b.base := by rw [hb]; have := (row_bases hl h0).2.2; omega
   rw [foldP_snoc]
   by_cases hp : b.prod < 0
   · rw [tapply_no (Or.inr hp)]
     intro p hm
     have := ih p hm
     rw [hend, hb]; omega
   · rw [tapply_ins ha b hr (by omega)]
     intro p hm
     rcases ins_ids _ _ _ hm with e | e
     · rw [e, hend]
       have hq : ((lookD (foldP [] l) b.prod).getD Pd.zero).opn < b.base ∨ lookD (foldP [] l) b.prod = none := by
        cases hlk : lookD (foldP [] l) b.prod with
        | none => exact .inr rfl
        | some q => exact .inl (by rw [hb]; exact ih q (look_id hlk).2)
       have ho : oldOpen ((lookD (foldP [] l) b.prod).getD Pd.zero) (lookD (foldP [] l) b.prod).isSome < b.base + countD b := by
        unfold oldOpen
        split
        · rename_i hk
          rcases hq with hq | hq
          · omega
          · rw [hq] at hk; cases hk
        · omega
       unfold applyD
       split
       · show (-1 : Int) < _; omega
       · show (if b.txn = true ∧ _ then b.base else _) < _
         split
         · omega
         · exact ho
     · have := ih p e
       rw [hend, hb]; omega
theorem tdrop_is {l : List Pd} {b : Bat} {d : Dr} (ha : Asc l) (h : tdropD l b = some d) : 0 ≤ b.prod ∧ ∃ p ∈ l, 0 ≤ p.opn ∧ d = ⟨b.prod, p.opn, b.base⟩ := by
 unfold tdropD at h
 split at h
 · cases h
 · rename_i h1
   split at h
   · rename_i h2
     unfold dropsB at h2
     simp only [Bool.and_eq_true, decide_eq_true_eq] at h2
     obtain ⟨h3, _, h4⟩ := h2
     have hlk := has_look ha b.prod
     rw [hlk.1] at h3
     obtain ⟨p, hp⟩ := Option.isSome_iff_exists.1 h3
     rw [hlk.2, hp] at h h4
     refine ⟨by omega, p, (look_id hp).2, h4, ?_⟩
     exact (Option.some.inj h).symm
   · cases h
/-- What a row's markers abort. -/
theorem row_drops {start : Int} {bs : List Bat} (h : RowD start bs) (h0 : 0 ≤ start) (h1 : start ≤ 1099511627776) : DrsOk (foldR [] bs) ∧ ∀ d ∈ foldR [] bs, d.last < endD start bs := by
 induction h with
 | nil => exact ⟨DrsOk.nil, fun d hd => by cases hd⟩
 | @snoc l b hl hb hw hc hn he ih =>
   obtain ⟨ha, hs⟩ := row_states hl h0 h1
   have hr := tcheck_right hc
   have hpos := right_count hr
   have hend : endD start (l ++ [b]) = b.base + countD b := end_last (by simp)
   have hb0 : 0 ≤ b.base := by rw [hb]; have := (row_bases hl h0).2.2; omega
   obtain ⟨i1, i2⟩ := ih
   rw [foldR_snoc]
   cases hd : tdropD (foldP [] l) b with
   | none =>
     show DrsOk (_ ++ []) ∧ _
     rw [List.append_nil]
     refine ⟨i1, fun d hdm => ?_⟩
     rw [show foldR [] l ++ (none : Option Dr).toList = foldR [] l from List.append_nil _] at hdm
     have := i2 d hdm
     rw [hend, hb]; omega
   | some d =>
     obtain ⟨hp, p, hpm, hpo, e⟩ := tdrop_is ha hd
     have hop := row_opns hl h0 h1 p hpm
     have hdl : d.last = b.base := by rw [e]
     have hok : okD (lastD (foldR [] l)) d := by
      refine ⟨?_, (lastD_lt i1 (by omega)).2 fun x hx => by have := i2 x hx; omega⟩
      rw [e]
      exact ⟨hp, hpo, by show p.opn < b.base; omega, by show b.base ≤ _; omega⟩
     refine ⟨i1.snoc hok, fun x hx => ?_⟩
     rcases List.mem_append.1 hx with hx | hx
     · have := i2 x hx
       rw [hend, hb]; omega
     · rw [List.mem_singleton.1 (show x ∈ [d] from hx), hend]; omega
/-- What stands in a beginning is what ends ahead of what follows. -/
theorem row_begins {start : Int} {bs : List Bat} (h : RowD start bs) (h0 : 0 ≤ start) (h1 : start ≤ 1099511627776) : ∀ (k : Nat) (b : Bat), bs[k]? = some b → foldR [] (bs.take k) = cutD (foldR [] bs) b.base := by
 induction h with
 | nil => intro k b hb; cases hb
 | @snoc l b hl hb hw hc hn he ih =>
   intro k x hx
   have hd := row_drops hl h0 h1
   have hfull : cutD (foldR [] l) b.base = foldR [] l := List.filter_eq_self.2 fun d hdm => decide_eq_true (by rw [hb]; exact hd.2 d hdm)
   obtain ⟨ha, hs⟩ := row_states hl h0 h1
   have hnew : ∀ z, z ≤ b.base → cutD (tdropD (foldP [] l) b).toList z = [] := fun z hz => by
    cases hdd : tdropD (foldP [] l) b with
    | none => rfl
    | some d =>
      obtain ⟨_, p, _, _, e⟩ := tdrop_is ha hdd
      show List.filter _ [d] = []
      rw [List.filter_cons_of_neg (by rw [e]; simp; omega)]
      rfl
   have hsp : ∀ z, cutD (foldR [] (l ++ [b])) z = cutD (foldR [] l) z ++ cutD (tdropD (foldP [] l) b).toList z := fun z => by
    rw [foldR_snoc]
    exact List.filter_append _ _
   rcases Nat.lt_or_ge k l.length with hk | hk
   · rw [List.getElem?_append_left hk] at hx
     rw [List.take_append_of_le_length (Nat.le_of_lt hk), ih k x hx, hsp, hnew _ ?_, List.append_nil]
     have hm := (row_bases hl h0).2.1 x (List.mem_of_getElem? hx)
     rw [hb]; omega
   · have hke : k = l.length := by
      have := (List.getElem?_eq_some_iff.1 hx).1
      rw [List.length_append, List.length_singleton] at this
      omega
     subst hke
     rw [List.getElem?_append_right (Nat.le_refl _), Nat.sub_self] at hx
     cases hx
     rw [List.take_left, hsp, hnew _ (Int.le_refl _), List.append_nil, hfull]
theorem drops_len : ∀ (bs : List Bat) (l : List Pd), (foldR l bs).length ≤ bs.length
 | [], l => Nat.le_refl _
 | b :: bs, l => by
   have h := drops_len bs (tapplyD l b)
   show ((tdropD l b).toList ++ foldR (tapplyD l b) bs).length ≤ _
   rw [List.length_append, List.length_cons]
   have h2 : (tdropD l b).toList.length ≤ 1 := by cases tdropD l b <;> simp
   omega
/-! one list within another -/
end Go.AbMath
namespace Go.Proofs.Ytipaebflkebdjaa
open Go.RowKit
open Go.SeqMath
set_option linter.unusedVariables false

theorem seq_wrap (n : Int) (w : World) (v : Int) (h0 : -2147483648 ≤ n) (h1 : n ≤ 4294967295) (hv : n % 2147483648 = v) :
 Calls Try.prog 99 #[.int .i64 n] w fun e w' => e = .returned (.int .i64 v) ∧ w = w' := by
 have HV := Lib.hid hv
 clear hv
 go_enter Try.func99, Try.ntmps99
 go_wp2
 go_ret
 exact ⟨seq_ret (by have := HV.out; omega), rfl⟩
set_option maxHeartbeats 400000 in
theorem seq_add (n k : Int) (w : World) (v : Int) (k0 : -9223372036854775808 ≤ k) (k1 : k ≤ 9223372036854775807) (hv : addI n k = v) :
 Calls Try.prog 97 #[.int .i64 n, .int .i64 k] w fun e w' => e = .returned (.int .i64 v) ∧ w = w' := by
 rcases hr : rightB n with _ | _
 · have HV : Hid (v = -1) := by show _ = _; rw [← hv, add_no hr]
   have HR := Lib.hid hr
   clear hv hr
   go_enter Try.func97, Try.ntmps97
   go_wp2_with (go_at_call 92; refine (seq_right n _ false HR.out).mono ?_; rintro e w' ⟨rfl, rfl⟩)
   go_ret
   exact ⟨seq_ret HV.out.symm, rfl⟩
 · obtain ⟨n0, n1⟩ := of_right hr
   have HV : Hid ((n + k) % 2147483648 = v) := by show _ = _; rw [← hv, add_yes n0 n1]
   have HR := Lib.hid hr
   clear hv hr
   by_cases hk : 0 ≤ k
   · go_enter Try.func97, Try.ntmps97
     go_wp2_with (first | (go_at_call 92; refine (seq_right n _ true HR.out).mono ?_; rintro e w' ⟨rfl, rfl⟩) | (go_at_call 99; refine (seq_wrap _ _ v (by omega) (by omega) (by have := HV.out; omega)).mono ?_; rintro e w' ⟨rfl, rfl⟩))
     go_ret
     exact ⟨rfl, rfl⟩
   · have hk' : k < 0 := by omega
     obtain ⟨t, ht⟩ : ∃ t, t = k.tmod 2147483648 := ⟨_, rfl⟩
     have ht2 : t = -((-k) % 2147483648) := by
      rw [ht, ← Int.tmod_eq_emod_of_nonneg (by omega : 0 ≤ -k), Int.neg_tmod, Int.neg_neg]
     have HT : Hid (k.tmod 2147483648 = t) := ht.symm
     have HT2 := Lib.hid ht2
     have t0 : -2147483648 < t := by omega
     have t1 : t ≤ 0 := by omega
     have htt := HT.out
     clear ht ht2
     go_enter Try.func97, Try.ntmps97
     go_wp2_with (first | (go_at_call 92; refine (seq_right n _ true HR.out).mono ?_; rintro e w' ⟨rfl, rfl⟩) | (go_at_call 99; refine (seq_wrap _ _ v (by omega) (by omega) (by have := HV.out; have := HT2.out; omega)).mono ?_; rintro e w' ⟨rfl, rfl⟩))
     go_ret
     exact ⟨rfl, rfl⟩
end Go.Proofs.Ytipaebflkebdjaa
namespace Go.Proofs.Ytipaebflkebdjaa
open Go.RowKit
open Go.SeqMath
set_option linter.unusedVariables false

theorem seq_last (n c : Int) (w : World) (v : Int) (c0 : -9223372036854775808 ≤ c) (c1 : c ≤ 9223372036854775807) (hv : lastI n c = v) :
 Calls Try.prog 94 #[.int .i64 n, .int .i64 c] w fun e w' => e = .returned (.int .i64 v) ∧ w = w' := by
 by_cases h0 : c < 1
 · have HV : Hid (v = -1) := by show _ = _; rw [← hv, last_no (.inl h0)]
   clear hv
   go_enter Try.func94, Try.ntmps94
   go_wp2
   go_ret
   exact ⟨seq_ret HV.out.symm, rfl⟩
 · have h0' : 1 ≤ c := by omega
   by_cases h1 : 16 < c
   · have HV : Hid (v = -1) := by show _ = _; rw [← hv, last_no (.inr h1)]
     clear hv
     go_enter Try.func94, Try.ntmps94
     go_wp2
     go_ret
     exact ⟨seq_ret HV.out.symm, rfl⟩
   · have h1' : c ≤ 16 := by omega
     have HV : Hid (addI n (c - 1) = v) := by show _ = _; rw [← hv, last_yes h0' h1']
     clear hv
     go_enter Try.func94, Try.ntmps94
     go_wp2_with (go_at_call 97; refine (seq_add n _ _ v (by omega) (by omega) HV.out).mono ?_; rintro e w' ⟨rfl, rfl⟩)
     go_ret
     exact ⟨rfl, rfl⟩
end Go.Proofs.Ytipaebflkebdjaa
namespace Go.Proofs.Ytipaebflkebdjaa
open Go.RowKit
open Go.SeqMath
open Go.ProdMath
open Go.BatMath hiding AllB getD_lt take_all
set_option linter.unusedVariables false

/-- Three numbers as a value. -/
def Tr.val (x : Tr) : Value := .agg #[.int .i64 x.f, .int .i64 x.l, .int .i64 x.b]
theorem prOpen_any (w : World) (id ep op : Int) (ad : Option Addr) (n cap : Nat) (r : Bool) (hr : decide (0 ≤ op) = r) :
 Calls Try.prog 85 #[.agg #[.int .i64 id, .int .i64 ep, .slice ad n cap, .int .i64 op]] w fun e w' => e = .returned (.bool r) ∧ Below w.heap.size w w' := by
 have HR := Lib.hid hr
 clear hr
 obtain ⟨W0, hW0⟩ : ∃ W0, W0 = (w.alloc (.cells #[.int .i64 id, .int .i64 ep, .slice ad n cap, .int .i64 op] 48)) := ⟨_, rfl⟩
 have HB0 : Hid (Below w.heap.size w W0) := by show Below _ _ _; rw [hW0]; exact (Below.refl _ _).alloc (Nat.le_refl _) _
 have HP0 : Hid (PBox W0 w.heap.size (id) (ep) (.slice ad n cap) (op)) := by
  show PBox _ w.heap.size (id) (ep) (.slice ad n cap) (op)
  rw [hW0]
  have h1 := pbox_new w (id) (ep) (.slice ad n cap) (op)
  simpa using h1
 have HW0 := Lib.hid hW0
 clear hW0
 obtain ⟨B1, hB1⟩ : ∃ B, B = w.heap.size := ⟨_, rfl⟩
 rw [← hB1] at HP0
 go_enter Try.func85, Try.ntmps85
 go_upto_region 1 with fail
 rw [← HW0.out, ← hB1]
 clear HW0 hB1
 have q3 := HP0.out.c3
 go_wp2
 go_ret
 exact ⟨by rw [← HR.out]; rfl, HB0.out⟩
set_option maxHeartbeats 1000000 in
theorem prEnd_any (w : World) (b0 b1 b2 b3 : Int) (b4 : Bool) (b5 : Int) (rd : Option Addr) (rn rc : Nat) (hm : b5 = 0) (hrn : rn ≤ 140737488355328) (v : Int) (hv : lastI b3 rn = v) :
 Calls Try.prog 84 #[.agg #[.int .i64 b0, .int .i64 b1, .int .i64 b2, .int .i64 b3, .bool b4, .int .i64 b5, .slice rd rn rc]] w fun e w' => e = .returned (.int .i64 v) ∧ Below w.heap.size w w' := by
 have HM := Lib.hid hm
 have HV := Lib.hid hv
 clear hm hv
 obtain ⟨W0, hW0⟩ : ∃ W0, W0 = (w.alloc (.cells #[.int .i64 b0, .int .i64 b1, .int .i64 b2, .int .i64 b3, .bool b4, .int .i64 b5, .slice rd rn rc] 52)) := ⟨_, rfl⟩
 have HB0 : Hid (Below w.heap.size w W0) := by show Below _ _ _; rw [hW0]; exact (Below.refl _ _).alloc (Nat.le_refl _) _
 have HX0 : Hid (BoxAt W0 w.heap.size b0 b1 b2 b3 b4 b5 (.slice rd rn rc)) := by
  show BoxAt _ w.heap.size b0 b1 b2 b3 b4 b5 (.slice rd rn rc)
  rw [hW0]
  have h1 := boxAt_new w b0 b1 b2 b3 b4 b5 (.slice rd rn rc)
  simpa using h1
 have HW0 := Lib.hid hW0
 clear hW0
 obtain ⟨B1, hB1⟩ : ∃ B, B = w.heap.size := ⟨_, rfl⟩
 rw [← hB1] at HX0
 go_enter Try.func84, Try.ntmps84
 go_upto_region 1 with fail
 rw [← HW0.out, ← hB1]
 clear HW0 hB1
 have KS : Hid (∀ W, Below W0.heap.size W0 W → (fun (W : World) => W.cell? ⟨B1, 0, none⟩ = some (.int .i64 b0) ∧ W.cell? ⟨B1, 1, none⟩ = some (.int .i64 b1) ∧ W.cell? ⟨B1, 2, none⟩ = some (.int .i64 b2) ∧ W.cell? ⟨B1, 3, none⟩ = some (.int .i64 b3) ∧ W.cell? ⟨B1, 4, none⟩ = some (.bool b4) ∧ W.cell? ⟨B1, 5, none⟩ = some (.int .i64 b5) ∧ W.cell? ⟨B1, 6, none⟩ = some (.slice rd rn rc) ∧ Below W0.heap.size W0 W) W) := by
  intro W hW
  have hX := HX0.out.on hW
  exact ⟨hX.c0, hX.c1, hX.c2, hX.c3, hX.c4, hX.c5, hX.c6, hW⟩
 refine wp_region_noPanic ?_
 refine wp_region_z [] (fun (W : World) => W.cell? ⟨B1, 0, none⟩ = some (.int .i64 b0) ∧ W.cell? ⟨B1, 1, none⟩ = some (.int .i64 b1) ∧ W.cell? ⟨B1, 2, none⟩ = some (.int .i64 b2) ∧ W.cell? ⟨B1, 3, none⟩ = some (.int .i64 b3) ∧ W.cell? ⟨B1, 4, none⟩ = some (.bool b4) ∧ W.cell? ⟨B1, 5, none⟩ = some (.int .i64 b5) ∧ W.cell? ⟨B1, 6, none⟩ = some (.slice rd rn rc) ∧ Below W0.heap.size W0 W) (by kernel_rfl) ?_
 have hHeld := KS.out _ (Below.refl _ W0).drew
 obtain ⟨u0, hu0⟩ : ∃ u, u = W0.drew := ⟨_, rfl⟩
 have HU0 : Hid (Below W0.heap.size W0 u0) := by show Below _ _ _; rw [hu0]; exact (Below.refl _ W0).drew
 rw [← hu0] at hHeld
 rw [← hu0]
 clear hu0
 refine zt 0 ?_
 refine zt 1 ?_
 refine zt 2 ?_
 refine zr 3 (fun C hC => ?_)
 go_simp
 refine (batCount_any u0 b0 b1 b2 b3 b4 b5 rd rn rc (rn : Int) (by rw [if_neg (fun h => h HM.out)])).mono ?_
 rintro e u1 ⟨rfl, hb1⟩
 have HU1 := Lib.hid (HU0.out.trans (hb1.mono HU0.out.size))
 clear hb1
 go_wp2_with fail
 have hHeld := KS.out _ HU1.out
 refine zc hC hHeld ?_
 clear hC C
 refine zr 4 (fun C hC => ?_)
 go_simp
 refine (seq_last b3 rn u1 v (by omega) (by omega) HV.out).mono ?_
 rintro e u2 ⟨rfl, rfl⟩
 go_wp2_with fail
 have hHeld : (fun (W : World) => W.cell? ⟨B1, 0, none⟩ = some (.int .i64 b0) ∧ W.cell? ⟨B1, 1, none⟩ = some (.int .i64 b1) ∧ W.cell? ⟨B1, 2, none⟩ = some (.int .i64 b2) ∧ W.cell? ⟨B1, 3, none⟩ = some (.int .i64 b3) ∧ W.cell? ⟨B1, 4, none⟩ = some (.bool b4) ∧ W.cell? ⟨B1, 5, none⟩ = some (.int .i64 b5) ∧ W.cell? ⟨B1, 6, none⟩ = some (.slice rd rn rc) ∧ Below W0.heap.size W0 W) _ := hHeld
 refine zc hC hHeld ?_
 clear hC C
 refine zt 5 ?_
 refine wpAnyZ_done (by kernel_rfl) ?_ _
 refine NoPanic.normal ?_
 clear hHeld
 go_wp2
 go_ret
 exact ⟨rfl, HB0.out.trans (HU1.out.mono HB0.out.size)⟩
end Go.Proofs.Ytipaebflkebdjaa
namespace Go.Proofs.Ytipaebflkebdjaa
open Go.RowKit
open Go.SeqMath
open Go.ProdMath
open Go.BatMath hiding AllB getD_lt take_all
set_option linter.unusedVariables false

def GivesBool (w : World) (r : Bool) (e : Ending) (w' : World) : Prop := e = .returned (.bool r) ∧ Below w.heap.size w w'
end Go.Proofs.Ytipaebflkebdjaa
namespace Go.Proofs.Ytipaebflkebdjaa
open Go.RowKit
open Go.AbMath
open Go.ProdMath
open Go.BatMath hiding AllB getD_lt take_all
set_option linter.unusedVariables false

theorem eq_dr (a b c d e f : Int) (w : World) : (Op.equalIn 10000 79 (.agg #[.int .i64 a, .int .i64 b, .int .i64 c]) (.agg #[.int .i64 d, .int .i64 e, .int .i64 f])).run Try.prog w = .ok (a == d && (b == e && c == f)) w := by
 have u3 := Try.underlying2
 have a3 := Try.isAgg2
 have z3 := Try.sizeOf2
 have hS : Try.prog.underlying 79 = some (.struct (Try.prog.fieldsOf 79)) := by simp only [Program.fieldsOf, Try.underlying79]
 rw [show (10000 : Nat) = 9999 + 1 from rfl, run_equalIn_agg w 9999 79 _ _ hS (by kernel_rfl)]
 simp only [Program.fieldsOf, Try.underlying79]
 go_simp
 by_cases h1 : a = d <;> by_cases h2 : b = e <;> by_cases h3 : c = f <;> simp [h1, h2, h3]
theorem guard_dr : Try.prog.eqGuardType Try.prog.depth 79 = false := by kernel_rfl
theorem neq_dr (a b c d e f : Int) (r : Bool) (hr : (a == d && (b == e && c == f)) = r) (w : World) : (binOp .neq 79 (.agg #[.int .i64 a, .int .i64 b, .int .i64 c]) (.agg #[.int .i64 d, .int .i64 e, .int .i64 f])).run Try.prog w = .ok (.bool (!r)) w := by
 rw [run_neq_struct, eq_dr, hr]; rfl
theorem dr_get {w : World} {ad : Option Addr} {len cap : Nat} {l : List Dr} (h : RowAt drK w ad len cap l) {i : Nat} (hi : i < len) : ∃ b off x, ad = some ⟨b, off, none⟩ ∧ b < w.heap.size ∧ l[i]? = some x ∧ w.cell? ⟨b, off + i * 3, none⟩ = some (.int .i64 x.prod) ∧ w.cell? ⟨b, off + i * 3 + 1, none⟩ = some (.int .i64 x.first) ∧ w.cell? ⟨b, off + i * 3 + 2, none⟩ = some (.int .i64 x.last) := by
 obtain ⟨b, off, x, e, hb, hx, hc⟩ := h.get hi
 exact ⟨b, off, x, e, hb, hx, hc 0 _ rfl, hc 1 _ rfl, hc 2 _ rfl⟩
set_option maxRecDepth 100000 in
set_option maxHeartbeats 4000000 in
theorem drSame_any (w : World) (a1 a2 : Option Addr) (n c1 c2 : Nat) (l : List Dr) (h1 : RowAt drK w a1 n c1 l) (h2 : RowAt drK w a2 n c2 l) (hn : n ≤ 1000000) :
 Calls Try.prog 50 #[.slice a1 n c1, .slice a2 n c2] w (GivesBool w true) := by
 have H1 := Lib.hid h1
 have H2 := Lib.hid h2
 have hg := guard_dr
 clear h1 h2
 go_enter Try.func50, Try.ntmps50
 go_wp2
 go_loopw [13] (fun v13 wr => ∃ i : Nat, v13 = .int .i64 (i : Int) ∧ i ≤ n ∧ Hid (Below w.heap.size w wr)) (fun v13 _ => n - (intOf v13).toNat)
 case atStart => exact ⟨0, rfl, Nat.zero_le _, Below.refl _ _⟩
 case round =>
  obtain ⟨i, rfl, hi, HB⟩ := hrel
  obtain ⟨wo, hwo⟩ : ∃ wo : World, wo = wr := ⟨_, rfl⟩
  subst hwo
  by_cases hlt : i < n
  · have hd : decide (i < n) = true := decide_eq_true hlt
    have hil : (i : Int) < (n : Int) := by omega
    obtain ⟨b1, o1, x, rfl, hb1, hs, p0, p1, p2⟩ := dr_get (H1.out.keep HB.out) hlt
    obtain ⟨b2, o2, x2, rfl, hb2, hs2, q0, q1, q2⟩ := dr_get (H2.out.keep HB.out) hlt
    obtain rfl : x = x2 := by rw [hs] at hs2; exact Option.some.inj hs2
    obtain ⟨x0, x1, x2⟩ := x
    have hi0 : (0 : Int) ≤ (i : Int) := by omega
    have hne := neq_dr x0 x1 x2 x0 x1 x2 true (by simp)
    have KS : Hid (∀ V, Below wo.heap.size wo V → (fun (V : World) => V.cell? ⟨b1, o1 + i * 3, none⟩ = some (.int .i64 x0) ∧ V.cell? ⟨b1, o1 + i * 3 + 1, none⟩ = some (.int .i64 x1) ∧ V.cell? ⟨b1, o1 + i * 3 + 2, none⟩ = some (.int .i64 x2) ∧ V.cell? ⟨b2, o2 + i * 3, none⟩ = some (.int .i64 x0) ∧ V.cell? ⟨b2, o2 + i * 3 + 1, none⟩ = some (.int .i64 x1) ∧ V.cell? ⟨b2, o2 + i * 3 + 2, none⟩ = some (.int .i64 x2)) V) := fun V hV => ⟨(hV.cell (p := ⟨b1, o1 + i * 3, none⟩) hb1).trans p0, (hV.cell (p := ⟨b1, o1 + i * 3 + 1, none⟩) hb1).trans p1, (hV.cell (p := ⟨b1, o1 + i * 3 + 2, none⟩) hb1).trans p2, (hV.cell (p := ⟨b2, o2 + i * 3, none⟩) hb2).trans q0, (hV.cell (p := ⟨b2, o2 + i * 3 + 1, none⟩) hb2).trans q1, (hV.cell (p := ⟨b2, o2 + i * 3 + 2, none⟩) hb2).trans q2⟩
    clear hs hs2 p0 p1 p2 q0 q1 q2
    go_upto_region 6 with fail
    have hdrw : Below wo.heap.size wo wo.drew := (Below.refl _ wo).drew
    refine wp_region_noPanic ?_
    refine wp_region_z [] (fun (V : World) => V.cell? ⟨b1, o1 + i * 3, none⟩ = some (.int .i64 x0) ∧ V.cell? ⟨b1, o1 + i * 3 + 1, none⟩ = some (.int .i64 x1) ∧ V.cell? ⟨b1, o1 + i * 3 + 2, none⟩ = some (.int .i64 x2) ∧ V.cell? ⟨b2, o2 + i * 3, none⟩ = some (.int .i64 x0) ∧ V.cell? ⟨b2, o2 + i * 3 + 1, none⟩ = some (.int .i64 x1) ∧ V.cell? ⟨b2, o2 + i * 3 + 2, none⟩ = some (.int .i64 x2)) (by kernel_rfl) ?_
    have hHeld := KS.out _ hdrw
    obtain ⟨u0, hu0⟩ : ∃ u, u = wo.drew := ⟨_, rfl⟩
    rw [← hu0] at hHeld hdrw
    rw [← hu0]
    clear hu0
    have HU0 := Lib.hid hdrw
    clear hdrw
    refine zt 0 ?_
    refine zt 1 ?_
    refine zt 2 ?_
    refine zt 3 ?_
    refine zt 4 ?_
    refine zt 5 ?_
    refine zt 6 ?_
    refine zt 7 ?_
    refine zt 8 ?_
    refine wpAnyZ_done (by kernel_rfl) ?_ _
    refine NoPanic.normal ?_
    clear hHeld
    have HBZ := Lib.hid (HB.out.trans (HU0.out.mono HB.out.size))
    clear KS HU0 hb1 hb2
    go_wp2
    go_roundw
    case rel => exact ⟨i + 1, rfl, by omega, HBZ.out⟩
    case measure => simp [intOf]; omega
  · have hd : decide (i < n) = false := decide_eq_false hlt
    go_wp2
    go_ret
    exact ⟨rfl, HB.out⟩
def GivesDrs (w : World) (l : List Dr) (e : Ending) (w' : World) : Prop := ∃ ad n cap, e = .returned (.slice ad n cap) ∧ RowAt drK w' ad n cap l ∧ Below w.heap.size w w'
theorem within_take {l : List Dr} {j : Nat} {x : Dr} (a b : Int) (h : l[j]? = some x) : withinD (l.take (j + 1)) a b = withinD (l.take j) a b ++ (if a < b ∧ x.first < b ∧ a ≤ x.last then [x] else []) := by
 unfold withinD
 rw [List.take_add_one, h, List.filter_append]
 congr 1
 show List.filter _ [x] = _
 by_cases hc : a < b ∧ x.first < b ∧ a ≤ x.last
 · rw [if_pos hc, List.filter_cons_of_pos (by simpa using hc)]; rfl
 · rw [if_neg hc, List.filter_cons_of_neg (by simpa using hc)]; rfl
theorem within_len (l : List Dr) (a b : Int) : (withinD l a b).length ≤ l.length := List.length_filter_le _ _
set_option maxRecDepth 100000 in
set_option maxHeartbeats 4000000 in
theorem refWithin_any (w : World) (ad : Option Addr) (n cap : Nat) (l : List Dr) (h : RowAt drK w ad n cap l) (hn : n ≤ 1000000) (fr t0 : Int) :
 Calls Try.prog 49 #[.slice ad n cap, .int .i64 fr, .int .i64 t0] w (GivesDrs w (withinD l fr t0)) := by
 have H := Lib.hid h
 have HNL := Lib.hid h.length
 clear h
 go_enter Try.func49, Try.ntmps49
 go_wp2
 go_loopw [7, 12] (fun v7 v12 wr => ∃ (j : Nat) (u : Value), u = v7 ∧ v12 = .int .i64 (j : Int) ∧ j ≤ n ∧ Hid (OwnRow drK wr w.heap.size u (withinD (l.take j) fr t0)) ∧ Hid (Below w.heap.size w wr)) (fun _ v12 _ => n - (intOf v12).toNat)
 case atStart => exact ⟨0, _, rfl, rfl, Nat.zero_le _, ownRow_nil _ _ _, Below.refl _ _⟩
 case round =>
  obtain ⟨j, u, rfl, rfl, hj, HO, HB⟩ := hrel
  obtain ⟨wo, hwo⟩ : ∃ wo : World, wo = wr := ⟨_, rfl⟩
  subst hwo
  by_cases hlt : j < n
  · have hd : decide (j < n) = true := decide_eq_true hlt
    have hjl : (j : Int) < (n : Int) := by omega
    obtain ⟨bk, off, x, rfl, hbk, hx, p0, p1, p2⟩ := dr_get (H.out.keep HB.out) hlt
    have HT := Lib.hid (within_take fr t0 hx)
    have HLEN : Hid ((withinD (l.take j) fr t0).length ≤ 1000000) := by
     show _ ≤ _
     have h1 := within_len (l.take j) fr t0
     rw [List.length_take] at h1
     omega
    obtain ⟨x0, x1, x2⟩ := x
    simp only at p0 p1 p2
    clear hx
    go_upto_region 5 with fail
    obtain ⟨W1, hW1⟩ : ∃ z, z = wo.alloc (.cells #[.int .i64 x0, .int .i64 x1, .int .i64 x2] 79) := ⟨_, rfl⟩
    obtain ⟨P, hP⟩ : ∃ P, P = wo.heap.size := ⟨_, rfl⟩
    have hb : Below wo.heap.size wo W1 := by rw [hW1]; exact (Below.refl _ _).alloc (Nat.le_refl _) _
    have HP : Hid (DBox W1 P ⟨x0, x1, x2⟩) := by show DBox _ _ _; rw [hW1, hP]; exact dbox_new wo ⟨x0, x1, x2⟩
    have HO1 := Lib.hid (HO.out.on hb)
    have HB1 := Lib.hid (HB.out.trans (hb.mono HB.out.size))
    rw [← hW1, ← hP]
    clear hW1 hP hb p0 p1 p2 hbk HO HB
    have r0 := HP.out.c0
    have r1 := HP.out.c1
    have r2 := HP.out.c2
    by_cases hc : fr < t0 ∧ x1 < t0 ∧ fr ≤ x2
    · obtain ⟨h1, h2, h3⟩ := hc
      have d1 : decide (fr < t0) = true := decide_eq_true h1
      have d2 : decide (x1 < t0) = true := decide_eq_true h2
      have d3 : decide (fr ≤ x2) = true := decide_eq_true h3
      have HT2 : Hid (withinD (l.take (j + 1)) fr t0 = withinD (l.take j) fr t0 ++ [⟨x0, x1, x2⟩]) := by show _ = _; rw [HT.out, if_pos ⟨h1, h2, h3⟩]
      clear h1 h2 h3 HT
      obtain ⟨W6, hW6⟩ : ∃ z, z = W1.alloc (.cells #[.int .i64 x0, .int .i64 x1, .int .i64 x2] 79) := ⟨_, rfl⟩
      have hb6 : Below W1.heap.size W1 W6 := by rw [hW6]; exact (Below.refl _ _).alloc (Nat.le_refl _) _
      have HLIT : Hid (RowAt drK W6 (some ⟨W1.heap.size, 0, none⟩) 1 1 [⟨x0, x1, x2⟩]) := by
       show RowAt _ _ _ _ _ _
       rw [hW6]
       exact rowAt_lit drK_ok W1 [⟨x0, x1, x2⟩] (by simp) _ rfl 1 rfl
      have HO6 := Lib.hid (HO1.out.on hb6)
      have HB6 := Lib.hid (HB1.out.trans (hb6.mono HB1.out.size))
      have HW6 := Lib.hid hW6
      clear hb6 hW6
      go_wp2_with (at_builtin; rw [← HW6.out]; refine list_row (by rfl) drK_ok (.tmp 31) (.tmp 33) rfl w.heap.size (withinD (l.take j) fr t0) [⟨x0, x1, x2⟩] u rfl HO6.out HB6.out.size (some ⟨W1.heap.size, 0, none⟩) 1 1 rfl HLIT.out (by have := HLEN.out; omega) ?_)
      intro v7 w7 hap
      have HO7 : Hid (OwnRow drK w7 w.heap.size v7 (withinD (l.take (j + 1)) fr t0)) := by
       show OwnRow _ _ _ _ _
       rw [HT2.out]
       exact hap.1
      have HB7 : Hid (Below w.heap.size w w7) := appended_below hap HO6.out HB6.out (Nat.le_refl _) HB6.out.size
      clear hap HO6 HB6 HLIT HW6 HO1 HB1
      go_wp2
      go_roundw
      case rel => exact ⟨j + 1, v7, rfl, rfl, by omega, HO7.out, HB7.out⟩
      case measure => simp [intOf]; omega
    · have HO7 : Hid (OwnRow drK W1 w.heap.size u (withinD (l.take (j + 1)) fr t0)) := by
       show OwnRow _ _ _ _ _
       rw [HT.out, if_neg hc, List.append_nil]
       exact HO1.out
      have hcs : decide (fr < t0) = false ∨ (decide (fr < t0) = true ∧ decide (x1 < t0) = false) ∨ (decide (fr < t0) = true ∧ decide (x1 < t0) = true ∧ decide (fr ≤ x2) = false) := by
       simp only [decide_eq_true_eq, decide_eq_false_iff_not]
       omega
      clear hc HT HO1
      rcases hcs with d1 | ⟨d1, d2⟩ | ⟨d1, d2, d3⟩
      · go_wp2
        go_roundw
        case rel => exact ⟨j + 1, u, rfl, rfl, by omega, HO7.out, HB1.out⟩
        case measure => simp [intOf]; omega
      · go_wp2
        go_roundw
        case rel => exact ⟨j + 1, u, rfl, rfl, by omega, HO7.out, HB1.out⟩
        case measure => simp [intOf]; omega
      · go_wp2
        go_roundw
        case rel => exact ⟨j + 1, u, rfl, rfl, by omega, HO7.out, HB1.out⟩
        case measure => simp [intOf]; omega
  · have hd : decide (j < n) = false := decide_eq_false hlt
    have hjn : j = n := by omega
    have HFIN : Hid (OwnRow drK wo w.heap.size u (withinD l fr t0)) := by
     have h1 := HO.out
     rw [hjn, List.take_of_length_le (by rw [HNL.out]; exact Nat.le_refl _)] at h1
     exact h1
    clear hjn
    obtain ⟨ad9, cap9, rfl, hr9, _⟩ := OwnRow.row drK_ok HFIN.out rfl
    have HR9 := Lib.hid hr9
    clear hr9
    go_wp2
    go_ret
    exact ⟨_, _, _, rfl, HR9.out, HB.out⟩
end Go.Proofs.Ytipaebflkebdjaa
