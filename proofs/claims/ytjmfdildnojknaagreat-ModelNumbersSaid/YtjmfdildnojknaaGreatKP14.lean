/- Parts of a proof. -/
import Derived.Test.YtjmfdildnojknaaGreatKP13
set_option maxRecDepth 100000
set_option maxHeartbeats 16000000
set_option linter.unusedVariables false
namespace Go.Proofs.YtjmfdildnojknaaGreat
open Go.RowKit
open Go.ProdMath
open Go.BatMath hiding AllB getD_lt take_all In64
noncomputable def askD (cap start : Int) (bs : List Bat) (m : Am) : (Int × Int) × List Bat :=
 if m.kind = 1 then produceD cap start bs m.b else if m.kind = 2 then rawD cap start bs m.bytes else if m.kind = 3 then markD cap start bs m.b.prod m.b.epoch m.b.marker else ((-1, 0), bs)
def ABox (w : World) (k : Nat) (m : Am) : Prop := w.heap[k]? = some (.cells #[.int .i64 m.kind, .int .i64 m.b.base, .int .i64 m.b.prod, .int .i64 m.b.epoch, .int .i64 m.b.seq, .bool m.b.txn, .int .i64 m.b.marker, .slice m.bad m.b.recs.length m.bcap, .slice m.yad m.ylen m.ycap, .int .i64 m.fr, .int .i64 m.n, .bool m.only, .slice m.kad m.klen m.kcap, .slice m.gad m.glen m.gcap] 33 (0, 0))
theorem ABox.cells {w : World} {k : Nat} {m : Am} (h : ABox w k m) : AmCells w k 0 m := by
 constructor <;> (rw [cell_of_row _ _ _ _ _ _ h]; rfl)
theorem abox_new (w : World) (m : Am) : ABox (w.alloc (.cells #[.int .i64 m.kind, .int .i64 m.b.base, .int .i64 m.b.prod, .int .i64 m.b.epoch, .int .i64 m.b.seq, .bool m.b.txn, .int .i64 m.b.marker, .slice m.bad m.b.recs.length m.bcap, .slice m.yad m.ylen m.ycap, .int .i64 m.fr, .int .i64 m.n, .bool m.only, .slice m.kad m.klen m.kcap, .slice m.gad m.glen m.gcap] 33)) w.heap.size m := heap_alloc_new w _
theorem asks_any {N : Nat → Prop} (w : World) (km : Nat) (mc start : Int) (ad : Option Addr) (len cap : Nat) (ms : List BM) (h : MOk N w km mc start ad len cap ms) (hL : len ≤ 99999) (hok : RowOk (bats ms)) (hend : 0 ≤ endD start (bats ms) ∧ endD start (bats ms) ≤ 1099511627792) (m : Am) (hm : AmIn w m) :
 Calls Tryz.prog 33 #[.pointer (some ⟨km, 0, none⟩), .agg #[.int .i64 m.kind, .int .i64 m.b.base, .int .i64 m.b.prod, .int .i64 m.b.epoch, .int .i64 m.b.seq, .bool m.b.txn, .int .i64 m.b.marker, .slice m.bad m.b.recs.length m.bcap, .slice m.yad m.ylen m.ycap, .int .i64 m.fr, .int .i64 m.n, .bool m.only, .slice m.kad m.klen m.kcap, .slice m.gad m.glen m.gcap]] w (GivesPut N w km mc start (askD mc start (bats ms) m)) := by
 have H := qh h
 have HOK := qh hok
 have HEND := qh hend
 have HM := qh hm
 have HD : Hid (askD mc start (bats ms) m = if m.kind = 1 then produceD mc start (bats ms) m.b else if m.kind = 2 then rawD mc start (bats ms) m.bytes else if m.kind = 3 then markD mc start (bats ms) m.b.prod m.b.epoch m.b.marker else ((-1, 0), bats ms)) := rfl
 clear h hok hend hm
 go_enter Tryz.func33, Tryz.ntmps33
 go_upto_region 1 with fail
 obtain ⟨W1, hW1⟩ := exq (w.alloc (.cells #[.int .i64 m.kind, .int .i64 m.b.base, .int .i64 m.b.prod, .int .i64 m.b.epoch, .int .i64 m.b.seq, .bool m.b.txn, .int .i64 m.b.marker, .slice m.bad m.b.recs.length m.bcap, .slice m.yad m.ylen m.ycap, .int .i64 m.fr, .int .i64 m.n, .bool m.only, .slice m.kad m.klen m.kcap, .slice m.gad m.glen m.gcap] 33))
 obtain ⟨P, hP⟩ := exq w.heap.size
 have hb1 := wbq hW1
 have HX1 : Hid (ABox W1 P m) := by rw [hW1, hP]; exact abox_new w m
 have HM1 := qh (HM.out.keep hb1)
 have HB := qh hb1
 have H1 := qh (H.out.keep hb1)
 rw [← hW1, ← hP]
 clear hW1 hP hb1 HM
 have p0 := HX1.out.cells.c0
 by_cases k1 : m.kind = 1
 · have e1 : (m.kind == 1) = true := by rw [k1]; rfl
   have HFIN : Hid (askD mc start (bats ms) m = produceD mc start (bats ms) m.b) := by show _ = _; rw [HD.out, if_pos k1]
   have p1 := HX1.out.cells.c1
   have p2 := HX1.out.cells.c2
   have p3 := HX1.out.cells.c3
   have p4 := HX1.out.cells.c4
   have p5 := HX1.out.cells.c5
   have p6 := HX1.out.cells.c6
   have p7 := HX1.out.cells.c7
   simp only [Nat.zero_add] at p1 p2 p3 p4 p5 p6 p7
   clear k1 HD
   go_wp2_with fail
   refine (produce_any W1 km mc start ad len cap ms H1.out hL HOK.out HEND.out m.b.base m.b.prod m.b.epoch m.b.seq m.b.txn m.b.marker m.b.recs m.bad m.bcap HM1.out.recs HM1.out.texts HM1.out.few HM1.out.prod _ HFIN.out.symm).mono ?_
   rintro e w2 hp
   obtain ⟨ad2, len2, cap2, ms2, rfl, hm2, hb2, hg2⟩ := gives_put_below HB.out hp
   have HM2 := qh hm2
   have HB2 := qh hb2
   have HG2 := qh hg2
   obtain ⟨r, hr⟩ := exq (askD mc start (bats ms) m)
   rw [← hr] at HB2 ⊢
   have HRR := qh hr
   obtain ⟨⟨ra, rb⟩, rl⟩ := r
   simp only at HB2 ⊢
   clear hp hm2 hb2 hg2 p0 p1 p2 p3 p4 p5 p6 p7 hr
   go_wp2_with fail
   go_ret2
   exact gives_put HRR.out.symm HM2.out HB2.out HG2.out
 have e1 : (m.kind == 1) = false := by simpa using k1
 by_cases k2 : m.kind = 2
 · have e2 : (m.kind == 2) = true := by rw [k2]; rfl
   have HFIN : Hid (askD mc start (bats ms) m = rawD mc start (bats ms) m.bytes) := by show _ = _; rw [HD.out, if_neg k1, if_pos k2]
   have p8 := HX1.out.cells.c8
   simp only [Nat.zero_add] at p8
   clear k1 k2 HD
   go_wp2_with fail
   refine (raw_any W1 km mc start ad len cap ms H1.out hL HOK.out HEND.out m.yad m.ylen m.ycap m.bytes HM1.out.byt HM1.out.long).mono ?_
   rintro e w2 hp
   rw [← HFIN.out] at hp
   obtain ⟨ad2, len2, cap2, ms2, rfl, hm2, hb2, hg2⟩ := gives_put_below HB.out hp
   have HM2 := qh hm2
   have HB2 := qh hb2
   have HG2 := qh hg2
   obtain ⟨r, hr⟩ := exq (askD mc start (bats ms) m)
   rw [← hr] at HB2 ⊢
   have HRR := qh hr
   obtain ⟨⟨ra, rb⟩, rl⟩ := r
   simp only at HB2 ⊢
   clear hp hm2 hb2 hg2 p0 p8 hr
   go_wp2_with fail
   go_ret2
   exact gives_put HRR.out.symm HM2.out HB2.out HG2.out
 have e2 : (m.kind == 2) = false := by simpa using k2
 by_cases k3 : m.kind = 3
 rotate_left
 · have e3 : (m.kind == 3) = false := by simpa using k3
   have HFIN : Hid (askD mc start (bats ms) m = ((-1, 0), bats ms)) := by show _ = _; rw [HD.out, if_neg k1, if_neg k2, if_neg k3]
   clear k1 k2 k3 HD
   go_wp2_with fail
   go_ret2
   exact gives_put HFIN.out H1.out rfl (grow_below (grow_refl w _) HB.out)
 have e3 : (m.kind == 3) = true := by rw [k3]; rfl
 have HFIN : Hid (askD mc start (bats ms) m = markD mc start (bats ms) m.b.prod m.b.epoch m.b.marker) := by show _ = _; rw [HD.out, if_neg k1, if_neg k2, if_pos k3]
 have p2 := HX1.out.cells.c2
 have p3 := HX1.out.cells.c3
 have p6 := HX1.out.cells.c6
 simp only [Nat.zero_add] at p2 p3 p6
 clear k1 k2 k3 HD
 go_wp2_with fail
 refine (mark_any W1 km mc start ad len cap ms H1.out hL HOK.out HEND.out m.b.prod m.b.epoch m.b.marker HM1.out.prod _ HFIN.out.symm).mono ?_
 rintro e w2 hp
 obtain ⟨ad2, len2, cap2, ms2, rfl, hm2, hb2, hg2⟩ := gives_put_below HB.out hp
 have HM2 := qh hm2
 have HB2 := qh hb2
 have HG2 := qh hg2
 obtain ⟨r, hr⟩ := exq (askD mc start (bats ms) m)
 rw [← hr] at HB2 ⊢
 have HRR := qh hr
 obtain ⟨⟨ra, rb⟩, rl⟩ := r
 simp only at HB2 ⊢
 clear hp hm2 hb2 hg2 p0 p2 p3 p6 hr
 go_wp2_with fail
 go_ret2
 exact gives_put HRR.out.symm HM2.out HB2.out HG2.out
end Go.Proofs.YtjmfdildnojknaaGreat
namespace Go.Proofs.YtjmfdildnojknaaGreat
open Go.RowKit
open Go.FoMath
open Go.ProdMath
open Go.BatMath hiding AllB getD_lt take_all In64
theorem row_off_blk {α : Type} {K : Kind α} {w : World} {P i : Nat} {z : Value} {ad : Option Addr} {len cap : Nat} {l : List α} (h : RowAt K w ad len cap l) (hno : ∀ x off, ∃ j u, (K.enc x)[j]? = some u ∧ w.cell? ⟨P, off + j, none⟩ ≠ some u) : RowAt K (w.setCell ⟨P, i, none⟩ z) ad len cap l := by
 refine ⟨h.length, h.fits, h.room, ?_⟩
 rcases h.cells with h0 | ⟨b, off, e, hlt, hc⟩
 · exact .inl h0
 rcases Nat.eq_zero_or_pos len with h0 | h0
 · exact .inl h0
 have hb : b ≠ P := fun hbp => by
  obtain ⟨x, hx⟩ : ∃ x, l[0]? = some x := ⟨_, List.getElem?_eq_getElem (by rw [h.length]; exact h0)⟩
  obtain ⟨j, u, hj, hn⟩ := hno x (off + 0 * K.size)
  refine hn ?_
  rw [Nat.add_assoc, ← hbp]
  exact hc 0 x hx j u hj
 refine .inr ⟨b, off, e, by simpa using hlt, fun k x hk j u hj => ?_⟩
 have h1 := hc k x hk j u hj
 have e1 := box_off (i := i) (u := z) (w := w) (k := b) (j := P) (o := _) (Array.getElem?_eq_getElem hlt) (fun e => hb e.symm)
 unfold World.cell? at h1 ⊢
 rw [Array.getElem?_eq_getElem hlt] at h1
 simp only [e1]
 exact h1
theorem fbox_cell {w : World} {P : Nat} {a0 a1 : Option Addr} {n0 c0 n1 c1 : Nat} {x2 x3 : Int} (hf : FBox w P (.slice a0 n0 c0) (.slice a1 n1 c1) x2 x3) (i : Nat) : w.cell? ⟨P, i, none⟩ = none ∨ (∃ a n c, w.cell? ⟨P, i, none⟩ = some (.slice a n c)) ∨ ∃ k x, w.cell? ⟨P, i, none⟩ = some (.int k x) := by
 rw [cell_of_row _ _ i _ _ _ hf]
 match i with
 | 0 => exact .inr (.inl ⟨_, _, _, rfl⟩)
 | 1 => exact .inr (.inl ⟨_, _, _, rfl⟩)
 | 2 => exact .inr (.inr ⟨_, _, rfl⟩)
 | 3 => exact .inr (.inr ⟨_, _, rfl⟩)
 | i + 4 => exact .inl rfl
theorem fbox_str {w : World} {P : Nat} {a0 a1 : Option Addr} {n0 c0 n1 c1 : Nat} {x2 x3 : Int} (hf : FBox w P (.slice a0 n0 c0) (.slice a1 n1 c1) x2 x3) (i : Nat) (s : ByteArray) : w.cell? ⟨P, i, none⟩ ≠ some (.string s) := fun e => by
 rcases fbox_cell hf i with h | ⟨a, n, c, h⟩ | ⟨k, x, h⟩ <;> rw [e] at h <;> cases h
theorem resultsModFetch {tmps : Array Value} {B : Nat} {W : World} {v0 v1 : Value} {x2 x3 : Int} {x : Value} (h : FBox W B v0 v1 x2 x3) (ht : tmps.getD 8 undef = .pointer (some ⟨B, 0, none⟩)) (hx : tmps.getD 9 undef = x) :
 (results Tryz.f30 tmps).run Tryz.prog W = .ok (.tuple #[.agg #[v0, v1, .int .i64 x2, .int .i64 x3], x]) W := by
 rw [results_cell_tmp (p := 8) (u := 9) (ty := 73) Tryz.results30, ht]
 have hl := run_loadVar_row (P := Tryz.prog) W B 73 73 _ (0, 0) _ h Tryz.underlying73 rfl (by kernel_rfl)
 simp only [asAddr, Sem.run_pure, Result.andThen, hl, hx]
theorem fo_gots_set2 {w : World} {ad : Option Addr} {len cap P : Nat} {l : List Gt} {x0 x1 : Int} (h : RowAt gtK w ad len cap l) (hf : FBox w P (.slice none 0 0) (.slice none 0 0) x0 x1) (v0 : Option Addr) (n0 c0 : Nat) (v1 : Option Addr) (n1 c1 : Nat) (x2 x3 : Int) : RowAt gtK ((((w.setCell ⟨P, 0, none⟩ (.slice v0 n0 c0)).setCell ⟨P, 1, none⟩ (.slice v1 n1 c1)).setCell ⟨P, 2, none⟩ (.int .i64 x2)).setCell ⟨P, 3, none⟩ (.int .i64 x3)) ad len cap l :=
 row_off_blk (row_off_blk (row_off_blk (row_off_blk h fun x off => ⟨2, _, rfl, fbox_str hf _ _⟩) fun x off => ⟨2, _, rfl, fbox_str (hf.s0 _) _ _⟩) fun x off => ⟨2, _, rfl, fbox_str ((hf.s0 _).s1 _) _ _⟩) fun x off => ⟨2, _, rfl, fbox_str (((hf.s0 _).s1 _).s2 _) _ _⟩
theorem fo_drs_set2 {w : World} {ad : Option Addr} {len cap P : Nat} {l : List Dr} {x0 x1 : Int} (h : RowAt drK w ad len cap l) (hf : FBox w P (.slice none 0 0) (.slice none 0 0) x0 x1) (v0 : Option Addr) (n0 c0 : Nat) (v1 : Option Addr) (n1 c1 : Nat) (x2 x3 : Int) : RowAt drK ((((w.setCell ⟨P, 0, none⟩ (.slice v0 n0 c0)).setCell ⟨P, 1, none⟩ (.slice v1 n1 c1)).setCell ⟨P, 2, none⟩ (.int .i64 x2)).setCell ⟨P, 3, none⟩ (.int .i64 x3)) ad len cap l :=
 dr_past (dr_past (dr_past (dr_past h hf _ _) (hf.s0 _) _ _) ((hf.s0 _).s1 _) _ _) (((hf.s0 _).s1 _).s2 _) _ _
theorem modFetch_any {N : Nat → Prop} (w : World) (km : Nat) (mc start : Int) (ad : Option Addr) (len cap : Nat) (ms : List BM) (h : MOk N w km mc start ad len cap ms) (hL : len ≤ 5000) (hr : FoRow start (bats ms)) (o n : Int) (only : Bool) :
 Calls Tryz.prog 30 #[.pointer (some ⟨km, 0, none⟩), .int .i64 o, .int .i64 n, .bool only] w (GivesFd w (fetchD start (bats ms) o n only)) := by
 have H := qh h
 have HR := qh hr
 obtain ⟨⟨⟨rs, ds, nx, st⟩, er⟩, hr0⟩ : ∃ r, fetchD start (bats ms) o n only = r := ⟨_, rfl⟩
 rw [hr0]
 have HR0 := qh hr0
 clear h hr hr0
 go_enter Tryz.func30, Tryz.ntmps30
 go_upto_region 1 with fail
 obtain ⟨W0, hW0⟩ := exq (w.alloc (.cells #[.slice none 0 0, .slice none 0 0, .int .i64 0, .int .i64 0] 73))
 obtain ⟨P, hP⟩ := exq w.heap.size
 have hb0 := wbq hW0
 have HP0 : Hid (FBox W0 P (.slice none 0 0) (.slice none 0 0) 0 0) := by rw [hW0, hP]; exact fbox_new w _ _ _ _
 have HWP : Hid (w.heap.size ≤ P ∧ km < P ∧ P < W0.heap.size) := by
  have := H.out.box.lt
  show _ ∧ _ ∧ _
  refine ⟨by omega, by omega, HP0.out.lt⟩
 have H0 := qh (H.out.keep hb0)
 have HB0 := qh hb0
 rw [← hW0, ← hP]
 clear hW0 hP hb0 H
 have KS : Hid (∀ V, Below W0.heap.size W0 V → (fun (V : World) => V.cell? ⟨km, 1, none⟩ = some (.int .i64 start) ∧ V.cell? ⟨km, 2, none⟩ = some (.slice ad len cap)) V) := fun V hV => ⟨(H0.out.box.on hV).c1, (H0.out.box.on hV).c2⟩
 refine zs [] KS fun u0 HU0 hHeld => ?_
 refine zt 0 ?_
 refine zt 1 ?_
 refine zt 2 ?_
 refine zt 3 ?_
 refine zt 4 ?_
 refine zt 5 ?_
 refine zt 6 ?_
 refine zt 7 ?_
 refine zt 8 ?_
 refine zt 9 ?_
 refine zt 10 ?_
 refine zr 11 (fun C hC => ?_)
 go_simp
 refine (refFetch_any u0 start ad len cap ms (H0.out.keep HU0.out).bats hL HR.out o n only).mono ?_
 rintro e u1 ⟨va, rfl, hfa, hb⟩
 rw [HR0.out] at hfa ⊢
 obtain ⟨qa, qn, qc, ea, en, ec, rfl, hqa, hea⟩ := hfa
 simp only at hqa hea ⊢
 have HU1 : Hid (Below W0.heap.size W0 u1) := HU0.out.trans (hb.mono HU0.out.size)
 have HP1 : Hid (FBox u1 P (.slice none 0 0) (.slice none 0 0) 0 0) := HP0.out.on HU1.out
 have HQ := qh hqa
 have HE := qh hea
 clear hb hqa hea
 have hHeld := KS.out _ HU1.out
 refine zc hC hHeld ?_
 clear hC C
 refine zt 12 ?_
 refine zt 13 ?_
 have f0 := HP1.out.free 0
 have f1 := HP1.out.free 1
 have f2 := HP1.out.free 2
 have f3 := HP1.out.free 3
 have p0 := HP1.out.c0
 have p1 := HP1.out.c1
 have p2 := HP1.out.c2
 have p3 := HP1.out.c3
 refine zr 14 (fun C hC => ?_)
 go_simp
 obtain ⟨u2, hu2⟩ : ∃ z, z = (((u1.setCell ⟨P, 0, none⟩ (.slice qa qn qc)).setCell ⟨P, 1, none⟩ (.slice ea en ec)).setCell ⟨P, 2, none⟩ (.int .i64 nx)).setCell ⟨P, 3, none⟩ (.int .i64 st) := ⟨_, rfl⟩
 have HZ : Hid (FBox u2 P (.slice qa qn qc) (.slice ea en ec) nx st) := by rw [hu2]; exact (((HP1.out.s0 _).s1 _).s2 _).s3 _
 have HKM : Hid ((fun (V : World) => V.cell? ⟨km, 1, none⟩ = some (.int .i64 start) ∧ V.cell? ⟨km, 2, none⟩ = some (.slice ad len cap)) u2) := by
  have h1 := KS.out _ HU1.out
  have h2 := (H0.out.box.on HU1.out)
  have h3 : MBox u2 km mc start (.slice ad len cap) := by
   have hne : P ≠ km := fun e => by have := HWP.out.2.1; omega
   rw [hu2]
   exact box_off (box_off (box_off (box_off h2 hne _) hne _) hne _) hne _
  exact ⟨h3.c1, h3.c2⟩
 have HQS : Hid (RowAt gtK u2 qa qn qc rs) := by rw [hu2]; exact fo_gots_set2 HQ.out HP1.out _ _ _ _ _ _ _ _
 have HES : Hid (RowAt drK u2 ea en ec ds) := by rw [hu2]; exact fo_drs_set2 HE.out HP1.out _ _ _ _ _ _ _ _
 have HBZ : Hid (Below w.heap.size w u2) := by
  have h1 := HB0.out.trans (HU1.out.mono HB0.out.size)
  have h2 := HWP.out.1
  show Below _ _ _
  rw [hu2]
  exact (((h1.setCell h2 _).setCell h2 _).setCell h2 _).setCell h2 _
 (try rw [← hu2])
 clear hu2 f0 f1 f2 f3 p0 p1 p2 p3
 have hHeld := hq KS u2 (HKM.out)
 refine zc hC hHeld ?_
 clear hC C
 refine zt 15 ?_
 refine zd ?_
 clear hHeld KS
 go_wp2
 refine bodyPost_ret (v := .tuple #[.agg #[.slice qa qn qc, .slice ea en ec, .int .i64 nx, .int .i64 st], .int .i64 er]) (resultsModFetch HZ.out rfl rfl) rfl ?_
 exact ⟨_, rfl, ⟨_, _, _, _, _, _, rfl, HQS.out, HES.out⟩, HBZ.out⟩
end Go.Proofs.YtjmfdildnojknaaGreat
namespace Go.Proofs.YtjmfdildnojknaaGreat
open Go.RowKit
open Go.FoMath
open Go.AbMath (withinD)
open Go.ProdMath
open Go.BatMath hiding AllB getD_lt take_all In64
theorem askW_grows {cap start : Int} {bs : List Bat} {m : Am} (h : RowW start bs) (hp : m.b.prod ≤ 9223372036854775807) (hx : VarMath.AllB m.bytes) : GrowsW start bs (askD cap start bs m) := by
 unfold askD
 split
 · exact produceW_grows h hp
 split
 · exact rawW_grows h hx
 split
 · exact markW_grows h hp
 exact ⟨h, Nat.le_succ _, by show endD start bs ≤ _; omega⟩
theorem LogRow.grows {s : Int} {bs : List Bat} {r : (Int × Int) × List Bat} (h : LogRow s bs) (hg : GrowsW s bs r) (hl : bs.length + 1 ≤ 5000) : LogRow s r.2 := ⟨hg.1, h.lo, h.hi, by have := hg.2.1; omega⟩
theorem LogRow.keepD {s fr : Int} {bs : List Bat} (h : LogRow s bs) : LogRow (ProdMath.keepD s fr bs).1 (ProdMath.keepD s fr bs).2 ∧ (ProdMath.keepD s fr bs).2.length ≤ bs.length ∧ endD (ProdMath.keepD s fr bs).1 (ProdMath.keepD s fr bs).2 = endD s bs := by
 obtain ⟨h1, h2, h3⟩ := keep_row (fr := fr) h.row
 have h4 : (ProdMath.keepD s fr bs).2.length ≤ bs.length := by
  unfold ProdMath.keepD
  split
  · show (bs.drop _).length ≤ _
    rw [List.length_drop]; omega
  exact Nat.le_refl _
 have h5 := (rowW_bases h1).2.2
 have h6 := h.end_
 have h7 := h.lo
 have h8 := h.few
 exact ⟨⟨h1, by omega, by omega, by omega⟩, h4, h3⟩
theorem fetchW_len {s : Int} {bs : List Bat} (h : LogRow s bs) (o n : Int) (only : Bool) : (fetchD s bs o n only).1.recs.length ≤ 80000 ∧ (fetchD s bs o n only).1.drs.length ≤ 5000 := by
 have hf := h.few
 have h1 : ∀ z, (recordsD bs o z).length ≤ 80000 := fun z => by
  have := recordsD_few (a := o) (z := z) (l := bs) (fun b hb => (h.fo.few b hb).2.2)
  omega
 unfold fetchD
 split
 · exact ⟨Nat.zero_le _, Nat.zero_le _⟩
 split
 · exact ⟨Nat.zero_le _, Nat.zero_le _⟩
 refine ⟨?_, ?_⟩
 · show (List.take _ _).length ≤ _
   rw [List.length_take]
   have := h1 (if only = true then stableD s bs else endD s bs)
   omega
 show (if only = true then withinD (foldR [] bs) o _ else []).length ≤ _
 split
 · have h2 := AbMath.drops_len bs []
   refine Nat.le_trans (List.length_filter_le _ _) ?_
   (try simp only [List.length_nil] at h2)
   omega
 exact Nat.zero_le _
theorem mdPlay_any {R : LogP} (C : MdCode R) (w : World) (size : Int) (hz1 : 1 ≤ size) (hz2 : size ≤ 1073741824) (ad : Option Addr) (len cap : Nat) (l : List Am) (h : AmsAt w ad len cap l) :
 Calls Tryz.prog 8 #[.int .i64 size, .slice ad len cap] w (GivesBool w true) := by
 have HC := qh C
 have HA := qh h
 clear C h
 go_enter Tryz.func8, Tryz.ntmps8
 go_wp2_with fail
 refine (HC.out.new w 1 1 1 size hz1 hz2).mono ?_
 rintro e w1 hp
 have HP := qh hp
 obtain ⟨a, e1, hb1⟩ : ∃ a, e = .returned (.pointer (some a)) ∧ Below w.heap.size w w1 := by
  obtain ⟨a, F, e1, h1, h2, h3⟩ := hp
  exact ⟨a, e1, h3⟩
 clear hp hz1 hz2
 subst e1
 have HB1 := qh hb1
 clear hb1
 go_upto_region 2 with fail
 obtain ⟨W2, hW2⟩ := exq (w1.alloc (.cells #[.int .i64 size, .int .i64 0, .slice none 0 0] 44))
 obtain ⟨km, hkm⟩ := exq w1.heap.size
 have hb2 := wbq hW2
 have HBW : Hid (Below w.heap.size w W2) := HB1.out.trans (hb2.mono HB1.out.size)
 have HD2 : Hid (Dbl R w.heap.size (fun _ => False) W2 a size 0 [] km size 0 []) := by
  obtain ⟨a', e2, h2, -⟩ := dbl_new (km := km) (mc := size) (X := fun _ => False) HC.out HP.out hb2 (by rw [hkm]; exact Nat.le_refl _) (by
   show W2.heap[km]? = _
   rw [hW2, hkm]; exact heap_alloc_new w1 _) (fun k hk => hk.elim)
  have e3 : a = a' := Option.some.inj (Value.pointer.inj (Ending.returned.inj e2))
  subst e3
  exact h2
 (try rw [← hW2])
 (try rw [← hkm])
 clear hW2 hkm hb2 HB1 HP
 go_wp2
 go_loopw [7] (fun v7 wr => ∃ (i : Nat) (s : Int) (bs : List Bat), v7 = .int .i64 (i : Int) ∧ i ≤ 120 ∧ Hid (bs.length ≤ i) ∧ Hid (endD s bs ≤ 16 * (i : Int)) ∧ Hid (Dbl R w.heap.size (fun _ => False) wr a size s bs km size s bs) ∧ Hid (Below w.heap.size w wr)) (fun v7 _ => 120 - (intOf v7).toNat)
 case atStart => exact ⟨0, 0, [], rfl, by decide, Nat.le_refl _, by show (0 : Int) ≤ _; decide, HD2.out, HBW.out⟩
 obtain ⟨i, s, bs, rfl, hi, HBL, HEL, HD, HB⟩ := hrel
 clear HD2 HBW
 obtain ⟨wo, hwo⟩ := exq wr
 subst hwo
 by_cases hlt : i < len ∧ i < 120
 rotate_left
 · have hcs : (¬ i < len) ∨ (i < len ∧ ¬ i < 120) := by omega
   clear hlt
   rcases hcs with hc1 | ⟨hc1, hc2⟩
   · have hd : decide (i < len) = false := decide_eq_false hc1
     have hdi : decide ((i : Int) < (len : Int)) = false := decide_eq_false (by omega)
     clear hc1
     go_wp2_with fail
     obtain ⟨F, ad2, len2, cap2, ms2, g1, g2, g3, -⟩ := HD.out.is
     refine (mdSame_any HC.out wo F a size s bs g1 HD.out.row km size ad2 len2 cap2 ms2 g2 g3).mono ?_
     rintro e w2 ⟨rfl, hb⟩
     have HD2 := qh (HD.out.on HC.out hb)
     have HB2 := qh (HB.out.trans (hb.mono HB.out.size))
     clear g1 g2 g3 hb HD HB
     obtain ⟨F, mad, mlen, mcap, ms, g1, g2, g3, g4, -, g6⟩ := HD2.out.is
     have HG1 := qh g1
     have HG2 := qh g2
     have HMB := qh g3
     have HFB := qh g4
     have HLR := qh HD2.out.row
     clear g1 g2 g3 g4 g6 HD2
     go_wp2_with fail
     refine (HC.out.copy F w2 a size s bs HG1.out HLR.out).mono ?_
     rintro e w3 ⟨a2, F2, rfl, h1, h2, h3⟩
     have HR2 : Hid (R F2 w3 a2 size s bs) := h1
     have HR1 : Hid (R F w3 a size s bs) := HC.out.keep' HG1.out h3
     have HDJ : Hid (∀ k, F k → ¬ F2 k) := fun k hf hf2 => by
      have := HC.out.lt F w2 a size s bs HG1.out k hf
      have := h2 k hf2
      omega
     have HF2 : Hid (∀ k, F2 k → w.heap.size ≤ k) := fun k hf => by have := h2 k hf; have := HB2.out.size; omega
     have HK2 : Hid (¬ F2 km) := fun hf => by have := h2 km hf; have := lt_of_block HG2.out.box; omega
     have HM3 : Hid (MOk (fun k => ¬ F2 k) w3 km size s mad mlen mcap ms) := HG2.out.move (G := fun _ => False) (Kept.of_below h3) (fun h => h) (fun _ _ _ h => h) (fun k hk hn hf => by have := h2 k hf; omega) (fun k hk hf => by have := HC.out.lt F2 w3 a2 size s bs HR2.out k hf; omega)
     have HB3 := qh (HB2.out.trans (h3.mono HB2.out.size))
     clear h1 h2 h3 HG1 HG2 HB2
     go_wp2_with fail
     refine (mdSame_any HC.out w3 F2 a2 size s bs HR2.out HLR.out km size mad mlen mcap ms HM3.out HMB.out).mono ?_
     rintro e w4 ⟨rfl, hb⟩
     have HR2' : Hid (R F2 w4 a2 size s bs) := HC.out.keep' HR2.out hb
     have HR1' : Hid (R F w4 a size s bs) := HC.out.keep' HR1.out hb
     have HM4 := qh (HM3.out.keep hb)
     have HB4 := qh (HB3.out.trans (hb.mono HB3.out.size))
     have HML : Hid (mlen = bs.length ∧ mlen ≤ 5000) := by
      show _ ∧ _
      have h1 := mok_len HM3.out
      rw [HMB.out] at h1
      have h2 := HLR.out.few
      exact ⟨h1.symm, by omega⟩
     clear hb HR2 HR1 HM3 HB3
     have p2 := HM4.out.box.c2
     obtain ⟨k, hk⟩ := exq (mlen / 2)
     have hkd : ((mlen : Int).tdiv 2) = (k : Int) := by rw [hk, Int.tdiv_eq_ediv_of_nonneg (by omega)]; omega
     have HKL : Hid (k ≤ bs.length ∧ k ≤ mlen) := by show _ ∧ _; have := HML.out.1; omega
     have hwk : wrap64 (k : Int) = (k : Int) := by have := HML.out; unfold wrap64; omega
     clear hk
     go_wp2_with fail
     try rw [hwk]
     refine (HC.out.cut F2 w4 a2 size s bs k HR2'.out HLR.out HKL.out.1).mono ?_
     rintro e w5 ⟨F3, rfl, h5, hk5, hf3⟩
     have HR3 : Hid (R F3 w5 a2 size s (bs.take k)) := h5
     have HR5 : Hid (R F w5 a size s bs) := HC.out.kept F F2 w4 w5 a size s bs HR1'.out hk5 HDJ.out
     have HM5 : Hid (MOk (fun _ => True) w5 km size s mad mlen mcap ms) := HM4.out.move hk5 HK2.out (fun k _ hn => hn) (fun _ _ _ => trivial) (fun _ _ => trivial)
     have HB5 : Hid (Below w.heap.size w w5) := HB4.out.trans (hk5.below HF2.out HB4.out.size)
     clear h5 hk5 hf3 HR2' HR1' HM4 HB4 p2 hkd hwk
     go_upto_region 37 with fail
     have hdrw : Below w5.heap.size w5 w5.drew := (Below.refl _ w5).drew
     have KS : Hid (∀ V, Below w5.heap.size w5 V → (fun (V : World) => V.cell? ⟨km, 2, none⟩ = some (.slice mad mlen mcap)) V) := fun V hV => (HM5.out.keep hV).box.c2
     refine wp_region_noPanic ?_
     refine zk [] KS ?_
     have hHeld := KS.out _ hdrw
     obtain ⟨v0, hv⟩ := exq w5.drew
     rw [← hv] at hHeld hdrw
     rw [← hv]
     have HU := qh hdrw
     clear hv hdrw
     have hsu : ∀ V, (Instr.slice 42 (.slice mad mlen mcap) none (some (.int .i64 (k : Int))) none).run Tryz.prog V = .ok (.slice mad k mcap) V := row_upto batK_ok _ mlen mcap k (Nat.le_trans HKL.out.2 HM5.out.bats.row.fits)
     refine zt 0 ?_
     refine zt 2 ?_
     refine zt 6 ?_
     refine zt 3 ?_
     refine zt 4 ?_
     refine zt 5 ?_
     refine zt 7 ?_
     refine zr 1 (fun C hC => ?_)
     go_simp
     have HLT3 : Hid (LogRow s (bs.take k)) := ⟨rowW_take HLR.out.row k, HLR.out.lo, HLR.out.hi, by have h1 := HLR.out.few; rw [List.length_take]; omega⟩
     refine (HC.out.batches F3 v0 a2 size s (bs.take k) (HC.out.keep' HR3.out HU.out) HLT3.out).mono ?_
     rintro e v1 ⟨ba, bn, bc, bm, rfl, hbt, hms, -, -, hb⟩
     have HBT := qh hbt
     have HMS := qh hms
     replace HU := qh (HU.out.trans (hb.mono HU.out.size))
     clear hb hbt hms
     have hHeld := KS.out _ HU.out
     refine zc hC hHeld ?_
     clear hC C
     refine zr 8 (fun C hC => ?_)
     go_simp
     have htk : bats (ms.take k) = bs.take k := by have h1 := HMB.out; unfold bats at h1 ⊢; rw [List.map_take, h1]
     have hmk : BatsAt v1 mad k mcap (ms.take k) := ⟨(HM5.out.keep HU.out).bats.row.take k HKL.out.2, fun m hm => (HM5.out.keep HU.out).bats.ins m (List.mem_of_mem_take hm)⟩
     refine (refRows2_any v1 ba mad bn k bc mcap bm (ms.take k) HBT.out hmk (HMS.out.trans htk.symm) (by have h1 := HBT.out.row.length; have h2 := congrArg List.length HMS.out; unfold bats at h2; rw [List.length_map] at h2; have h3 := HLT3.out.few; omega) (batsOk_of (by rw [HMS.out]; exact HLT3.out.ok))).mono ?_
     rintro e v2 ⟨rfl, hb⟩
     replace HU := qh (HU.out.trans (hb.mono HU.out.size))
     clear hb HBT HMS htk hmk
     have hHeld := KS.out _ HU.out
     refine zc hC hHeld ?_
     clear hC C
     refine zt 9 ?_
     refine zt 10 ?_
     refine zt 11 ?_
     refine zr 12 (fun C hC => ?_)
     go_simp
     refine (mdSame_any HC.out v2 F a size s bs (HC.out.keep' HR5.out HU.out) HLR.out km size mad mlen mcap ms (HM5.out.keep HU.out) HMB.out).mono ?_
     rintro e v3 ⟨rfl, hb⟩
     replace HU := qh (HU.out.trans (hb.mono HU.out.size))
     clear hb
     have hHeld := KS.out _ HU.out
     refine zc hC hHeld ?_
     clear hC C
     refine zt 13 ?_
     refine zt 14 ?_
     refine zd ?_
     clear hHeld KS
     go_wp2
     go_ret
     exact ⟨rfl, HB5.out.trans (HU.out.mono HB5.out.size)⟩
   have hd : decide (i < len) = true := decide_eq_true hc1
   have hdi : decide ((i : Int) < (len : Int)) = true := decide_eq_true (by omega)
   have hd2 : decide (i < 120) = false := decide_eq_false hc2
   have hd2i : decide ((i : Int) < 120) = false := decide_eq_false (by omega)
   clear hc1 hc2
   go_wp2_with fail
   obtain ⟨F, ad2, len2, cap2, ms2, g1, g2, g3, -⟩ := HD.out.is
   refine (mdSame_any HC.out wo F a size s bs g1 HD.out.row km size ad2 len2 cap2 ms2 g2 g3).mono ?_
   rintro e w2 ⟨rfl, hb⟩
   have HD2 := qh (HD.out.on HC.out hb)
   have HB2 := qh (HB.out.trans (hb.mono HB.out.size))
   clear g1 g2 g3 hb HD HB
   obtain ⟨F, mad, mlen, mcap, ms, g1, g2, g3, g4, -, g6⟩ := HD2.out.is
   have HG1 := qh g1
   have HG2 := qh g2
   have HMB := qh g3
   have HFB := qh g4
   have HLR := qh HD2.out.row
   clear g1 g2 g3 g4 g6 HD2
   go_wp2_with fail
   refine (HC.out.copy F w2 a size s bs HG1.out HLR.out).mono ?_
   rintro e w3 ⟨a2, F2, rfl, h1, h2, h3⟩
   have HR2 : Hid (R F2 w3 a2 size s bs) := h1
   have HR1 : Hid (R F w3 a size s bs) := HC.out.keep' HG1.out h3
   have HDJ : Hid (∀ k, F k → ¬ F2 k) := fun k hf hf2 => by
    have := HC.out.lt F w2 a size s bs HG1.out k hf
    have := h2 k hf2
    omega
   have HF2 : Hid (∀ k, F2 k → w.heap.size ≤ k) := fun k hf => by have := h2 k hf; have := HB2.out.size; omega
   have HK2 : Hid (¬ F2 km) := fun hf => by have := h2 km hf; have := lt_of_block HG2.out.box; omega
   have HM3 : Hid (MOk (fun k => ¬ F2 k) w3 km size s mad mlen mcap ms) := HG2.out.move (G := fun _ => False) (Kept.of_below h3) (fun h => h) (fun _ _ _ h => h) (fun k hk hn hf => by have := h2 k hf; omega) (fun k hk hf => by have := HC.out.lt F2 w3 a2 size s bs HR2.out k hf; omega)
   have HB3 := qh (HB2.out.trans (h3.mono HB2.out.size))
   clear h1 h2 h3 HG1 HG2 HB2
   go_wp2_with fail
   refine (mdSame_any HC.out w3 F2 a2 size s bs HR2.out HLR.out km size mad mlen mcap ms HM3.out HMB.out).mono ?_
   rintro e w4 ⟨rfl, hb⟩
   have HR2' : Hid (R F2 w4 a2 size s bs) := HC.out.keep' HR2.out hb
   have HR1' : Hid (R F w4 a size s bs) := HC.out.keep' HR1.out hb
   have HM4 := qh (HM3.out.keep hb)
   have HB4 := qh (HB3.out.trans (hb.mono HB3.out.size))
   have HML : Hid (mlen = bs.length ∧ mlen ≤ 5000) := by
    show _ ∧ _
    have h1 := mok_len HM3.out
    rw [HMB.out] at h1
    have h2 := HLR.out.few
    exact ⟨h1.symm, by omega⟩
   clear hb HR2 HR1 HM3 HB3
   have p2 := HM4.out.box.c2
   obtain ⟨k, hk⟩ := exq (mlen / 2)
   have hkd : ((mlen : Int).tdiv 2) = (k : Int) := by rw [hk, Int.tdiv_eq_ediv_of_nonneg (by omega)]; omega
   have HKL : Hid (k ≤ bs.length ∧ k ≤ mlen) := by show _ ∧ _; have := HML.out.1; omega
   have hwk : wrap64 (k : Int) = (k : Int) := by have := HML.out; unfold wrap64; omega
   clear hk
   go_wp2_with fail
   try rw [hwk]
   refine (HC.out.cut F2 w4 a2 size s bs k HR2'.out HLR.out HKL.out.1).mono ?_
   rintro e w5 ⟨F3, rfl, h5, hk5, hf3⟩
   have HR3 : Hid (R F3 w5 a2 size s (bs.take k)) := h5
   have HR5 : Hid (R F w5 a size s bs) := HC.out.kept F F2 w4 w5 a size s bs HR1'.out hk5 HDJ.out
   have HM5 : Hid (MOk (fun _ => True) w5 km size s mad mlen mcap ms) := HM4.out.move hk5 HK2.out (fun k _ hn => hn) (fun _ _ _ => trivial) (fun _ _ => trivial)
   have HB5 : Hid (Below w.heap.size w w5) := HB4.out.trans (hk5.below HF2.out HB4.out.size)
   clear h5 hk5 hf3 HR2' HR1' HM4 HB4 p2 hkd hwk
   go_upto_region 37 with fail
   have hdrw : Below w5.heap.size w5 w5.drew := (Below.refl _ w5).drew
   have KS : Hid (∀ V, Below w5.heap.size w5 V → (fun (V : World) => V.cell? ⟨km, 2, none⟩ = some (.slice mad mlen mcap)) V) := fun V hV => (HM5.out.keep hV).box.c2
   refine wp_region_noPanic ?_
   refine zk [] KS ?_
   have hHeld := KS.out _ hdrw
   obtain ⟨v0, hv⟩ := exq w5.drew
   rw [← hv] at hHeld hdrw
   rw [← hv]
   have HU := qh hdrw
   clear hv hdrw
   have hsu : ∀ V, (Instr.slice 42 (.slice mad mlen mcap) none (some (.int .i64 (k : Int))) none).run Tryz.prog V = .ok (.slice mad k mcap) V := row_upto batK_ok _ mlen mcap k (Nat.le_trans HKL.out.2 HM5.out.bats.row.fits)
   refine zt 0 ?_
   refine zt 2 ?_
   refine zt 6 ?_
   refine zt 3 ?_
   refine zt 4 ?_
   refine zt 5 ?_
   refine zt 7 ?_
   refine zr 1 (fun C hC => ?_)
   go_simp
   have HLT3 : Hid (LogRow s (bs.take k)) := ⟨rowW_take HLR.out.row k, HLR.out.lo, HLR.out.hi, by have h1 := HLR.out.few; rw [List.length_take]; omega⟩
   refine (HC.out.batches F3 v0 a2 size s (bs.take k) (HC.out.keep' HR3.out HU.out) HLT3.out).mono ?_
   rintro e v1 ⟨ba, bn, bc, bm, rfl, hbt, hms, -, -, hb⟩
   have HBT := qh hbt
   have HMS := qh hms
   replace HU := qh (HU.out.trans (hb.mono HU.out.size))
   clear hb hbt hms
   have hHeld := KS.out _ HU.out
   refine zc hC hHeld ?_
   clear hC C
   refine zr 8 (fun C hC => ?_)
   go_simp
   have htk : bats (ms.take k) = bs.take k := by have h1 := HMB.out; unfold bats at h1 ⊢; rw [List.map_take, h1]
   have hmk : BatsAt v1 mad k mcap (ms.take k) := ⟨(HM5.out.keep HU.out).bats.row.take k HKL.out.2, fun m hm => (HM5.out.keep HU.out).bats.ins m (List.mem_of_mem_take hm)⟩
   refine (refRows2_any v1 ba mad bn k bc mcap bm (ms.take k) HBT.out hmk (HMS.out.trans htk.symm) (by have h1 := HBT.out.row.length; have h2 := congrArg List.length HMS.out; unfold bats at h2; rw [List.length_map] at h2; have h3 := HLT3.out.few; omega) (batsOk_of (by rw [HMS.out]; exact HLT3.out.ok))).mono ?_
   rintro e v2 ⟨rfl, hb⟩
   replace HU := qh (HU.out.trans (hb.mono HU.out.size))
   clear hb HBT HMS htk hmk
   have hHeld := KS.out _ HU.out
   refine zc hC hHeld ?_
   clear hC C
   refine zt 9 ?_
   refine zt 10 ?_
   refine zt 11 ?_
   refine zr 12 (fun C hC => ?_)
   go_simp
   refine (mdSame_any HC.out v2 F a size s bs (HC.out.keep' HR5.out HU.out) HLR.out km size mad mlen mcap ms (HM5.out.keep HU.out) HMB.out).mono ?_
   rintro e v3 ⟨rfl, hb⟩
   replace HU := qh (HU.out.trans (hb.mono HU.out.size))
   clear hb
   have hHeld := KS.out _ HU.out
   refine zc hC hHeld ?_
   clear hC C
   refine zt 13 ?_
   refine zt 14 ?_
   refine zd ?_
   clear hHeld KS
   go_wp2
   go_ret
   exact ⟨rfl, HB5.out.trans (HU.out.mono HB5.out.size)⟩
 have hd : decide (i < len) = true := decide_eq_true hlt.1
 have hdi : decide ((i : Int) < (len : Int)) = true := decide_eq_true (by omega)
 have hd2 : decide (i < 120) = true := decide_eq_true hlt.2
 have hd2i : decide ((i : Int) < 120) = true := decide_eq_true (by omega)
 have hil : (i : Int) < (len : Int) := by omega
 obtain ⟨bk, off, m, el, hbk, hm, hai, hcl⟩ := (HA.out.keep HB.out).get hlt.1
 have HAI : Hid (AmIn w m) := HA.out.ins m (List.mem_of_getElem? hm)
 have HLT := qh hlt.2
 obtain ⟨c0, c1, c2, c3, c4, c5, c6, c7, c8, c9, c10, c11, c12, c13⟩ := hcl
 have hbkl := hbk
 subst el
 clear hm hai hlt
 go_upto_region 6 with fail
 obtain ⟨W3, hW3⟩ := exq (wo.alloc (.cells #[.int .i64 m.kind, .int .i64 m.b.base, .int .i64 m.b.prod, .int .i64 m.b.epoch, .int .i64 m.b.seq, .bool m.b.txn, .int .i64 m.b.marker, .slice m.bad m.b.recs.length m.bcap, .slice m.yad m.ylen m.ycap, .int .i64 m.fr, .int .i64 m.n, .bool m.only, .slice m.kad m.klen m.kcap, .slice m.gad m.glen m.gcap] 33))
 obtain ⟨P, hP⟩ := exq wo.heap.size
 have hb3 := wbq hW3
 have HX3 : Hid (ABox W3 P m) := by rw [hW3, hP]; exact abox_new wo m
 have HAI3 : Hid (AmIn W3 m) := HAI.out.keep (HB.out.trans (hb3.mono HB.out.size))
 have HB3 : Hid (Below w.heap.size w W3) := HB.out.trans (hb3.mono HB.out.size)
 have HPW : Hid (w.heap.size ≤ P) := by show _ ≤ _; rw [hP]; exact HB.out.size
 have HD3 : Hid (Dbl R w.heap.size (fun k => k = P) W3 a size s bs km size s bs) := HD.out.alloc HC.out hb3 (fun k hk => .inr (by
  have h1 := lt_of_block HX3.out
  subst hk
  exact ⟨by omega, h1⟩))
 rw [← hW3, ← hP]
 clear hW3 hP hb3 HD HB c0 c1 c2 c3 c4 c5 c6 c7 c8 c9 c10 c11 c12 c13
 have p0 := HX3.out.cells.c0
 go_upto_block 2 with fail
 go_cut [9, 10, 11, 12, 13, 14, 15, 16] from 43 to 138 (fun s9 s10 s11 s12 s13 s14 s15 s16 wx => ∃ (s' : Int) (bs' : List Bat), Hid (bs'.length ≤ i + 1) ∧ Hid (endD s' bs' ≤ 16 * ((i : Int) + 1)) ∧ Hid (Dbl R w.heap.size (fun _ => False) wx a size s' bs' km size s' bs') ∧ Hid (Below w.heap.size w wx))
 case first =>
  by_cases k4 : m.kind = 4
  · have e4 : (m.kind == 4) = true := by rw [k4]; rfl
    have p9 := HX3.out.cells.c9
    have p10 := HX3.out.cells.c10
    have p11 := HX3.out.cells.c11
    simp only [Nat.zero_add] at p9 p10 p11
    obtain ⟨⟨⟨rs, ds, nx, st⟩, er⟩, hr0⟩ : ∃ r, fetchD s bs m.fr m.n m.only = r := ⟨_, rfl⟩
    have HR0 := qh hr0
    have HLEN : Hid (rs.length ≤ 80000 ∧ ds.length ≤ 5000) := by
     show _ ∧ _
     have h1 := fetchW_len HD3.out.row m.fr m.n m.only
     rw [hr0] at h1
     exact h1
    have hee : (er != er) = false := by simp
    clear k4 hr0
    go_wp2_with fail
    obtain ⟨F, f1, f2, f3⟩ : ∃ F, R F W3 a size s bs ∧ (∀ k, F k → w.heap.size ≤ k) ∧ True := by
     obtain ⟨F, h1, h2, h3⟩ := HD3.out.logAt.is
     exact ⟨F, h1, h2, trivial⟩
    refine (HC.out.fetch F W3 a size s bs m.fr m.n m.only f1 HD3.out.row).mono ?_
    rintro e w4 ⟨va, rfl, hfa, hb⟩
    rw [HR0.out] at hfa ⊢
    obtain ⟨ra, rn, rc, da, dn, dc, rfl, hra, hda⟩ := hfa
    simp only at hra hda ⊢
    have HB4 := qh (HB3.out.trans (hb.mono HB3.out.size))
    have HD4 := qh (HD3.out.on HC.out hb)
    have HF4 : Hid (FdAt w4 (.agg #[.slice ra rn rc, .slice da dn dc, .int .i64 nx, .int .i64 st]) ⟨rs, ds, nx, st⟩) := ⟨_, _, _, _, _, _, rfl, hra, hda⟩
    have HX4 : Hid (ABox w4 P m) := by show ABox _ _ _; exact (hb.block P (lt_of_block HX3.out)).trans HX3.out
    clear hb hra hda f1 f2 f3 HD3 HB3 HX3 HAI3 p0 p9 p10 p11
    go_upto_region 22 with fail
    obtain ⟨W5, hW5⟩ := exq (w4.alloc (.cells #[.slice ra rn rc, .slice da dn dc, .int .i64 nx, .int .i64 st] 73))
    obtain ⟨P5, hP5⟩ := exq w4.heap.size
    have hb5 := wbq hW5
    have HP5 : Hid (FBox W5 P5 (.slice ra rn rc) (.slice da dn dc) nx st) := by rw [hW5, hP5]; exact fbox_new w4 _ _ _ _
    have HF5 := qh (HF4.out.keep hb5)
    have HB5 := qh (HB4.out.trans (hb5.mono HB4.out.size))
    have HD5 := qh (HD4.out.on HC.out hb5)
    have HX5 : Hid (ABox W5 P m) := by show ABox _ _ _; exact (hb5.block P (lt_of_block HX4.out)).trans HX4.out
    (try rw [← hW5, ← hP5])
    clear hW5 hP5 hb5 HF4 HB4 HD4 HX4
    have p9 := HX5.out.cells.c9
    have p10 := HX5.out.cells.c10
    have p11 := HX5.out.cells.c11
    simp only [Nat.zero_add] at p9 p10 p11
    obtain ⟨N, mad, mlen, mcap, ms, hmo, hmb, -, -⟩ := HD5.out.model HC.out
    have HML : Hid (mlen ≤ 5000) := by
     show _ ≤ _
     have h1 := mok_len hmo
     have h2 := HBL.out
     rw [hmb] at h1
     omega
    have HMO := qh hmo
    have HMB := qh hmb
    clear hmo hmb
    go_wp2_with fail
    refine (modFetch_any W5 km size s mad mlen mcap ms HMO.out HML.out (by rw [HMB.out]; exact HD5.out.row.fo) m.fr m.n m.only).mono ?_
    rintro e w6 ⟨vb, rfl, hfb, hb⟩
    rw [HMB.out, HR0.out] at hfb
    rw [HMB.out, HR0.out]
    obtain ⟨qa, qn, qc, ea, en, ec, rfl, hqa, hea⟩ := hfb
    simp only at hqa hea ⊢
    have HP6 := qh (HP5.out.on hb)
    have HF6 := qh (HF5.out.keep hb)
    have HG6 : Hid (FdAt w6 (.agg #[.slice qa qn qc, .slice ea en ec, .int .i64 nx, .int .i64 st]) ⟨rs, ds, nx, st⟩) := ⟨_, _, _, _, _, _, rfl, hqa, hea⟩
    have HB6 := qh (HB5.out.trans (hb.mono HB5.out.size))
    have HD6 := qh (HD5.out.on HC.out hb)
    clear hb hqa hea HP5 HF5 HB5 HD5 HX5 HMO HMB HML p9 p10 p11
    go_upto_region 23 with fail
    obtain ⟨W7, hW7⟩ := exq (w6.alloc (.cells #[.slice qa qn qc, .slice ea en ec, .int .i64 nx, .int .i64 st] 73))
    obtain ⟨Q7, hQ7⟩ := exq w6.heap.size
    have hb7 := wbq hW7
    have HQ7 : Hid (FBox W7 Q7 (.slice qa qn qc) (.slice ea en ec) nx st) := by rw [hW7, hQ7]; exact fbox_new w6 _ _ _ _
    have HP7 := qh (HP6.out.on hb7)
    have HF7 := qh (HF6.out.keep hb7)
    have HG7 := qh (HG6.out.keep hb7)
    have HB7 := qh (HB6.out.trans (hb7.mono HB6.out.size))
    have HD7 := qh (HD6.out.on HC.out hb7)
    (try rw [← hW7, ← hQ7])
    clear hW7 hQ7 hb7 HP6 HF6 HG6 HB6 HD6
    have r0 := HP7.out.c0
    have r1 := HP7.out.c1
    have r2 := HP7.out.c2
    have r3 := HP7.out.c3
    have u0 := HQ7.out.c0
    have u1 := HQ7.out.c1
    have u2 := HQ7.out.c2
    have u3 := HQ7.out.c3
    go_wp2_with fail
    refine (refFetches_any W7 ⟨rs, ds, nx, st⟩ _ _ HF7.out HG7.out (Nat.le_trans HLEN.out.1 (by decide)) (Nat.le_trans HLEN.out.2 (by decide))).mono ?_
    rintro e w8 ⟨rfl, hb⟩
    have HB8 := qh (HB7.out.trans (hb.mono HB7.out.size))
    have HD8 := qh (HD7.out.on HC.out hb)
    clear hb HP7 HF7 HG7 HQ7 HB7 HD7 r0 r1 r2 r3 u0 u1 u2 u3
    go_wp2
    go_meet
    case rel => exact ⟨s, bs, Nat.le_succ_of_le HBL.out, by have := HEL.out; show _ ≤ _; omega, HD8.out.less HC.out (fun k h => h.elim), HB8.out⟩
  have e4 : (m.kind == 4) = false := by simpa using k4
  by_cases k6 : m.kind = 6
  · have e6 : (m.kind == 6) = true := by rw [k6]; rfl
    obtain ⟨⟨s', bs'⟩, hkd⟩ : ∃ r, keepD s m.fr bs = r := ⟨_, rfl⟩
    have HKD := qh hkd
    have HG : Hid (LogRow s' bs' ∧ bs'.length ≤ bs.length ∧ endD s' bs' = endD s bs) := by
     show _ ∧ _
     have h1 := HD3.out.row.keepD (fr := m.fr)
     rw [hkd] at h1
     exact h1
    have hss : (s' != s') = false := by simp
    clear k4 k6 hkd
    go_upto_region 26 with fail
    have hdrw : Below W3.heap.size W3 W3.drew := (Below.refl _ W3).drew
    have KS : Hid (∀ V, ABox V P m → (fun (V : World) => V.cell? ⟨P, 9, none⟩ = some (.int .i64 m.fr)) V) := fun V hV => by have h1 := hV.cells.c9; simpa only [Nat.zero_add] using h1
    refine wp_region_noPanic ?_
    refine zk [] KS ?_
    obtain ⟨v0, hv⟩ := exq W3.drew
    rw [← hv] at hdrw
    rw [← hv]
    have HX4 : Hid (ABox v0 P m) := by show ABox _ _ _; exact (hdrw.block P (lt_of_block HX3.out)).trans HX3.out
    have HD4 := qh (HD3.out.on HC.out hdrw)
    have HB4 := qh (HB3.out.trans (hdrw.mono HB3.out.size))
    clear hv hdrw HD3 HB3 HX3 HAI3 p0
    have hHeld := KS.out _ HX4.out
    refine zt 0 ?_
    refine zt 1 ?_
    refine zt 4 ?_
    refine zt 5 ?_
    refine zt 2 ?_
    refine zt 6 ?_
    refine zr 3 (fun C hC => ?_)
    go_simp
    obtain ⟨F, hF, hback⟩ := HD4.out.log HC.out
    refine (HC.out.keep F v0 a size s bs m.fr hF HD4.out.row).mono ?_
    rintro e v1 hp
    rw [HKD.out] at hp
    obtain ⟨rfl, hd5, hk5⟩ := hback _ _ _ _ _ hp HG.out.1
    have HD5 := qh hd5
    have HX5 : Hid (ABox v1 P m) := by show ABox _ _ _; exact hk5.box HX4.out (fun h => h.2.1 rfl)
    have HB5 : Hid (Below w.heap.size w v1) := HB4.out.trans (hk5.below (fun k h => h.1) HB4.out.size)
    have hHeld := KS.out _ HX5.out
    refine zc hC hHeld ?_
    clear hC C hF hback hp hd5 hk5 HD4 HX4 HB4
    refine zr 7 (fun C hC => ?_)
    go_simp
    obtain ⟨N, mad, mlen, mcap, ms, hmo, hmb, -, hback⟩ := HD5.out.model HC.out
    have hml : mlen ≤ 5000 := by
     have h1 := mok_len hmo
     have h2 := HBL.out
     rw [hmb] at h1
     omega
    refine (modKeep_any v1 km size s mad mlen mcap ms hmo hml (by rw [hmb]; exact HD5.out.row2.fo) m.fr).mono ?_
    rintro e v2 hgk
    rw [hmb, HKD.out] at hgk
    obtain ⟨mad2, mlen2, mcap2, ms2, rfl, hmo2, hmb2, hg6⟩ := hgk
    have hmb3 : bats ms2 = bs' := hmb2
    have hd6 := hback _ _ _ _ _ _ hmo2 (by rw [hmb3]; exact HG.out.1) hg6
    rw [hmb3] at hd6
    have hk6 : Kept v1 v2 (fun k => k = km) := Kept.of_grown hg6 (.inl rfl)
    have HD6 := qh hd6
    have hbnd := HD5.out.bnd
    have HX6 : Hid (ABox v2 P m) := by show ABox _ _ _; exact hk6.box HX5.out (fun h => (hbnd P rfl).2 h)
    have HB6 : Hid (Below w.heap.size w v2) := HB5.out.trans (hk6.below (fun k h => by rw [h]; exact HD5.out.lowm) HB5.out.size)
    have hHeld := KS.out _ HX6.out
    refine zc hC hHeld ?_
    clear hC C hback hmo hmb hml hmo2 hmb2 hmb3 hg6 hd6 hk6 hbnd HD5 HX5 HB5
    refine zt 8 ?_
    refine zd ?_
    clear hHeld KS
    go_wp2
    go_meet
    case rel => exact ⟨s', bs', by have h1 := HG.out.2.1; have h2 := HBL.out; show _ ≤ _; omega, by have h1 := HG.out.2.2; have h2 := HEL.out; show _ ≤ _; omega, HD6.out.less HC.out (fun k h => h.elim), HB6.out⟩
  have e6 : (m.kind == 6) = false := by simpa using k6
  clear k4 k6
  obtain ⟨⟨⟨n, er⟩, bs'⟩, hr⟩ : ∃ r, askD size s bs m = r := ⟨_, rfl⟩
  have hgr := askW_grows (cap := size) (m := m) HD3.out.row.row HAI3.out.prod HAI3.out.byt.all
  rw [hr] at hgr
  have HLR2 : Hid (LogRow s bs') := by have h1 := HBL.out; have h2 := HLT.out; exact HD3.out.row.grows hgr (by omega)
  have HBL2 : Hid (bs'.length ≤ i + 1) := by show _ ≤ _; have h1 := hgr.2.1; have h2 := HBL.out; simp only at h1; omega
  have HEL2 : Hid (endD s bs' ≤ 16 * ((i : Int) + 1)) := by show _ ≤ _; have h1 := hgr.2.2; have h2 := HEL.out; simp only at h1; omega
  have HRR := qh hr
  have hnn : (n != n) = false := by simp
  have hee : (er != er) = false := by simp
  clear hr hgr
  have HNE := qh hnn
  have HEE := qh hee
  obtain ⟨N, mad, mlen, mcap, ms, hmo, hmb, -, hback⟩ := HD3.out.model HC.out
  have hml : mlen ≤ 99999 := by
   have h1 := mok_len hmo
   have h2 := HBL.out
   have h3 := HLT.out
   rw [hmb] at h1
   omega
  have hmok : RowOk (bats ms) := by rw [hmb]; exact HD3.out.row.ok
  have hend := HD3.out.row.end_
  have HMO := qh hmo
  have HMB := qh hmb
  have HMOK := qh hmok
  have HBK := qh hback
  have HEND : Hid (0 ≤ endD s (bats ms) ∧ endD s (bats ms) ≤ 1099511627792) := by show _ ∧ _; rw [hmb]; exact ⟨hend.1, by have := hend.2; omega⟩
  have p1 := HX3.out.cells.c1
  have p2 := HX3.out.cells.c2
  have p3 := HX3.out.cells.c3
  have p4 := HX3.out.cells.c4
  have p5 := HX3.out.cells.c5
  have p6 := HX3.out.cells.c6
  have p7 := HX3.out.cells.c7
  have p8 := HX3.out.cells.c8
  have p9 := HX3.out.cells.c9
  have p10 := HX3.out.cells.c10
  have p11 := HX3.out.cells.c11
  have p12 := HX3.out.cells.c12
  have p13 := HX3.out.cells.c13
  simp only [Nat.zero_add] at p1 p2 p3 p4 p5 p6 p7 p8 p9 p10 p11 p12 p13
  clear hmo hmb hmok hback hend hnn hee
  go_wp2_with fail
  refine (asks_any W3 km size s mad mlen mcap ms HMO.out hml HMOK.out HEND.out m HAI3.out).mono ?_
  rintro e w4 hgp
  rw [HMB.out, HRR.out] at hgp
  obtain ⟨mad2, mlen2, mcap2, ms2, rfl, hmo2, hmb2, hg4⟩ := hgp
  have hmb3 : bats ms2 = bs' := hmb2
  have hd4 := HBK.out _ _ _ _ _ _ hmo2 (by rw [hmb3]; exact HLR2.out) hg4
  rw [hmb3] at hd4
  have hk4 : Kept W3 w4 (fun k => k = km) := Kept.of_grown hg4 (.inl rfl)
  have HD4 := qh hd4
  have hbnd := HD3.out.bnd
  have HX4 : Hid (ABox w4 P m) := by show ABox _ _ _; exact hk4.box HX3.out (fun h => (hbnd P rfl).2 h)
  have HB4 : Hid (Below w.heap.size w w4) := HB3.out.trans (hk4.below (fun k h => by rw [h]; exact HD3.out.lowm) HB3.out.size)
  have HAI4 : Hid (AmIn w4 m) := HAI.out.keep HB4.out
  clear hmo2 hmb2 hmb3 hg4 hd4 hk4 hbnd HD3 HX3 HB3 HAI3 HMO HMB HMOK HBK HEND p0 p1 p2 p3 p4 p5 p6 p7 p8 p9 p10 p11 p12 p13
  have p0 := HX4.out.cells.c0
  go_upto_block 3 with fail
  by_cases k1 : m.kind = 1
  · have e1 : (m.kind == 1) = true := by rw [k1]; rfl
    have HA1 : Hid (produceD size s bs m.b = ((n, er), bs')) := by show _ = _; have h1 := HRR.out; unfold askD at h1; rw [if_pos k1] at h1; exact h1
    have p1 := HX4.out.cells.c1
    have p2 := HX4.out.cells.c2
    have p3 := HX4.out.cells.c3
    have p4 := HX4.out.cells.c4
    have p5 := HX4.out.cells.c5
    have p6 := HX4.out.cells.c6
    have p7 := HX4.out.cells.c7
    simp only [Nat.zero_add] at p1 p2 p3 p4 p5 p6 p7
    clear k1
    go_wp2_with fail
    obtain ⟨F, hF, hback⟩ := HD4.out.log HC.out
    refine (HC.out.produce F w4 a size s bs m.b m.bad m.bcap hF HD4.out.row HAI4.out.recs HAI4.out.texts HAI4.out.few HAI4.out.prod).mono ?_
    rintro e w5 hp
    rw [HA1.out] at hp
    obtain ⟨rfl, hd5, hk5⟩ := hback _ _ _ _ _ hp HLR2.out
    have HD5 := qh hd5
    have HB5 : Hid (Below w.heap.size w w5) := HB4.out.trans (hk5.below (fun k h => h.1) HB4.out.size)
    clear hF hback hp hd5 hk5 HD4 HX4 HB4 HAI4 p0 p1 p2 p3 p4 p5 p6 p7
    have hnn := HNE.out
    have hee := HEE.out
    go_wp2
    go_meet
    case rel => exact ⟨s, bs', HBL2.out, HEL2.out, HD5.out.less HC.out (fun k h => h.elim), HB5.out⟩
  have e1 : (m.kind == 1) = false := by simpa using k1
  by_cases k2 : m.kind = 2
  · have e2 : (m.kind == 2) = true := by rw [k2]; rfl
    have HA2 : Hid (rawD size s bs m.bytes = ((n, er), bs')) := by show _ = _; have h1 := HRR.out; unfold askD at h1; rw [if_neg k1, if_pos k2] at h1; exact h1
    have p8 := HX4.out.cells.c8
    simp only [Nat.zero_add] at p8
    clear k1 k2
    go_wp2_with fail
    obtain ⟨F, hF, hback⟩ := HD4.out.log HC.out
    refine (HC.out.raw F w4 a size s bs m.yad m.ylen m.ycap m.bytes hF HD4.out.row HAI4.out.byt HAI4.out.long).mono ?_
    rintro e w5 hp
    rw [HA2.out] at hp
    obtain ⟨rfl, hd5, hk5⟩ := hback _ _ _ _ _ hp HLR2.out
    have HD5 := qh hd5
    have HB5 : Hid (Below w.heap.size w w5) := HB4.out.trans (hk5.below (fun k h => h.1) HB4.out.size)
    clear hF hback hp hd5 hk5 HD4 HX4 HB4 HAI4 p0 p8
    have hnn := HNE.out
    have hee := HEE.out
    go_wp2
    go_meet
    case rel => exact ⟨s, bs', HBL2.out, HEL2.out, HD5.out.less HC.out (fun k h => h.elim), HB5.out⟩
  have e2 : (m.kind == 2) = false := by simpa using k2
  by_cases k3 : m.kind = 3
  rotate_left
  · have e3 : (m.kind == 3) = false := by simpa using k3
    have hbb : bs = bs' := by have h1 := HRR.out; unfold askD at h1; rw [if_neg k1, if_neg k2, if_neg k3] at h1; exact (Prod.mk.inj h1).2
    have HD5 : Hid (Dbl R w.heap.size (fun k => k = P) w4 a size s bs' km size s bs') := by have h1 := HD4.out; rw [hbb] at h1; exact h1
    have HB5 := qh HB4.out
    clear k1 k2 k3 hbb HD4 HX4 HB4 HAI4
    have hnn := HNE.out
    have hee := HEE.out
    go_wp2
    go_meet
    case rel => exact ⟨s, bs', HBL2.out, HEL2.out, HD5.out.less HC.out (fun k h => h.elim), HB5.out⟩
  have e3 : (m.kind == 3) = true := by rw [k3]; rfl
  have HA3 : Hid (markD size s bs m.b.prod m.b.epoch m.b.marker = ((n, er), bs')) := by show _ = _; have h1 := HRR.out; unfold askD at h1; rw [if_neg k1, if_neg k2, if_pos k3] at h1; exact h1
  have p2 := HX4.out.cells.c2
  have p3 := HX4.out.cells.c3
  have p6 := HX4.out.cells.c6
  simp only [Nat.zero_add] at p2 p3 p6
  clear k1 k2 k3
  go_wp2_with fail
  obtain ⟨F, hF, hback⟩ := HD4.out.log HC.out
  refine (HC.out.mark F w4 a size s bs m.b.prod m.b.epoch m.b.marker hF HD4.out.row HAI4.out.prod).mono ?_
  rintro e w5 hp
  rw [HA3.out] at hp
  obtain ⟨rfl, hd5, hk5⟩ := hback _ _ _ _ _ hp HLR2.out
  have HD5 := qh hd5
  have HB5 : Hid (Below w.heap.size w w5) := HB4.out.trans (hk5.below (fun k h => h.1) HB4.out.size)
  clear hF hback hp hd5 hk5 HD4 HX4 HB4 HAI4 p0 p2 p3 p6
  have hnn := HNE.out
  have hee := HEE.out
  go_wp2
  go_meet
  case rel => exact ⟨s, bs', HBL2.out, HEL2.out, HD5.out.less HC.out (fun k h => h.elim), HB5.out⟩
 case rest =>
  obtain ⟨s', bs', HBL', HEL', HD', HB'⟩ := hcut
  clear HD3 HB3 HX3 HAI3 HPW p0
  by_cases h3 : i % 3 = 0
  rotate_left
  · have hde : ((i : Int) % 3 == 0) = false := by simp; omega
    clear h3
    go_wp2
    go_roundw
    case rel => exact ⟨i + 1, s', bs', rfl, HLT.out, HBL'.out, by have := HEL'.out; show _ ≤ _; push_cast; omega, HD'.out, HB'.out⟩
    simp [intOf]; have := HLT.out; omega
  have hde : ((i : Int) % 3 == 0) = true := by simp; omega
  clear h3
  go_wp2_with fail
  obtain ⟨F, ad2, len2, cap2, ms2, g1, g2, g3, -⟩ := HD'.out.is
  refine (mdSame_any HC.out wc F a size s' bs' g1 HD'.out.row km size ad2 len2 cap2 ms2 g2 g3).mono ?_
  rintro e w9 ⟨rfl, hb9⟩
  have HD9 := qh (HD'.out.on HC.out hb9)
  have HB9 := qh (HB'.out.trans (hb9.mono HB'.out.size))
  clear g1 g2 g3 hb9 HD' HB'
  go_wp2
  go_roundw
  case rel => exact ⟨i + 1, s', bs', rfl, HLT.out, HBL'.out, by have := HEL'.out; show _ ≤ _; push_cast; omega, HD9.out, HB9.out⟩
  simp [intOf]; have := HLT.out; omega
end Go.Proofs.YtjmfdildnojknaaGreat
namespace Go.Proofs.YtjmfdildnojknaaGreat
open Go.RowKit
open Go.FoMath
open Go.ProdMath
open Go.BatMath hiding AllB getD_lt take_all In64
def MW (N : Nat → Prop) (w : World) (km most : Nat) (mc : Int) : Prop := ∃ s ad len cap ms, MOk N w km mc s ad len cap ms ∧ RowW s (bats ms) ∧ 0 ≤ s ∧ endD s (bats ms) ≤ 16 * (most : Int) ∧ len ≤ most
def AmNew (B : Nat) (m : Am) : Prop := (∀ a, m.bad = some a → B ≤ a.block) ∧ (∀ a, m.yad = some a → B ≤ a.block)
def GivesAct (N : Nat → Prop) (w : World) (kt : Nat) (tad : Option Addr) (tlen tcap km most : Nat) (mc : Int) (e : Ending) (w' : World) : Prop :=
 ∃ ad len cap l, e = .returned (.slice ad len cap) ∧ Hid (AmsAt w' ad len cap l) ∧ Hid (∀ a, ad = some a → w.heap.size ≤ a.block) ∧ Hid (∀ m ∈ l, AmNew w.heap.size m) ∧ 1 ≤ len ∧ len ≤ 3 ∧ Hid (TapeT w' kt tad tlen tcap) ∧ Hid (MW N w' km (most + 1) mc) ∧ Hid (Kept w w' fun i => i = kt ∨ i = km)
theorem amNew_plain (B : Nat) (k fr n : Int) (only : Bool) : AmNew B ⟨k, Bat.zero, none, 0, [], none, 0, 0, fr, n, only, none, 0, 0, none, 0, 0⟩ := ⟨(fun a h => by cases h), (fun a h => by cases h)⟩
theorem amIn_plain (W : World) (k fr n : Int) (only : Bool) : AmIn W ⟨k, Bat.zero, none, 0, [], none, 0, 0, fr, n, only, none, 0, 0, none, 0, 0⟩ := ⟨recsAt_nil W, (fun r hr => by cases hr), Nat.zero_le _, by show (0 : Int) ≤ _; decide, Byt.nil W, Nat.zero_le _⟩
theorem MW.on {N : Nat → Prop} {w w' : World} {km most : Nat} {mc : Int} (h : MW N w km most mc) (hb : Below w.heap.size w w') : MW N w' km most mc := by
 obtain ⟨s, ad, len, cap, ms, h1, h2⟩ := h
 exact ⟨s, ad, len, cap, ms, h1.keep hb, h2⟩
theorem gives_act {N : Nat → Prop} {w W : World} {kt tlen tcap km most : Nat} {tad : Option Addr} {mc : Int} {l : List Am} (hk : Kept w W fun i => i = kt ∨ i = km) (ht : TapeT W kt tad tlen tcap) (hm : MW N W km (most + 1) mc) (hi : ∀ m ∈ l, AmIn W m) (hn : ∀ m ∈ l, AmNew w.heap.size m) (h1 : 1 ≤ l.length) (h3 : l.length ≤ 3) (cs : Array Value) (hcs : cs = (amK.all l).toArray) (n : Nat) (hl : l.length = n) :
 GivesAct N w kt tad tlen tcap km most mc (.returned (.slice (some ⟨W.heap.size, 0, none⟩) n n)) (W.alloc (.cells cs 33)) := by
 have hb : Below W.heap.size W (W.alloc (.cells cs 33)) := (bal _ _)
 obtain ⟨i, hti⟩ := ht
 exact ⟨_, n, n, l, rfl, ams_lit (by omega) hi cs hcs n hl, (fun a ha => by rw [← Option.some.inj ha]; exact hk.size), hn, by omega, by omega, ⟨i, hti.on hb⟩, hm.on hb, hk.trans (Kept.of_below (F := fun _ => False) hb) (fun i hi => hi.elim)⟩
theorem mw_put {N : Nat → Prop} {w w' : World} {km most : Nat} {mc s : Int} {ad ad' : Option Addr} {len cap len' cap' : Nat} {ms ms' : List BM} {r : (Int × Int) × List Bat} (hm : MOk N w km mc s ad len cap ms) (h0 : 0 ≤ s) (he : endD s (bats ms) ≤ 16 * (most : Int)) (hl : len ≤ most) (hg : GrowsW s (bats ms) r) (hp : MOk N w' km mc s ad' len' cap' ms') (hb : bats ms' = r.2) : MW N w' km (most + 1) mc := by
 have h1 := hm.bats.row.length
 have h2 := hp.bats.row.length
 have h3 : (bats ms').length = ms'.length := List.length_map _
 have h4 : (bats ms).length = ms.length := List.length_map _
 obtain ⟨g1, g2, g3⟩ := hg
 rw [← hb] at g1 g2 g3
 exact ⟨s, ad', len', cap', ms', hp, g1, h0, by omega, by omega⟩
structure BytB (W : World) (g xn : Nat) (xs : List Nat) : Prop where
 all : AllB xs
 len : xs.length = xn
 blk : ∃ cs, W.heap[g]? = some (.cells cs 5 (0, 0)) ∧ ∀ j, j < xn → cs[j]? = some (.int .u8 (xs.getD j 0 : Nat))
section
variable {W W' : World} {g xn : Nat} {xs : List Nat}
theorem BytB.lt (h : BytB W g xn xs) : g < W.heap.size := by
 obtain ⟨cs, h1, _⟩ := h.blk
 exact lt_of_block h1
theorem BytB.cell (h : BytB W g xn xs) {j : Nat} (hj : j < xn) : W.cell? ⟨g, j, none⟩ = some (.int .u8 (xs.getD j 0 : Nat)) := by
 obtain ⟨cs, h1, h2⟩ := h.blk
 rw [cell_of_row _ _ _ _ _ _ h1]
 exact h2 j hj
theorem BytB.free (h : BytB W g xn xs) (j : Nat) : W.frozen? ⟨g, j, none⟩ = false := by
 obtain ⟨cs, h1, h2⟩ := h.blk
 exact frozen_of_row _ _ _ _ _ h1
theorem BytB.byt (h : BytB W g xn xs) {c : Nat} (hc : xn ≤ c) : Byt W (some ⟨g, 0, none⟩) xn c xs :=
 ⟨h.len, hc, h.all, .inr ⟨g, 0, rfl, fun i hi => by rw [Nat.zero_add]; exact h.cell hi⟩⟩
theorem BytB.kept {G : Nat → Prop} (h : BytB W g xn xs) (hk : Kept W W' G) (hg : ¬ G g) : BytB W' g xn xs := by
 obtain ⟨cs, h1, h2⟩ := h.blk
 exact ⟨h.all, h.len, cs, (hk.block g (lt_of_block h1) hg).trans h1, h2⟩
theorem BytB.set (h : BytB W g xn xs) {j : Nat} (hj : j < xn) {z : Int} (h0 : 0 ≤ z) (h1 : z < 256) : BytB (W.setCell ⟨g, j, none⟩ (.int .u8 z)) g xn (xs.set j z.toNat) := by
 obtain ⟨cs, hb, hc⟩ := h.blk
 refine ⟨fun y hy => ?_, by rw [List.length_set]; exact h.len, _, box_set hb j _, fun i hi => ?_⟩
 · rcases List.mem_or_eq_of_mem_set hy with h2 | h2
   · exact h.all y h2
   omega
 have hl := h.len
 rw [Array.getElem?_setIfInBounds]
 by_cases he : j = i
 · subst he
   have hs : j < cs.size := (Array.getElem?_eq_some_iff.1 (hc j hj)).1
   rw [if_pos rfl, if_pos hs, List.getD_eq_getElem?_getD, List.getElem?_set_self (by omega)]
   show some (Value.int .u8 z) = some (Value.int .u8 ((z.toNat : Nat) : Int))
   rw [Int.toNat_of_nonneg h0]
 rw [if_neg he, hc i hi, List.getD_eq_getElem?_getD, List.getD_eq_getElem?_getD, List.getElem?_set_ne he]
end
theorem gives_bytes_open {w w' : World} {ev : Int} {L : List Nat} {e : Ending} (h : GivesBytes w ev L e w') (ha : ev = 0 → AllB L) : ∃ xv, e = .returned (.tuple #[xv, .int .i64 ev]) ∧ Below w.heap.size w w' ∧ (xv = .slice none 0 0 ∨ ev = 0 ∧ ∃ g c, xv = .slice (some ⟨g, 0, none⟩) L.length c ∧ w.heap.size ≤ g ∧ L.length ≤ c ∧ BytB w' g L.length L) := by
 rcases h with ⟨h0, g, c, e1, hr, hb⟩ | ⟨h0, e1, hb⟩
 rotate_left
 · exact ⟨_, e1, hb, .inl rfl⟩
 subst h0
 refine ⟨_, e1, hb, .inr ⟨rfl, g, c, rfl, ?_⟩⟩
 rcases hr.2 with ⟨h1, _⟩ | ⟨g', cap, cur, h1, hbg, hh, hc, _, hs, ht⟩
 · cases h1
 cases h1
 refine ⟨hbg, hc, ha rfl, rfl, cur, hh, fun j hj => ?_⟩
 have h2 : (cur.toList.take (L.length * 1))[j]? = (vals L)[j]? := by rw [ht]
 rw [Nat.mul_one, List.getElem?_take_of_lt hj, Array.getElem?_toList] at h2
 rw [h2]
 unfold vals
 rw [List.getElem?_map, List.getElem?_eq_getElem hj, List.getD_eq_getElem?_getD, List.getElem?_eq_getElem hj]
 rfl
theorem MW.grown {N : Nat → Prop} {w w' : World} {km most kt : Nat} {mc : Int} (h : MW N w km most mc) (hg : w.grownBy w' (some kt)) (hNk : ∀ k, N k → k ≠ kt) (hk : kt ≠ km) : MW N w' km most mc := by
 obtain ⟨s, ad, len, cap, ms, h1, h2⟩ := h
 exact ⟨s, ad, len, cap, ms, h1.grown hg hk (fun a ha => hNk _ (h1.inN.1 a ha)) (fun m hm a ha => hNk _ (h1.inN.2 m hm a ha)), h2⟩
theorem MW.mono {N N' : Nat → Prop} {w : World} {km most : Nat} {mc : Int} (h : MW N w km most mc) (hn : ∀ k, N k → N' k) : MW N' w km most mc := by
 obtain ⟨s, ad, len, cap, ms, h1, h2⟩ := h
 exact ⟨s, ad, len, cap, ms, ⟨h1.box, h1.bats, h1.row, h1.ins, ⟨fun a ha => hn _ (h1.inN.1 a ha), fun m hm a ha => hn _ (h1.inN.2 m hm a ha)⟩, fun k hk => hn k (h1.up k hk)⟩, h2⟩
theorem act_any {N : Nat → Prop} (w : World) (kt : Nat) (tad : Option Addr) (tlen tcap km most : Nat) (mc : Int) (ht : TapeT w kt tad tlen tcap) (hm : MW N w km most mc) (hkk : kt < km) (hNk : ∀ k, N k → k ≠ kt) (hmost : most ≤ 4999) :
 Calls Tryz.prog 38 #[.pointer (some ⟨kt, 0, none⟩), .pointer (some ⟨km, 0, none⟩)] w (GivesAct N w kt tad tlen tcap km most mc) := by
 obtain ⟨i, hti⟩ := ht
 obtain ⟨s, ad, len, cap, ms, hmo, hr, hs0, hse, hlm⟩ := hm
 have hok := rowW_ok hr
 have hsb := (rowW_bases hr).2.2
 have hkmw : km < w.heap.size := lt_of_block hmo.box
 obtain ⟨en, hen⟩ : ∃ x, endD s (bats ms) = x := ⟨_, rfl⟩
 rw [hen] at hse hsb
 have HT0 := qh hti
 have HM0 := qh hmo
 have HR := qh hr
 have HOK := qh hok
 have HEN := qh hen
 clear hti hmo hr hok
 go_enter Tryz.func38, Tryz.ntmps38
 go_wp2_with fail
 refine (modEnd_any w km mc s ad len cap ms HM0.out.box HM0.out.bats (by omega) HOK.out en HEN.out).mono ?_
 rintro e w1 ⟨rfl, hb1⟩
 have HT1 := qh (HT0.out.on hb1)
 have HM1 := qh (HM0.out.keep hb1)
 have HK1 : Hid (Kept w w1 fun i => i = kt ∨ i = km) := Kept.of_below hb1
 clear hb1 HT0 HM0
 go_wp2_with fail
 refine (tapeNext_any w1 kt tad tlen tcap i 20 HT1.out (by omega) (by omega)).mono ?_
 rintro e w2 ⟨v2, i2, rfl, lo2, up2, ht, hg⟩
 have HT2 := qh ht
 have HM2 := qh (HM1.out.grown hg (by omega) (fun a ha => hNk _ (HM1.out.inN.1 a ha)) (fun m hm a ha => hNk _ (HM1.out.inN.2 m hm a ha)))
 have HK2 : Hid (Kept w w2 fun i => i = kt ∨ i = km) := HK1.out.trans (Kept.of_grown (F := fun i => i = kt ∨ i = km) hg (.inl (.inl rfl))) (fun i hi => .inl hi)
 clear ht hg HT1 HM1 HK1
 by_cases v10 : v2 < 10
 rotate_left
 · have d10 : decide (v2 < 10) = false := decide_eq_false v10
   by_cases v15 : v2 < 15
   · have d15 : decide (v2 < 15) = true := decide_eq_true v15
     go_wp2_with fail
     refine (tapeNext_any w2 kt tad tlen tcap i2 (en + 3) HT2.out (by omega) (by omega)).mono ?_
     rintro e w3 ⟨v3, i3, rfl, lo3, up3, ht, hg⟩
     have HT3 := qh ht
     have HM3 := qh (HM2.out.grown hg (by omega) (fun a ha => hNk _ (HM2.out.inN.1 a ha)) (fun m hm a ha => hNk _ (HM2.out.inN.2 m hm a ha)))
     have HK3 : Hid (Kept w w3 fun i => i = kt ∨ i = km) := HK2.out.trans (Kept.of_grown (F := fun i => i = kt ∨ i = km) hg (.inl (.inl rfl))) (fun i hi => .inl hi)
     clear ht hg HT2 HM2 HK2
     go_wp2_with fail
     refine (tapeNext_any w3 kt tad tlen tcap i3 20 HT3.out (by omega) (by omega)).mono ?_
     rintro e w4 ⟨v4, i4, rfl, lo4, up4, ht, hg⟩
     have HT4 := qh ht
     have HM4 := qh (HM3.out.grown hg (by omega) (fun a ha => hNk _ (HM3.out.inN.1 a ha)) (fun m hm a ha => hNk _ (HM3.out.inN.2 m hm a ha)))
     have HK4 : Hid (Kept w w4 fun i => i = kt ∨ i = km) := HK3.out.trans (Kept.of_grown (F := fun i => i = kt ∨ i = km) hg (.inl (.inl rfl))) (fun i hi => .inl hi)
     clear ht hg HT3 HM3 HK3
     go_wp2_with fail
     refine (tapeNext_any w4 kt tad tlen tcap i4 2 HT4.out (by omega) (by omega)).mono ?_
     rintro e w5 ⟨v5, i5, rfl, lo5, up5, ht, hg⟩
     have HT5 := qh ht
     have HM5 := qh (HM4.out.grown hg (by omega) (fun a ha => hNk _ (HM4.out.inN.1 a ha)) (fun m hm a ha => hNk _ (HM4.out.inN.2 m hm a ha)))
     have HK5 : Hid (Kept w w5 fun i => i = kt ∨ i = km) := HK4.out.trans (Kept.of_grown (F := fun i => i = kt ∨ i = km) hg (.inl (.inl rfl))) (fun i hi => .inl hi)
     clear ht hg HT4 HM4 HK4
     go_wp2_with fail
     go_ret
     exact gives_act (l := [⟨4, Bat.zero, none, 0, [], none, 0, 0, v3 - 1, v4, (v5 == 0), none, 0, 0, none, 0, 0⟩]) HK5.out ⟨i5, HT5.out⟩ ⟨s, ad, len, cap, ms, HM5.out, HR.out, hs0, by omega, by omega⟩ (by simp only [List.mem_cons, List.not_mem_nil, or_false]; rintro m rfl; exact amIn_plain _ _ _ _ _) (by simp only [List.mem_cons, List.not_mem_nil, or_false]; rintro m rfl; exact amNew_plain _ _ _ _ _) (by show 1 ≤ 1; decide) (by show 1 ≤ 3; decide) _ rfl 1 rfl
   have d15 : decide (v2 < 15) = false := decide_eq_false v15
   by_cases e15 : v2 = 15
   rotate_left
   · have g15 : (v2 == 15) = false := by simpa using e15
     by_cases e16 : v2 = 16
     · have g16 : (v2 == 16) = true := by rw [e16]; rfl
       go_wp2_with fail
       go_ret
       exact gives_act (l := [⟨7, Bat.zero, none, 0, [], none, 0, 0, 0, 0, false, none, 0, 0, none, 0, 0⟩, ⟨8, Bat.zero, none, 0, [], none, 0, 0, 0, 0, false, none, 0, 0, none, 0, 0⟩]) HK2.out ⟨i2, HT2.out⟩ ⟨s, ad, len, cap, ms, HM2.out, HR.out, hs0, by omega, by omega⟩ (by simp only [List.mem_cons, List.not_mem_nil, or_false]; rintro m (rfl | rfl) <;> exact amIn_plain _ _ _ _ _) (by simp only [List.mem_cons, List.not_mem_nil, or_false]; rintro m (rfl | rfl) <;> exact amNew_plain _ _ _ _ _) (by show 1 ≤ 2; decide) (by show 2 ≤ 3; decide) _ rfl 2 rfl
     have g16 : (v2 == 16) = false := by simpa using e16
     by_cases e17 : v2 = 17
     rotate_left
     · have g17 : (v2 == 17) = false := by simpa using e17
       go_wp2_with fail
       go_ret
       exact gives_act (l := [⟨5, Bat.zero, none, 0, [], none, 0, 0, 0, 0, false, none, 0, 0, none, 0, 0⟩]) HK2.out ⟨i2, HT2.out⟩ ⟨s, ad, len, cap, ms, HM2.out, HR.out, hs0, by omega, by omega⟩ (by simp only [List.mem_cons, List.not_mem_nil, or_false]; rintro m rfl; exact amIn_plain _ _ _ _ _) (by simp only [List.mem_cons, List.not_mem_nil, or_false]; rintro m rfl; exact amNew_plain _ _ _ _ _) (by show 1 ≤ 1; decide) (by show 1 ≤ 3; decide) _ rfl 1 rfl
     have g17 : (v2 == 17) = true := by rw [e17]; rfl
     go_wp2_with fail
     refine (tapeNext_any w2 kt tad tlen tcap i2 1048576 HT2.out (by omega) (by omega)).mono ?_
     rintro e w3 ⟨v3, i3, rfl, lo3, up3, ht, hg⟩
     have HT3 := qh ht
     have HM3 := qh (HM2.out.grown hg (by omega) (fun a ha => hNk _ (HM2.out.inN.1 a ha)) (fun m hm a ha => hNk _ (HM2.out.inN.2 m hm a ha)))
     have HK3 : Hid (Kept w w3 fun i => i = kt ∨ i = km) := HK2.out.trans (Kept.of_grown (F := fun i => i = kt ∨ i = km) hg (.inl (.inl rfl))) (fun i hi => .inl hi)
     clear ht hg HT2 HM2 HK2
     go_wp2_with fail
     go_ret
     exact gives_act (l := [⟨7, Bat.zero, none, 0, [], none, 0, 0, 0, 0, false, none, 0, 0, none, 0, 0⟩, ⟨11, Bat.zero, none, 0, [], none, 0, 0, v3, 0, false, none, 0, 0, none, 0, 0⟩, ⟨8, Bat.zero, none, 0, [], none, 0, 0, 0, 0, false, none, 0, 0, none, 0, 0⟩]) HK3.out ⟨i3, HT3.out⟩ ⟨s, ad, len, cap, ms, HM3.out, HR.out, hs0, by omega, by omega⟩ (by simp only [List.mem_cons, List.not_mem_nil, or_false]; rintro m (rfl | rfl | rfl) <;> exact amIn_plain _ _ _ _ _) (by simp only [List.mem_cons, List.not_mem_nil, or_false]; rintro m (rfl | rfl | rfl) <;> exact amNew_plain _ _ _ _ _) (by show 1 ≤ 3; decide) (by show 3 ≤ 3; decide) _ rfl 3 rfl
   have g15 : (v2 == 15) = true := by rw [e15]; rfl
   go_wp2_with fail
   refine (tapeNext_any w2 kt tad tlen tcap i2 (en + 2) HT2.out (by omega) (by omega)).mono ?_
   rintro e w3 ⟨v3, i3, rfl, lo3, up3, ht, hg⟩
   have HT3 := qh ht
   have HM3 := qh (HM2.out.grown hg (by omega) (fun a ha => hNk _ (HM2.out.inN.1 a ha)) (fun m hm a ha => hNk _ (HM2.out.inN.2 m hm a ha)))
   have HK3 : Hid (Kept w w3 fun i => i = kt ∨ i = km) := HK2.out.trans (Kept.of_grown (F := fun i => i = kt ∨ i = km) hg (.inl (.inl rfl))) (fun i hi => .inl hi)
   clear ht hg HT2 HM2 HK2
   go_wp2_with fail
   refine (modKeep_any w3 km mc s ad len cap ms HM3.out (by omega) (foRow_ofW HR.out hs0 (by omega)) v3).mono ?_
   rintro e w4 ⟨ad4, len4, cap4, ms4, rfl, hm4, hb4, hg4⟩
   have hkr := keep_row (fr := v3) HR.out
   obtain ⟨s4, hs4⟩ : ∃ x, x = (keepD s v3 (bats ms)).1 := ⟨_, rfl⟩
   have HT4 : Hid (TapeAt w4 kt tad tlen tcap i3) := HT3.out.grow hg4 (fun k hk => by have := Option.some.inj hk; omega)
   have HK4 : Hid (Kept w w4 fun i => i = kt ∨ i = km) := HK3.out.trans (Kept.of_grown (F := fun i => i = kt ∨ i = km) hg4 (.inl (.inr rfl))) (fun i hi => .inl hi)
   have HMW : Hid (MW N w4 km (most + 1) mc) := by
    have hl4 := hm4.bats.row.length
    have hl4b : (bats ms4).length = ms4.length := List.length_map _
    have hl0 := HM3.out.bats.row.length
    have hl0b : (bats ms).length = ms.length := List.length_map _
    have hkl : (keepD s v3 (bats ms)).2.length ≤ (bats ms).length := by
     unfold keepD
     split
     · show (List.drop _ _).length ≤ _; rw [List.length_drop]; omega
     exact Nat.le_refl _
    have h2 := hkr.1
    have h3 := hkr.2.2
    rw [← hb4, HEN.out] at h3
    rw [← hb4] at h2 hkl
    exact ⟨_, ad4, len4, cap4, ms4, hm4, h2, by have := hkr.2.1; omega, by rw [h3]; omega, by omega⟩
   rw [← hs4]
   clear hm4 hb4 hg4 hkr hs4 HT3 HM3 HK3
   go_wp2_with fail
   go_ret
   exact gives_act (l := [⟨6, Bat.zero, none, 0, [], none, 0, 0, v3, 0, false, none, 0, 0, none, 0, 0⟩]) HK4.out ⟨i3, HT4.out⟩ HMW.out (by simp only [List.mem_cons, List.not_mem_nil, or_false]; rintro m rfl; exact amIn_plain _ _ _ _ _) (by simp only [List.mem_cons, List.not_mem_nil, or_false]; rintro m rfl; exact amNew_plain _ _ _ _ _) (by show 1 ≤ 1; decide) (by show 1 ≤ 3; decide) _ rfl 1 rfl
 have d10 : decide (v2 < 10) = true := decide_eq_true v10
 go_wp2_with fail
 refine (ask_any w2 kt tad tlen tcap i2 HT2.out km mc s ad len cap ms HM2.out (Nat.ne_of_lt hkk) hNk (by omega) HOK.out).mono ?_
 rintro e w3 ⟨b0, b1, b2, b3, b4, b5, recs, rd, rc, rfl, HP, HTX, HN, HRE3, HT3, HG3, HRB3⟩
 have HM3 := qh (HM2.out.grown HG3.out (by omega) (fun a ha => hNk _ (HM2.out.inN.1 a ha)) (fun m hm a ha => hNk _ (HM2.out.inN.2 m hm a ha)))
 have HK3 : Hid (Kept w w3 fun i => i = kt ∨ i = km) := HK2.out.trans (Kept.of_grown (F := fun i => i = kt ∨ i = km) HG3.out (.inl (.inl rfl))) (fun i hi => .inl hi)
 have HRB : Hid (∀ a, rd = some a → w.heap.size ≤ a.block) := fun a ha => Nat.le_trans HK2.out.size (HRB3.out a ha)
 have hX3 : w.heap.size ≤ w3.heap.size := HK3.out.size
 clear HG3 HT2 HM2 HK2 HRB3
 go_upto_region 5 with fail
 obtain ⟨w4, hw4⟩ := exq (w3.alloc (.cells #[.int .i64 b0, .int .i64 b1, .int .i64 b2, .int .i64 b3, .bool b4, .int .i64 b5, .slice rd recs.length rc] 29))
 have hb4 := wbq hw4
 obtain ⟨X, hX⟩ := exq w3.heap.size
 have HX4 := bxq hw4 hX
 have HM4 := qh (HM3.out.keep hb4)
 have HRE4 := qh (HRE3.out.keep hb4)
 have HK4 : Hid (Kept w w4 fun i => i = kt ∨ i = km) := HK3.out.trans (Kept.of_below (F := fun _ => False) hb4) (fun i hi => hi.elim)
 obtain ⟨i4, ht4⟩ := HT3.out
 have HT4 : Hid (TapeAt w4 kt tad tlen tcap i4) := ht4.on hb4
 rw [← hw4, ← hX]
 have hXw : w.heap.size ≤ X := by rw [hX]; exact hX3
 clear hw4 hb4 ht4 hX hX3 HT3 HM3 HRE3 HK3
 obtain ⟨p0, p1, p2, p3, p4, p5, p6⟩ := HX4.out.cs
 by_cases hmk : b5 = 0
 rotate_left
 · have hd5n : (b5 != 0) = true := by simpa using hmk
   have hgr := markW_grows (cap := mc) (p := b1) (e := b2) (m := b5) HR.out HP.out
   obtain ⟨⟨⟨rn0, re0⟩, rl0⟩, hrr⟩ : ∃ r, markD mc s (bats ms) b1 b2 b5 = r := ⟨_, rfl⟩
   rw [hrr] at hgr
   have HGR := qh hgr
   have HRR := qh hrr
   clear hgr hrr
   go_wp2_with fail
   refine (mark_any w4 km mc s ad len cap ms HM4.out (by omega) HOK.out (by rw [HEN.out]; omega) b1 b2 b5 HP.out _ HRR.out).mono ?_
   rintro e w5 ⟨ad5, len5, cap5, ms5, rfl, hmp, hbp, hgp⟩
   have HMW : Hid (MW N w5 km (most + 1) mc) := mw_put HM4.out hs0 (by rw [HEN.out]; exact hse) hlm HGR.out hmp hbp
   have HX5 : Hid (BoxAt w5 X b0 b1 b2 b3 b4 b5 (.slice rd recs.length rc)) := HX4.out.tape hgp (by omega)
   have HRE5 := qh (HRE4.out.tape hgp (fun a ha => by have := HRB.out a ha; omega))
   have HT5 : Hid (TapeAt w5 kt tad tlen tcap i4) := HT4.out.grow hgp (fun k hk => by have := Option.some.inj hk; omega)
   have HK5 : Hid (Kept w w5 fun i => i = kt ∨ i = km) := HK4.out.trans (Kept.of_grown (F := fun i => i = kt ∨ i = km) hgp (.inl (.inr rfl))) (fun i hi => .inl hi)
   clear hmp hbp hgp HT4 HM4 HK4 HX4 HRE4
   clear p0 p1 p2 p3 p4 p5 p6
   obtain ⟨p0, p1, p2, p3, p4, p5, p6⟩ := HX5.out.cs
   go_wp2_with fail
   go_ret
   exact gives_act (l := [⟨3, ⟨b0, b1, b2, b3, b4, b5, recs⟩, rd, rc, [], none, 0, 0, 0, 0, false, none, 0, 0, none, 0, 0⟩]) HK5.out ⟨i4, HT5.out⟩ HMW.out (by simp only [List.mem_cons, List.not_mem_nil, or_false]; rintro m rfl; exact ⟨HRE5.out, HTX.out, by have := HN.out; show recs.length ≤ _; omega, HP.out, Byt.nil _, Nat.zero_le _⟩) (by simp only [List.mem_cons, List.not_mem_nil, or_false]; rintro m rfl; exact ⟨HRB.out, fun a h => by cases h⟩) (by show 1 ≤ 1; decide) (by show 1 ≤ 3; decide) _ rfl 1 rfl
 have hd5n : (b5 != 0) = false := by rw [hmk]; rfl
 clear hmk
 go_wp2_with fail
 refine (tapeNext_any w4 kt tad tlen tcap i4 5 HT4.out (by omega) (by omega)).mono ?_
 rintro e w5 ⟨v5, i5, rfl, lo5, up5, ht, hg⟩
 have HT5 := qh ht
 have HM5 := qh (HM4.out.grown hg (by omega) (fun a ha => hNk _ (HM4.out.inN.1 a ha)) (fun m hm a ha => hNk _ (HM4.out.inN.2 m hm a ha)))
 have HK5 : Hid (Kept w w5 fun i => i = kt ∨ i = km) := HK4.out.trans (Kept.of_grown (F := fun i => i = kt ∨ i = km) hg (.inl (.inl rfl))) (fun i hi => .inl hi)
 have HX5 : Hid (BoxAt w5 X b0 b1 b2 b3 b4 b5 (.slice rd recs.length rc)) := HX4.out.tape hg (by omega)
 have HRE5 := qh (HRE4.out.tape hg (fun a ha => by have := HRB.out a ha; omega))
 clear HX4 HRE4 p0 p1 p2 p3 p4 p5 p6
 clear ht hg HT4 HM4 HK4
 obtain ⟨p0, p1, p2, p3, p4, p5, p6⟩ := HX5.out.cs
 by_cases hv5 : v5 = 0
 rotate_left
 · have hd6 : (v5 == 0) = false := by simpa using hv5
   have hgr := produceW_grows (cap := mc) (b := ⟨b0, b1, b2, b3, b4, b5, recs⟩) HR.out HP.out
   obtain ⟨⟨⟨rn0, re0⟩, rl0⟩, hrr⟩ : ∃ r, produceD mc s (bats ms) ⟨b0, b1, b2, b3, b4, b5, recs⟩ = r := ⟨_, rfl⟩
   rw [hrr] at hgr
   have HGR := qh hgr
   have HRR := qh hrr
   clear hgr hrr
   go_wp2_with fail
   refine (produce_any w5 km mc s ad len cap ms HM5.out (by omega) HOK.out (by rw [HEN.out]; omega) b0 b1 b2 b3 b4 b5 recs rd rc HRE5.out HTX.out (by have := HN.out; omega) HP.out _ HRR.out).mono ?_
   rintro e w6 ⟨ad6, len6, cap6, ms6, rfl, hmp, hbp, hgp⟩
   have HMW : Hid (MW N w6 km (most + 1) mc) := mw_put HM5.out hs0 (by rw [HEN.out]; exact hse) hlm HGR.out hmp hbp
   have HX6 : Hid (BoxAt w6 X b0 b1 b2 b3 b4 b5 (.slice rd recs.length rc)) := HX5.out.tape hgp (by omega)
   have HRE6 := qh (HRE5.out.tape hgp (fun a ha => by have := HRB.out a ha; omega))
   have HT6 : Hid (TapeAt w6 kt tad tlen tcap i5) := HT5.out.grow hgp (fun k hk => by have := Option.some.inj hk; omega)
   have HK6 : Hid (Kept w w6 fun i => i = kt ∨ i = km) := HK5.out.trans (Kept.of_grown (F := fun i => i = kt ∨ i = km) hgp (.inl (.inr rfl))) (fun i hi => .inl hi)
   clear hmp hbp hgp HT5 HM5 HK5 HX5 HRE5
   clear p0 p1 p2 p3 p4 p5 p6
   obtain ⟨p0, p1, p2, p3, p4, p5, p6⟩ := HX6.out.cs
   go_wp2_with fail
   go_ret
   exact gives_act (l := [⟨1, ⟨b0, b1, b2, b3, b4, b5, recs⟩, rd, rc, [], none, 0, 0, 0, 0, false, none, 0, 0, none, 0, 0⟩]) HK6.out ⟨i5, HT6.out⟩ HMW.out (by simp only [List.mem_cons, List.not_mem_nil, or_false]; rintro m rfl; exact ⟨HRE6.out, HTX.out, by have := HN.out; show recs.length ≤ _; omega, HP.out, Byt.nil _, Nat.zero_le _⟩) (by simp only [List.mem_cons, List.not_mem_nil, or_false]; rintro m rfl; exact ⟨HRB.out, fun a h => by cases h⟩) (by show 1 ≤ 1; decide) (by show 1 ≤ 3; decide) _ rfl 1 rfl
 have hd6 : (v5 == 0) = true := by rw [hv5]; rfl
 clear hv5
 have HALL : Hid (rightE ⟨b0, b1, b2, b3, b4, b5, recs⟩ = 0 → AllB (bytesB ⟨b0, b1, b2, b3, b4, b5, recs⟩) ∧ (bytesB ⟨b0, b1, b2, b3, b4, b5, recs⟩).length ≤ 2404) := fun h => ⟨bytes_all (ok_of h), (ok_len (ok_of h)).1⟩
 go_wp2_with fail
 refine (refBytes_any w5 ⟨b0, b1, b2, b3, b4, b5, recs⟩ rd recs.length rc HRE5.out HTX.out (by have := HN.out; omega) HP.out).mono ?_
 rintro e w6 hgb
 obtain ⟨xv, rfl, hb6, hx⟩ := gives_bytes_open hgb (fun h => (HALL.out h).1)
 have HX6 := qh hx
 obtain ⟨ev, hev⟩ := exq (rightE ⟨b0, b1, b2, b3, b4, b5, recs⟩)
 rw [← hev]
 have HEV := qh hev
 have HT6 : Hid (TapeAt w6 kt tad tlen tcap i5) := HT5.out.on hb6
 have HM6 := qh (HM5.out.keep hb6)
 have HK6 : Hid (Kept w w6 fun i => i = kt ∨ i = km) := HK5.out.trans (Kept.of_below (F := fun _ => False) hb6) (fun i hi => hi.elim)
 have HZ5 : Hid (w.heap.size ≤ w5.heap.size ∧ km < w5.heap.size ∧ kt < w5.heap.size) := ⟨HK5.out.size, lt_of_block HM5.out.box, HT5.out.lt⟩
 have HM56 : Hid (MOk N w5 km mc s ad len cap ms) := HM5.out
 have HB56 : Hid (Below w5.heap.size w5 w6) := hb6
 clear hev hgb hb6 hx HT5 HM5 HK5 HX5 HRE5 p0 p1 p2 p3 p4 p5 p6
 rcases HX6.out with hxv | ⟨hev0, g, c, hxv, hgl, hgc, hby⟩
 · subst hxv
   have hgr := rawW_grows (cap := mc) (x := []) HR.out (fun y hy => by cases hy)
   obtain ⟨⟨⟨rn0, re0⟩, rl0⟩, hrr⟩ : ∃ r, rawD mc s (bats ms) [] = r := ⟨_, rfl⟩
   rw [hrr] at hgr
   have HGR := qh hgr
   have HRR := qh hrr
   clear hgr hrr HX6
   go_wp2_with fail
   refine (raw_any w6 km mc s ad len cap ms HM6.out (by omega) HOK.out (by rw [HEN.out]; omega) none 0 0 [] (Byt.nil _) (by decide)).mono ?_
   rw [HRR.out]
   rintro e w7 ⟨ad7, len7, cap7, ms7, rfl, hmp, hbp, hgp⟩
   have HMW : Hid (MW N w7 km (most + 1) mc) := mw_put HM6.out hs0 (by rw [HEN.out]; exact hse) hlm HGR.out hmp hbp
   have HT7 : Hid (TapeAt w7 kt tad tlen tcap i5) := HT6.out.grow hgp (fun k hk => by have := Option.some.inj hk; omega)
   have HK7 : Hid (Kept w w7 fun i => i = kt ∨ i = km) := HK6.out.trans (Kept.of_grown (F := fun i => i = kt ∨ i = km) hgp (.inl (.inr rfl))) (fun i hi => .inl hi)
   clear hmp hbp hgp HT6 HM6 HK6
   go_wp2_with fail
   go_ret
   exact gives_act (l := [⟨2, Bat.zero, none, 0, [], none, 0, 0, 0, 0, false, none, 0, 0, none, 0, 0⟩]) HK7.out ⟨i5, HT7.out⟩ HMW.out (by simp only [List.mem_cons, List.not_mem_nil, or_false]; rintro m rfl; exact amIn_plain _ _ _ _ _) (by simp only [List.mem_cons, List.not_mem_nil, or_false]; rintro m rfl; exact amNew_plain _ _ _ _ _) (by show 1 ≤ 1; decide) (by show 1 ≤ 3; decide) _ rfl 1 rfl
 obtain ⟨xs, hxs⟩ := exq (bytesB ⟨b0, b1, b2, b3, b4, b5, recs⟩)
 have hl24 := (HALL.out hev0).2
 rw [← hxs] at hxv hgc hby hl24
 obtain ⟨xn, hxn⟩ : ∃ n, xs.length = n := ⟨_, rfl⟩
 rw [hxn] at hxv hgc hby hl24
 subst hxv
 have HBY := qh hby
 have HGL : Hid (w.heap.size ≤ g ∧ g ≠ km ∧ g ≠ kt ∧ kt < g) := by show _ ∧ _; have := HZ5.out; exact ⟨by omega, by omega, by omega, by omega⟩
 have HMg : Hid (MOk (fun k => N k ∧ k ≠ g) w6 km mc s ad len cap ms) := HM56.out.move (Kept.of_below (F := fun _ => False) HB56.out) (fun h => h) (fun _ _ _ h => h) (fun k hk hn => ⟨hn, by omega⟩) (fun k hk => ⟨HM6.out.up k hk, by have := hby.lt; omega⟩)
 have hNg : ∀ k, (N k ∧ k ≠ g) → k ≠ kt := fun k hk => hNk k hk.1
 have hgr := rawW_grows (cap := mc) (x := xs) HR.out hby.all
 obtain ⟨⟨⟨rn0, re0⟩, rl0⟩, hrr⟩ : ∃ r, rawD mc s (bats ms) xs = r := ⟨_, rfl⟩
 rw [hrr] at hgr
 have HGR := qh hgr
 have HRR := qh hrr
 have HGC : Hid (xn ≤ c) := hgc
 clear hgr hrr HX6 hgl hby hxs hxn hev0 hgc
 go_wp2_with fail
 refine (raw_any w6 km mc s ad len cap ms HMg.out (by omega) HOK.out (by rw [HEN.out]; omega) (some ⟨g, 0, none⟩) xn c xs (HBY.out.byt HGC.out) (by omega)).mono ?_
 rw [HRR.out]
 rintro e w7 ⟨ad7, len7, cap7, ms7, rfl, hmp, hbp, hgp⟩
 have HMW : Hid (MW (fun k => N k ∧ k ≠ g) w7 km (most + 1) mc) := mw_put HMg.out hs0 (by rw [HEN.out]; exact hse) hlm HGR.out hmp hbp
 have HT7 : Hid (TapeAt w7 kt tad tlen tcap i5) := HT6.out.grow hgp (fun k hk => by have := Option.some.inj hk; omega)
 have HK7 : Hid (Kept w w7 fun i => i = kt ∨ i = km) := HK6.out.trans (Kept.of_grown (F := fun i => i = kt ∨ i = km) hgp (.inl (.inr rfl))) (fun i hi => .inl hi)
 have HBY7 : Hid (BytB w7 g xn xs) := HBY.out.kept (Kept.of_grown (F := fun i => i = km) hgp (.inl rfl)) HGL.out.2.1
 clear hmp hbp hgp HT6 HM6 HMg HM56 HB56 HK6 HBY
 by_cases hx0 : xn = 0
 · have hdx : decide (0 < xn) = false := by rw [hx0]; rfl
   have hdxi : decide ((0 : Int) < (xn : Int)) = false := by rw [hx0]; rfl
   have HX0 := qh hx0
   clear hx0
   go_wp2_with fail
   go_ret
   exact gives_act (l := [⟨2, Bat.zero, none, 0, xs, some ⟨g, 0, none⟩, xn, c, 0, 0, false, none, 0, 0, none, 0, 0⟩]) HK7.out ⟨i5, HT7.out⟩ (HMW.out.mono (fun k h => h.1)) (by simp only [List.mem_cons, List.not_mem_nil, or_false]; rintro m rfl; exact ⟨recsAt_nil _, (fun r hr => by cases hr), Nat.zero_le _, by show (0 : Int) ≤ _; decide, HBY7.out.byt HGC.out, by show xn ≤ _; omega⟩) (by simp only [List.mem_cons, List.not_mem_nil, or_false]; rintro m rfl; exact ⟨(fun a h => by cases h), fun a h => by cases h; exact HGL.out.1⟩) (by show 1 ≤ 1; decide) (by show 1 ≤ 3; decide) _ rfl 1 rfl
 have hdx : decide (0 < xn) = true := decide_eq_true (by omega)
 have hdxi : decide ((0 : Int) < (xn : Int)) = true := decide_eq_true (by omega)
 have HX0 : Hid (0 < xn) := Nat.pos_of_ne_zero hx0
 have hx1 : (1 : Int) ≤ (xn : Int) := by omega
 clear hx0
 go_wp2_with fail
 refine (tapeNext_any w7 kt tad tlen tcap i5 4 HT7.out (by omega) (by omega)).mono ?_
 rintro e w8 ⟨v8, i8, rfl, lo8, up8, ht, hg⟩
 have HT8 := qh ht
 have HMW8 : Hid (MW (fun k => N k ∧ k ≠ g) w8 km (most + 1) mc) := HMW.out.grown hg hNg (Nat.ne_of_lt hkk)
 have HK8 : Hid (Kept w w8 fun i => i = kt ∨ i = km) := HK7.out.trans (Kept.of_grown (F := fun i => i = kt ∨ i = km) hg (.inl (.inl rfl))) (fun i hi => .inl hi)
 have HBY8 : Hid (BytB w8 g xn xs) := HBY7.out.kept (Kept.of_grown (F := fun i => i = kt) hg (.inl rfl)) HGL.out.2.2.1
 clear ht hg HT7 HMW HK7 HBY7
 by_cases hv8 : v8 = 0
 rotate_left
 · have hd8 : (v8 == 0) = false := by simpa using hv8
   clear hv8
   go_wp2_with fail
   go_ret
   exact gives_act (l := [⟨2, Bat.zero, none, 0, xs, some ⟨g, 0, none⟩, xn, c, 0, 0, false, none, 0, 0, none, 0, 0⟩]) HK8.out ⟨i8, HT8.out⟩ (HMW8.out.mono (fun k h => h.1)) (by simp only [List.mem_cons, List.not_mem_nil, or_false]; rintro m rfl; exact ⟨recsAt_nil _, (fun r hr => by cases hr), Nat.zero_le _, by show (0 : Int) ≤ _; decide, HBY8.out.byt HGC.out, by show xn ≤ _; omega⟩) (by simp only [List.mem_cons, List.not_mem_nil, or_false]; rintro m rfl; exact ⟨(fun a h => by cases h), fun a h => by cases h; exact HGL.out.1⟩) (by show 1 ≤ 1; decide) (by show 1 ≤ 3; decide) _ rfl 1 rfl
 have hd8 : (v8 == 0) = true := by rw [hv8]; rfl
 clear hv8
 go_upto_region 12 with fail
 have hdr : Below w8.heap.size w8 w8.drew := (Below.refl _ w8).drew
 refine wp_region_noPanic ?_
 refine wp_region_z [13] (fun (V : World) => True) (by kernel_rfl) ?_
 have hHeld : (fun (V : World) => True) w8.drew := trivial
 obtain ⟨u0, hu0⟩ := exq w8.drew
 rw [← hu0] at hHeld hdr
 rw [← hu0]
 clear hu0
 have HTu := qh (HT8.out.on hdr)
 have HMu := qh (HMW8.out.on hdr)
 have HKu : Hid (Kept w u0 fun i => i = kt ∨ i = km) := HK8.out.trans (Kept.of_below (F := fun _ => False) hdr) (fun i hi => hi.elim)
 have HBYu : Hid (BytB u0 g xn xs) := HBY8.out.kept (Kept.of_below (F := fun _ => False) hdr) (fun h => h)
 clear hdr HT8 HMW8 HK8 HBY8
 refine zt 0 ?_
 refine zt 1 ?_
 refine zt 2 ?_
 refine zt 3 ?_
 refine zt 7 ?_
 refine zr 4 (fun C hC => ?_)
 go_simp
 refine (tapeNext_any u0 kt tad tlen tcap i8 (xn : Int) HTu.out hx1 (by omega)).mono ?_
 rintro e u1 ⟨v9, i9, rfl, lo9, up9, ht, hg⟩
 have HT9 := qh ht
 have HM9 : Hid (MW (fun k => N k ∧ k ≠ g) u1 km (most + 1) mc) := HMu.out.grown hg hNg (Nat.ne_of_lt hkk)
 have HK9 : Hid (Kept w u1 fun i => i = kt ∨ i = km) := HKu.out.trans (Kept.of_grown (F := fun i => i = kt ∨ i = km) hg (.inl (.inl rfl))) (fun i hi => .inl hi)
 have HBY9 : Hid (BytB u1 g xn xs) := HBYu.out.kept (Kept.of_grown (F := fun i => i = kt) hg (.inl rfl)) HGL.out.2.2.1
 clear ht hg HTu HMu HKu HBYu
 obtain ⟨vj, hvj⟩ : ∃ vj : Nat, v9 = (vj : Int) := ⟨v9.toNat, by omega⟩
 subst hvj
 have hjl : vj < xn := by omega
 have hHeld : (fun (V : World) => True) u1 := trivial
 refine zc hC hHeld ?_
 clear hC C hHeld
 obtain ⟨bv, hbv⟩ : ∃ bv : Nat, bv = xs.getD vj 0 := ⟨_, rfl⟩
 have hb256 : bv < 256 := by rw [hbv]; exact getD_all HBY9.out.all vj
 refine wpAnyZ_strengthen (S' := (fun (V : World) => V.cell? ⟨g, vj, none⟩ = some (.int .u8 (bv : Int)))) (fun _ _ => trivial) _ _ _ _ ?_
 have hHeld : (fun (V : World) => V.cell? ⟨g, vj, none⟩ = some (.int .u8 (bv : Int))) u1 := by show _ = _; rw [hbv]; exact HBY9.out.cell hjl
 have HBV := qh hbv
 clear hbv
 refine zt 5 ?_
 refine zt 6 ?_
 refine zr 8 (fun C hC => ?_)
 go_simp
 refine (tapeNext_any u1 kt tad tlen tcap i9 255 HT9.out (by omega) (by omega)).mono ?_
 rintro e u2 ⟨va, ia, rfl, loa, upa, ht, hg⟩
 have HTa := qh ht
 have HMa : Hid (MW (fun k => N k ∧ k ≠ g) u2 km (most + 1) mc) := HM9.out.grown hg hNg (Nat.ne_of_lt hkk)
 have HKa : Hid (Kept w u2 fun i => i = kt ∨ i = km) := HK9.out.trans (Kept.of_grown (F := fun i => i = kt ∨ i = km) hg (.inl (.inl rfl))) (fun i hi => .inl hi)
 have HBYa : Hid (BytB u2 g xn xs) := HBY9.out.kept (Kept.of_grown (F := fun i => i = kt) hg (.inl rfl)) HGL.out.2.2.1
 clear ht hg HT9 HM9 HK9 HBY9
 have hHeld : (fun (V : World) => V.cell? ⟨g, vj, none⟩ = some (.int .u8 (bv : Int))) u2 := by show _ = _; rw [HBV.out]; exact HBYa.out.cell hjl
 refine zc hC hHeld ?_
 clear hC C
 refine zt 9 ?_
 refine zt 10 ?_
 refine zt 11 ?_
 refine zt 12 ?_
 have hfz := HBYa.out.free vj
 refine zr 13 (fun C hC => ?_)
 have hoc : u2.cell? ⟨g, vj, none⟩ = some (.int .u8 (bv : Int)) := hHeld
 go_simp
 refine zl hC ?_
 clear hC C
 refine zd ?_
 obtain ⟨z, hz, hzz⟩ := xor_some (bv : Int) (IntKind.u8.wrap (IntKind.i64.wrap (1 + va)))
 rw [hzz]
 clear hzz
 obtain ⟨U, hU⟩ := exq (u2.setCell ⟨g, vj, none⟩ (.int .u8 (z : Int)))
 have hgU : u2.grownBy U (some g) := by rw [hU]; exact grow_one u2 g _ _
 have HBYU : Hid (BytB U g xn (xs.set vj z)) := by
  show BytB _ _ _ _
  rw [hU]
  have h1 := HBYa.out.set hjl (z := (z : Int)) (by omega) (by omega)
  rw [Int.toNat_natCast] at h1
  exact h1
 have HTU : Hid (TapeAt U kt tad tlen tcap ia) := HTa.out.grow hgU (fun k hk => by have := Option.some.inj hk; have := HGL.out; omega)
 have HMU : Hid (MW (fun k => N k ∧ k ≠ g) U km (most + 1) mc) := HMa.out.grown hgU (fun k hk => hk.2) HGL.out.2.1
 have HKU : Hid (Kept w U fun i => i = kt ∨ i = km) := HKa.out.trans (Kept.of_grown (F := fun i => i = g) hgU (.inl rfl)) (fun i hi => .inr (by rw [hi]; exact HGL.out.1))
 rw [← hU]
 clear hU hgU hoc hfz hHeld HBYa HTa HMa HKa
 go_wp2_with fail
 go_ret
 exact gives_act (l := [⟨2, Bat.zero, none, 0, xs.set vj z, some ⟨g, 0, none⟩, xn, c, 0, 0, false, none, 0, 0, none, 0, 0⟩]) HKU.out ⟨ia, HTU.out⟩ (HMU.out.mono (fun k h => h.1)) (by simp only [List.mem_cons, List.not_mem_nil, or_false]; rintro m rfl; exact ⟨recsAt_nil _, (fun r hr => by cases hr), Nat.zero_le _, by show (0 : Int) ≤ _; decide, HBYU.out.byt HGC.out, by show xn ≤ _; omega⟩) (by simp only [List.mem_cons, List.not_mem_nil, or_false]; rintro m rfl; exact ⟨(fun a h => by cases h), fun a h => by cases h; exact HGL.out.1⟩) (by show 1 ≤ 1; decide) (by show 1 ≤ 3; decide) _ rfl 1 rfl
end Go.Proofs.YtjmfdildnojknaaGreat
