/- Parts of a proof. -/
import Derived.Test.YtjmfdildnojknaaGreatKP9
set_option maxRecDepth 100000
set_option maxHeartbeats 16000000
set_option linter.unusedVariables false
namespace Go.Proofs.YtjmfdildnojknaaGreat
open Go.RowKit
open Go.FoMath
open Go.AbMath (withinD)
open Go.ProdMath
open Go.BatMath hiding AllB getD_lt take_all
structure Fd where
 recs : List Gt
 drs : List Dr
 next : Int
 stable : Int
def Fd.zero : Fd := ⟨[], [], 0, 0⟩
noncomputable def fetchD (start : Int) (bs : List Bat) (o n : Int) (only : Bool) : Fd × Int :=
 if n < 1 ∨ 64 < n then (Fd.zero, 1)
 else if o < start ∨ endD start bs < o then (Fd.zero, 20)
 else
  let top := if only = true then stableD start bs else endD start bs
  let recs := recordsD bs o top
  let nx := nextD recs n.toNat top o
  (⟨recs.take n.toNat, if only = true then withinD (foldR [] bs) o nx else [], nx, stableD start bs⟩, 0)
def FBox (w : World) (k : Nat) (v0 v1 : Value) (x2 x3 : Int) : Prop := w.heap[k]? = some (.cells #[v0, v1, .int .i64 x2, .int .i64 x3] 73 (0, 0))
section
variable {w w' : World} {k : Nat} {v0 v1 : Value} {x2 x3 : Int}
theorem FBox.c0 (h : FBox w k v0 v1 x2 x3) : w.cell? ⟨k, 0, none⟩ = some v0 := by rw [cell_of_row _ _ 0 _ _ _ h]; rfl
theorem FBox.c1 (h : FBox w k v0 v1 x2 x3) : w.cell? ⟨k, 1, none⟩ = some v1 := by rw [cell_of_row _ _ 1 _ _ _ h]; rfl
theorem FBox.c2 (h : FBox w k v0 v1 x2 x3) : w.cell? ⟨k, 2, none⟩ = some (.int .i64 x2) := by rw [cell_of_row _ _ 2 _ _ _ h]; rfl
theorem FBox.c3 (h : FBox w k v0 v1 x2 x3) : w.cell? ⟨k, 3, none⟩ = some (.int .i64 x3) := by rw [cell_of_row _ _ 3 _ _ _ h]; rfl
theorem FBox.free (h : FBox w k v0 v1 x2 x3) (j : Nat) : w.frozen? ⟨k, j, none⟩ = false := frozen_of_row w k j _ _ h
theorem FBox.lt (h : FBox w k v0 v1 x2 x3) : k < w.heap.size := lt_of_block h
theorem FBox.on (h : FBox w k v0 v1 x2 x3) (hb : Below w.heap.size w w') : FBox w' k v0 v1 x2 x3 := by
 have hlt := h.lt
 unfold FBox at *
 rw [hb.block k hlt]
 exact h
theorem FBox.off (h : FBox w k v0 v1 x2 x3) {j i : Nat} (hj : j ≠ k) (u : Value) : FBox (w.setCell ⟨j, i, none⟩ u) k v0 v1 x2 x3 := box_off h hj u
theorem FBox.s0 (h : FBox w k v0 v1 x2 x3) (u : Value) : FBox (w.setCell ⟨k, 0, none⟩ u) k u v1 x2 x3 := box_set h 0 _
theorem FBox.s1 (h : FBox w k v0 v1 x2 x3) (u : Value) : FBox (w.setCell ⟨k, 1, none⟩ u) k v0 u x2 x3 := box_set h 1 _
theorem FBox.s2 (h : FBox w k v0 v1 x2 x3) (n : Int) : FBox (w.setCell ⟨k, 2, none⟩ (.int .i64 n)) k v0 v1 n x3 := box_set h 2 _
theorem FBox.s3 (h : FBox w k v0 v1 x2 x3) (n : Int) : FBox (w.setCell ⟨k, 3, none⟩ (.int .i64 n)) k v0 v1 x2 n := box_set h 3 _
theorem fbox_new (w : World) (v0 v1 : Value) (x2 x3 : Int) : FBox (w.alloc (.cells #[v0, v1, .int .i64 x2, .int .i64 x3] 73)) w.heap.size v0 v1 x2 x3 := heap_alloc_new w _
end
theorem dr_past {w : World} {ad : Option Addr} {n cap k : Nat} {l : List Dr} {a0 a1 : Option Addr} {n0 c0 n1 c1 : Nat} {x2 x3 : Int} (h : RowAt drK w ad n cap l) (hf : FBox w k (.slice a0 n0 c0) (.slice a1 n1 c1) x2 x3) (j : Nat) (u : Value) : RowAt drK (w.setCell ⟨k, j, none⟩ u) ad n cap l := by
 by_cases hn : n = 0
 · exact ⟨h.length, h.fits, h.room, .inl hn⟩
 rcases h.cells with h0 | ⟨b, off, e, hlt, hc⟩
 · exact absurd h0 hn
 have hne : b ≠ k := fun hbk => by
  subst hbk
  have hl : 0 < l.length := by have := h.length; omega
  have h0 := hc 0 l[0] (List.getElem?_eq_getElem hl) 0 _ rfl
  have h2 := hc 0 l[0] (List.getElem?_eq_getElem hl) 2 _ rfl
  have h1 := hc 0 l[0] (List.getElem?_eq_getElem hl) 1 _ rfl
  rw [Nat.zero_mul, Nat.zero_add] at h0 h1 h2
  match off with
  | 0 => rw [Nat.zero_add, hf.c0] at h0; cases h0
  | 1 => rw [hf.c1] at h0; cases h0
  | m + 2 =>
    rw [cell_of_row _ _ _ _ _ _ hf, List.getElem?_toArray, List.getElem?_eq_none (by simp)] at h2
    cases h2
 exact h.off (fun a ha => by rw [e] at ha; cases ha; exact hne) j u
def FdAt (w : World) (v : Value) (f : Fd) : Prop := ∃ ra rn rc da dn dc, v = .agg #[.slice ra rn rc, .slice da dn dc, .int .i64 f.next, .int .i64 f.stable] ∧ RowAt gtK w ra rn rc f.recs ∧ RowAt drK w da dn dc f.drs
theorem FdAt.keep {w w' : World} {v : Value} {f : Fd} (h : FdAt w v f) (hb : Below w.heap.size w w') : FdAt w' v f := by
 obtain ⟨ra, rn, rc, da, dn, dc, e, h1, h2⟩ := h
 exact ⟨ra, rn, rc, da, dn, dc, e, h1.keep hb, h2.keep hb⟩
def GivesFd (w : World) (r : Fd × Int) (e : Ending) (w' : World) : Prop := ∃ v, e = .returned (.tuple #[v, .int .i64 r.2]) ∧ FdAt w' v r.1 ∧ Below w.heap.size w w'
theorem resultsRefFetch {tmps : Array Value} {B : Nat} {W : World} {v0 v1 : Value} {x2 x3 : Int} {x : Value} (h : FBox W B v0 v1 x2 x3) (ht : tmps.getD 10 undef = .pointer (some ⟨B, 0, none⟩)) (hx : tmps.getD 11 undef = x) :
 (results Tryz.f62 tmps).run Tryz.prog W = .ok (.tuple #[.agg #[v0, v1, .int .i64 x2, .int .i64 x3], x]) W := by
 rw [results_cell_tmp (p := 10) (u := 11) (ty := 73) Tryz.results62, ht]
 have hl := run_loadVar_row (P := Tryz.prog) W B 73 73 _ (0, 0) _ h Tryz.underlying73 rfl (by kernel_rfl)
 simp only [asAddr, Sem.run_pure, Result.andThen, hl, hx]
theorem refFetch_any (w : World) (start : Int) (ad : Option Addr) (len cap : Nat) (ms : List BM) (h : BatsAt w ad len cap ms) (hL : len ≤ 5000) (hr : FoRow start (bats ms)) (o n : Int) (only : Bool) :
 Calls Tryz.prog 62 #[.int .i64 start, .slice ad len cap, .int .i64 o, .int .i64 n, .bool only] w (GivesFd w (fetchD start (bats ms) o n only)) := by
 have H := qh h
 have HR := qh hr
 have HLL : Hid (len ≤ 5000) := hL
 clear h hr hL
 obtain ⟨en, hen⟩ := exq (endD start (bats ms))
 obtain ⟨st, hst⟩ := exq (stableD start (bats ms))
 have HEN := qh hen
 have HST := qh hst
 clear hen hst
 go_enter Tryz.func62, Tryz.ntmps62
 go_upto_region 1 with fail
 obtain ⟨W0, hW0⟩ := exq (w.alloc (.cells #[.slice none 0 0, .slice none 0 0, .int .i64 0, .int .i64 0] 73))
 obtain ⟨R, hR⟩ := exq w.heap.size
 have HF0 : Hid (FBox W0 R (.slice none 0 0) (.slice none 0 0) 0 0) := by rw [hW0, hR]; exact fbox_new w _ _ _ _
 have HB0 := hwq hW0
 have HRW : Hid (w.heap.size ≤ R) := by show _ ≤ _; rw [hR]; exact Nat.le_refl _
 (try rw [← hW0, ← hR])
 clear hW0 hR
 have f0 := HF0.out.free 0
 have f1 := HF0.out.free 1
 have f2 := HF0.out.free 2
 have f3 := HF0.out.free 3
 have r0 := HF0.out.c0
 have r1 := HF0.out.c1
 have r2 := HF0.out.c2
 have r3 := HF0.out.c3
 have HZ : Hid (FBox ((((W0.setCell ⟨R, 0, none⟩ (.slice none 0 0)).setCell ⟨R, 1, none⟩ (.slice none 0 0)).setCell ⟨R, 2, none⟩ (.int .i64 0)).setCell ⟨R, 3, none⟩ (.int .i64 0)) R (.slice none 0 0) (.slice none 0 0) 0 0 ∧ Below w.heap.size w ((((W0.setCell ⟨R, 0, none⟩ (.slice none 0 0)).setCell ⟨R, 1, none⟩ (.slice none 0 0)).setCell ⟨R, 2, none⟩ (.int .i64 0)).setCell ⟨R, 3, none⟩ (.int .i64 0))) :=
  ⟨(((HF0.out.s0 _).s1 _).s2 0).s3 0, (((HB0.out.setCell HRW.out _).setCell HRW.out _).setCell HRW.out _).setCell HRW.out _⟩
 have hcs : n < 1 ∨ (¬ n < 1 ∧ 64 < n) ∨ (¬ n < 1 ∧ ¬ 64 < n) := by omega
 rcases hcs with h1 | ⟨h1, h2⟩ | ⟨h1, h2⟩
 · have hd : decide (n < 1) = true := decide_eq_true h1
   have HV : Hid (fetchD start (bats ms) o n only = (Fd.zero, 1)) := if_pos (.inl h1)
   clear h1
   go_wp2
   refine bodyPost_ret (v := .tuple #[.agg #[.slice none 0 0, .slice none 0 0, .int .i64 0, .int .i64 0], .int .i64 1]) (resultsRefFetch HZ.out.1 rfl rfl) rfl ?_
   rw [HV.out]
   exact ⟨_, rfl, ⟨none, 0, 0, none, 0, 0, rfl, rowAt_nil _, rowAt_nil _⟩, HZ.out.2⟩
 · have hd : decide (n < 1) = false := decide_eq_false h1
   have hd2 : decide (64 < n) = true := decide_eq_true h2
   have HV : Hid (fetchD start (bats ms) o n only = (Fd.zero, 1)) := if_pos (.inr h2)
   clear h1 h2
   go_wp2
   refine bodyPost_ret (v := .tuple #[.agg #[.slice none 0 0, .slice none 0 0, .int .i64 0, .int .i64 0], .int .i64 1]) (resultsRefFetch HZ.out.1 rfl rfl) rfl ?_
   rw [HV.out]
   exact ⟨_, rfl, ⟨none, 0, 0, none, 0, 0, rfl, rowAt_nil _, rowAt_nil _⟩, HZ.out.2⟩
 have hd : decide (n < 1) = false := decide_eq_false h1
 have hd2 : decide (64 < n) = false := decide_eq_false h2
 obtain ⟨nn, rfl⟩ : ∃ nn : Nat, n = (nn : Int) := ⟨n.toNat, by omega⟩
 have hn1 : 1 ≤ nn := by omega
 have hn64 : nn ≤ 64 := by omega
 by_cases h3 : o < start
 · have hd3 : decide (o < start) = true := decide_eq_true h3
   have HV : Hid (fetchD start (bats ms) o (nn : Int) only = (Fd.zero, 20)) := by
    show fetchD _ _ _ _ _ = _
    unfold fetchD
    rw [if_neg (by omega), if_pos (.inl h3)]
   clear h1 h2 h3
   go_wp2
   refine bodyPost_ret (v := .tuple #[.agg #[.slice none 0 0, .slice none 0 0, .int .i64 0, .int .i64 0], .int .i64 20]) (resultsRefFetch HZ.out.1 rfl rfl) rfl ?_
   rw [HV.out]
   exact ⟨_, rfl, ⟨none, 0, 0, none, 0, 0, rfl, rowAt_nil _, rowAt_nil _⟩, HZ.out.2⟩
 have hd3 : decide (o < start) = false := decide_eq_false h3
 have HE1 := qh (refEnd_any W0 start ad len cap ms (H.out.keep HB0.out) (Nat.le_trans HLL.out (by decide)) HR.out.ok _ HEN.out.symm)
 go_wp2_with fail
 refine HE1.out.mono ?_
 rintro e w1 ⟨rfl, hb⟩
 have HB1 := qh (HB0.out.trans (hb.mono HB0.out.size))
 have HF1 := qh (HF0.out.on hb)
 clear hb HE1 HZ HB0 HF0 f0 f1 f2 f3 r0 r1 r2 r3
 have f0 := HF1.out.free 0
 have f1 := HF1.out.free 1
 have f2 := HF1.out.free 2
 have f3 := HF1.out.free 3
 have r0 := HF1.out.c0
 have r1 := HF1.out.c1
 have r2 := HF1.out.c2
 have r3 := HF1.out.c3
 by_cases h4 : en < o
 · have hd4 : decide (en < o) = true := decide_eq_true h4
   have HV : Hid (fetchD start (bats ms) o (nn : Int) only = (Fd.zero, 20)) := by
    show fetchD _ _ _ _ _ = _
    unfold fetchD
    rw [if_neg (by omega), ← HEN.out, if_pos (.inr h4)]
   have HZ : Hid (FBox ((((w1.setCell ⟨R, 0, none⟩ (.slice none 0 0)).setCell ⟨R, 1, none⟩ (.slice none 0 0)).setCell ⟨R, 2, none⟩ (.int .i64 0)).setCell ⟨R, 3, none⟩ (.int .i64 0)) R (.slice none 0 0) (.slice none 0 0) 0 0 ∧ Below w.heap.size w ((((w1.setCell ⟨R, 0, none⟩ (.slice none 0 0)).setCell ⟨R, 1, none⟩ (.slice none 0 0)).setCell ⟨R, 2, none⟩ (.int .i64 0)).setCell ⟨R, 3, none⟩ (.int .i64 0))) :=
    ⟨(((HF1.out.s0 _).s1 _).s2 0).s3 0, (((HB1.out.setCell HRW.out _).setCell HRW.out _).setCell HRW.out _).setCell HRW.out _⟩
   clear h1 h2 h3 h4
   go_wp2
   refine bodyPost_ret (v := .tuple #[.agg #[.slice none 0 0, .slice none 0 0, .int .i64 0, .int .i64 0], .int .i64 20]) (resultsRefFetch HZ.out.1 rfl rfl) rfl ?_
   rw [HV.out]
   exact ⟨_, rfl, ⟨none, 0, 0, none, 0, 0, rfl, rowAt_nil _, rowAt_nil _⟩, HZ.out.2⟩
 have hd4 : decide (en < o) = false := decide_eq_false h4
 clear r0 r1 r2 r3 f0 f1 f2 f3
 go_wp2_with fail
 refine (refStable_any w1 start ad len cap ms (H.out.keep HB1.out) HLL.out HR.out).mono ?_
 rintro e w2 ⟨rfl, hb⟩
 have HB2 := qh (HB1.out.trans (hb.mono HB1.out.size))
 have HF2 := qh (HF1.out.on hb)
 rw [← HST.out]
 clear hb HB1 HF1
 go_upto_region 6 with fail
 obtain ⟨W3, hW3⟩ := exq (w2.alloc (.cells #[.slice none 0 0, .slice none 0 0, .int .i64 0, .int .i64 st] 73))
 obtain ⟨F, hF⟩ := exq w2.heap.size
 have hb3 := wbq hW3
 have HX3 : Hid (FBox W3 F (.slice none 0 0) (.slice none 0 0) 0 st) := by rw [hW3, hF]; exact fbox_new w2 _ _ _ _
 have HF3 := qh (HF2.out.on hb3)
 have HB3 := qh (HB2.out.trans (hb3.mono HB2.out.size))
 have HFW : Hid (w.heap.size ≤ F) := by show _ ≤ _; rw [hF]; exact HB2.out.size
 have HFR : Hid (F ≠ R) := by show _ ≠ _; rw [hF]; exact Nat.ne_of_gt HF2.out.lt
 (try rw [← hW3, ← hF])
 clear hW3 hF hb3 HB2 HF2
 have HE3 := qh (refEnd_any W3 start ad len cap ms (H.out.keep HB3.out) (Nat.le_trans HLL.out (by decide)) HR.out.ok _ HEN.out.symm)
 go_wp2_with fail
 refine HE3.out.mono ?_
 rintro e w4 ⟨rfl, hb⟩
 have HB4 := qh (HB3.out.trans (hb.mono HB3.out.size))
 have HF4 := qh (HF3.out.on hb)
 have HX4 := qh (HX3.out.on hb)
 clear hb HE3 HB3 HF3 HX3
 have HNR : Hid (¬ ((nn : Int) < 1 ∨ 64 < (nn : Int)) ∧ ¬ (o < start ∨ en < o)) := by show _ ∧ _; constructor <;> omega
 clear h1 h2 h3 h4
 cases only with
 | false =>
   go_wp2_with fail
   refine (refRecords_any w4 ad len cap ms (H.out.keep HB4.out) HLL.out HR.out.few o en).mono ?_
   rintro e w5 ⟨qa, qn, qc, rfl, hrow, hfar, hb⟩
   have HB5 := qh (HB4.out.trans (hb.mono HB4.out.size))
   have HF5 := qh (HF4.out.on hb)
   have HX5 := qh (HX4.out.on hb)
   obtain ⟨rs, hrs⟩ := exq (recordsD (bats ms) o en)
   rw [← hrs] at hrow
   have HRS := qh hrs
   have HQ := qh hrow
   have hqn : rs.length = qn := hrow.length
   have HFAR : Hid (∀ a, qa = some a → a.block ≠ F ∧ a.block ≠ R) := fun a ha => by have h5 := (hfar a ha).1; have h6 := HX4.out.lt; have h7 := HF4.out.lt; exact ⟨by omega, by omega⟩
   have HQN := qh hqn
   have hqb : qn ≤ 80000 := by
    have h5 := recordsD_few (a := o) (z := en) (l := bats ms) (fun b hb => (HR.out.few b hb).2.2)
    have h6 : (bats ms).length = len := by unfold bats; rw [List.length_map]; exact H.out.row.length
    have h7 := HLL.out
    rw [← hrs, h6, hqn] at h5
    omega
   obtain ⟨mx, hmx⟩ := exq (max en o)
   have HMX := qh hmx
   clear hb hrs hrow hfar hqn hmx HB4 HF4 HX4
   have x0 := HX5.out.c0
   have x2 := HX5.out.c2
   have g0 := HX5.out.free 0
   have g2 := HX5.out.free 2
   go_upto_region 11 with fail
   obtain ⟨mv, hmv⟩ : ∃ mv : Int, mv = (if en < o then o else en) := ⟨_, rfl⟩
   rw [← hmv]
   have HMV : Hid (mv = mx) := by show _ = _; rw [hmv, HMX.out]; split <;> omega
   obtain ⟨W6, hW6⟩ : ∃ y, y = (w5.setCell ⟨F, 0, none⟩ (.slice qa qn qc)).setCell ⟨F, 2, none⟩ (.int .i64 mv) := ⟨_, rfl⟩
   have HX6 : Hid (FBox W6 F (.slice qa qn qc) (.slice none 0 0) mv st) := by rw [hW6]; exact (HX5.out.s0 _).s2 _
   have HF6 : Hid (FBox W6 R (.slice none 0 0) (.slice none 0 0) 0 0) := by rw [hW6]; exact (HF5.out.off HFR.out _).off HFR.out _
   have HB6 : Hid (Below w.heap.size w W6) := by rw [hW6]; exact (HB5.out.setCell HFW.out _).setCell HFW.out _
   have HQ6 : Hid (RowAt gtK W6 qa qn qc rs) := by rw [hW6]; exact (HQ.out.off (fun a ha => (HFAR.out a ha).1) _ _).off (fun a ha => (HFAR.out a ha).1) _ _
   rw [← hW6]
   clear hW6 hmv HX5 HF5 HB5 HQ x0 x2 g0 g2
   have x0 := HX6.out.c0
   by_cases hq : nn ≤ qn
   rotate_left
   · have hdq : decide (nn ≤ qn) = false := decide_eq_false hq
     have hdqi : decide ((nn : Int) ≤ (qn : Int)) = false := decide_eq_false (by omega)
     have HNX : Hid (mv = nextD rs nn en o) := by show _ = _; rw [HMV.out, HMX.out, next_none (by rw [HQN.out]; omega)]
     have HQT : Hid (RowAt gtK W6 qa qn qc (rs.take nn)) := by show RowAt _ _ _ _ _ _; rw [List.take_of_length_le (by rw [HQN.out]; omega)]; exact HQ6.out
     clear hq x0 HQ6
     have y0 := HX6.out.c0
     have y1 := HX6.out.c1
     have y2 := HX6.out.c2
     have y3 := HX6.out.c3
     have z0 := HF6.out.c0
     have g0 := HF6.out.free 0
     have z1 := HF6.out.c1
     have g1 := HF6.out.free 1
     have z2 := HF6.out.c2
     have g2 := HF6.out.free 2
     have z3 := HF6.out.c3
     have g3 := HF6.out.free 3
     have HZ : Hid (FBox ((((W6.setCell ⟨R, 0, none⟩ (.slice qa qn qc)).setCell ⟨R, 1, none⟩ (.slice none 0 0)).setCell ⟨R, 2, none⟩ (.int .i64 mv)).setCell ⟨R, 3, none⟩ (.int .i64 st)) R (.slice qa qn qc) (.slice none 0 0) mv st) := (((HF6.out.s0 _).s1 _).s2 _).s3 _
     have HZB : Hid (Below w.heap.size w ((((W6.setCell ⟨R, 0, none⟩ (.slice qa qn qc)).setCell ⟨R, 1, none⟩ (.slice none 0 0)).setCell ⟨R, 2, none⟩ (.int .i64 mv)).setCell ⟨R, 3, none⟩ (.int .i64 st))) := (((HB6.out.setCell HRW.out _).setCell HRW.out _).setCell HRW.out _).setCell HRW.out _
     have hfq : ∀ a, qa = some a → a.block ≠ R := fun a ha => (HFAR.out a ha).2
     have HZQ : Hid (RowAt gtK ((((W6.setCell ⟨R, 0, none⟩ (.slice qa qn qc)).setCell ⟨R, 1, none⟩ (.slice none 0 0)).setCell ⟨R, 2, none⟩ (.int .i64 mv)).setCell ⟨R, 3, none⟩ (.int .i64 st)) qa qn qc (rs.take nn)) := (((HQT.out.off hfq _ _).off hfq _ _).off hfq _ _).off hfq _ _
     clear hfq
     have HVV : Hid (fetchD start (bats ms) o (nn : Int) false = (⟨rs.take nn, [], mv, st⟩, 0)) := by
      show fetchD _ _ _ _ _ = _
      unfold fetchD
      rw [if_neg HNR.out.1, ← HEN.out, if_neg HNR.out.2, ← HST.out]
      simp only [Int.toNat_natCast, if_false, Bool.false_eq_true]
      rw [← HRS.out, ← HNX.out]
     go_wp2
     refine bodyPost_ret (v := .tuple #[.agg #[.slice qa qn qc, .slice none 0 0, .int .i64 mv, .int .i64 st], .int .i64 0]) (resultsRefFetch HZ.out rfl rfl) rfl ?_
     rw [HVV.out]
     exact ⟨_, rfl, ⟨qa, qn, qc, none, 0, 0, rfl, HZQ.out, rowAt_nil _⟩, HZB.out⟩
   have hdq : decide (nn ≤ qn) = true := decide_eq_true hq
   have hdqi : decide ((nn : Int) ≤ (qn : Int)) = true := decide_eq_true (by omega)
   have hsl : ∀ V, (Instr.slice 70 (.slice qa qn qc) none (some (.int .i64 (nn : Int))) none).run Tryz.prog V = .ok (.slice qa nn qc) V := row_upto gtK_ok _ qn qc nn (Nat.le_trans hq HQ6.out.fits)
   have g0 := HX6.out.free 0
   have HQT := qh (HQ6.out.take nn hq)
   obtain ⟨jn, hjn⟩ := exq (nn - 1)
   have hj1 : jn < nn := by omega
   have hjw : wrap64 ((nn : Int) - 1) = (jn : Int) := by unfold wrap64; omega
   have hjw2 : (nn : Int) - 1 = (jn : Int) := by omega
   have hji : (jn : Int) < (nn : Int) := by omega
   have HJN := qh hjn
   clear hjn hq
   go_upto_region 13 with fail
   obtain ⟨W7, hW7⟩ := exq (W6.setCell ⟨F, 0, none⟩ (.slice qa nn qc))
   have HX7 : Hid (FBox W7 F (.slice qa nn qc) (.slice none 0 0) mv st) := by rw [hW7]; exact HX6.out.s0 _
   have HF7 : Hid (FBox W7 R (.slice none 0 0) (.slice none 0 0) 0 0) := by rw [hW7]; exact HF6.out.off HFR.out _
   have HB7 : Hid (Below w.heap.size w W7) := by rw [hW7]; exact HB6.out.setCell HFW.out _
   have HQ7 : Hid (RowAt gtK W7 qa nn qc (rs.take nn)) := by rw [hW7]; exact HQT.out.off (fun a ha => (HFAR.out a ha).1) _ _
   rw [← hW7]
   clear hW7 hsl x0 g0 HX6 HF6 HB6 HQ6 HQT
   obtain ⟨gb, go2, gx, gel, hgb, hgx, hga⟩ := gt_get HQ7.out hj1
   subst gel
   obtain ⟨gxo, gxp, gxr⟩ := gx
   have k0 := hga.c0
   have hgr : rs[jn]? = some ⟨gxo, gxp, gxr⟩ := by rw [List.getElem?_take_of_lt hj1] at hgx; exact hgx
   have hgm := recordsD_mem (l := bats ms) (a := o) (z := en) (g := ⟨gxo, gxp, gxr⟩) (by rw [← HRS.out]; exact List.mem_of_getElem? hgr)
   have hgb0 : 0 ≤ gxo ∧ gxo ≤ 1099511627800 := by
    obtain ⟨_, _, bb, hbb, hgg⟩ := hgm
    have h5 := batG_mem hgg
    have h6 := HR.out.few bb hbb
    have h7 : countD bb = (bb.recs.length : Int) := by unfold countD; rw [if_neg (by have := h5.1; omega)]
    simp only at h5
    omega
   obtain ⟨hg0, hg1⟩ := hgb0
   have HNX0 : Hid (gxo + 1 = nextD rs nn en o) := by show _ = _; rw [next_some (g := ⟨gxo, gxp, gxr⟩) (by rw [← HJN.out]; exact hgr)]
   obtain ⟨nx, hnx⟩ := exq (gxo + 1)
   have HNXE := qh hnx
   have HNX : Hid (nx = nextD rs nn en o) := by show _ = _; rw [hnx]; exact HNX0.out
   simp only at k0
   clear hgx hga hgr hgm hnx hgb
   have y0 := HX7.out.c0
   have y2 := HX7.out.c2
   have g2 := HX7.out.free 2
   go_upto_region 14 with fail
   rw [← HNXE.out]
   obtain ⟨W8, hW8⟩ := exq (W7.setCell ⟨F, 2, none⟩ (.int .i64 nx))
   have HX8a : Hid (FBox W8 F (.slice (some ⟨gb, go2, none⟩) nn qc) (.slice none 0 0) nx st) := by rw [hW8]; exact HX7.out.s2 _
   have HF8a : Hid (FBox W8 R (.slice none 0 0) (.slice none 0 0) 0 0) := by rw [hW8]; exact HF7.out.off HFR.out _
   have HB8a : Hid (Below w.heap.size w W8) := by rw [hW8]; exact HB7.out.setCell HFW.out _
   have HQ8a : Hid (RowAt gtK W8 (some ⟨gb, go2, none⟩) nn qc (rs.take nn)) := by rw [hW8]; exact HQ7.out.off (fun a ha => (HFAR.out a ha).1) _ _
   rw [← hW8]
   clear hW8 HX7 HF7 HB7 HQ7 k0 y0 y2 g2 hg0 hg1 hj1 hjw hjw2 hji
   have y0 := HX8a.out.c0
   have y1 := HX8a.out.c1
   have y2 := HX8a.out.c2
   have y3 := HX8a.out.c3
   have z0 := HF8a.out.c0
   have g0 := HF8a.out.free 0
   have z1 := HF8a.out.c1
   have g1 := HF8a.out.free 1
   have z2 := HF8a.out.c2
   have g2 := HF8a.out.free 2
   have z3 := HF8a.out.c3
   have g3 := HF8a.out.free 3
   have HZ : Hid (FBox ((((W8.setCell ⟨R, 0, none⟩ (.slice (some ⟨gb, go2, none⟩) nn qc)).setCell ⟨R, 1, none⟩ (.slice none 0 0)).setCell ⟨R, 2, none⟩ (.int .i64 nx)).setCell ⟨R, 3, none⟩ (.int .i64 st)) R (.slice (some ⟨gb, go2, none⟩) nn qc) (.slice none 0 0) nx st) := (((HF8a.out.s0 _).s1 _).s2 _).s3 _
   have HZB : Hid (Below w.heap.size w ((((W8.setCell ⟨R, 0, none⟩ (.slice (some ⟨gb, go2, none⟩) nn qc)).setCell ⟨R, 1, none⟩ (.slice none 0 0)).setCell ⟨R, 2, none⟩ (.int .i64 nx)).setCell ⟨R, 3, none⟩ (.int .i64 st))) := (((HB8a.out.setCell HRW.out _).setCell HRW.out _).setCell HRW.out _).setCell HRW.out _
   have hfq : ∀ a : Addr, (some ⟨gb, go2, none⟩ : Option Addr) = some a → a.block ≠ R := fun a ha => (HFAR.out a ha).2
   have HZQ : Hid (RowAt gtK ((((W8.setCell ⟨R, 0, none⟩ (.slice (some ⟨gb, go2, none⟩) nn qc)).setCell ⟨R, 1, none⟩ (.slice none 0 0)).setCell ⟨R, 2, none⟩ (.int .i64 nx)).setCell ⟨R, 3, none⟩ (.int .i64 st)) (some ⟨gb, go2, none⟩) nn qc (rs.take nn)) := (((HQ8a.out.off hfq _ _).off hfq _ _).off hfq _ _).off hfq _ _
   clear hfq
   have HVV : Hid (fetchD start (bats ms) o (nn : Int) false = (⟨rs.take nn, [], nx, st⟩, 0)) := by
    show fetchD _ _ _ _ _ = _
    unfold fetchD
    rw [if_neg HNR.out.1, ← HEN.out, if_neg HNR.out.2, ← HST.out]
    simp only [Int.toNat_natCast, if_false, Bool.false_eq_true]
    rw [← HRS.out, ← HNX.out]
   go_wp2
   refine bodyPost_ret (v := .tuple #[.agg #[.slice (some ⟨gb, go2, none⟩) nn qc, .slice none 0 0, .int .i64 nx, .int .i64 st], .int .i64 0]) (resultsRefFetch HZ.out rfl rfl) rfl ?_
   rw [HVV.out]
   exact ⟨_, rfl, ⟨some ⟨gb, go2, none⟩, nn, qc, none, 0, 0, rfl, HZQ.out, rowAt_nil _⟩, HZB.out⟩
 | true =>
   have x3 := HX4.out.c3
   go_wp2_with fail
   clear x3
   refine (refRecords_any w4 ad len cap ms (H.out.keep HB4.out) HLL.out HR.out.few o st).mono ?_
   rintro e w5 ⟨qa, qn, qc, rfl, hrow, hfar, hb⟩
   have HB5 := qh (HB4.out.trans (hb.mono HB4.out.size))
   have HF5 := qh (HF4.out.on hb)
   have HX5 := qh (HX4.out.on hb)
   obtain ⟨rs, hrs⟩ := exq (recordsD (bats ms) o st)
   rw [← hrs] at hrow
   have HRS := qh hrs
   have HQ := qh hrow
   have hqn : rs.length = qn := hrow.length
   have HFAR : Hid (∀ a, qa = some a → a.block ≠ F ∧ a.block ≠ R) := fun a ha => by have h5 := (hfar a ha).1; have h6 := HX4.out.lt; have h7 := HF4.out.lt; exact ⟨by omega, by omega⟩
   have HQN := qh hqn
   have hqb : qn ≤ 80000 := by
    have h5 := recordsD_few (a := o) (z := st) (l := bats ms) (fun b hb => (HR.out.few b hb).2.2)
    have h6 : (bats ms).length = len := by unfold bats; rw [List.length_map]; exact H.out.row.length
    have h7 := HLL.out
    rw [← hrs, h6, hqn] at h5
    omega
   obtain ⟨mx, hmx⟩ := exq (max st o)
   have HMX := qh hmx
   clear hb hrs hrow hfar hqn hmx HB4 HF4 HX4
   have x0 := HX5.out.c0
   have x2 := HX5.out.c2
   have g0 := HX5.out.free 0
   have g2 := HX5.out.free 2
   go_upto_region 11 with fail
   obtain ⟨mv, hmv⟩ : ∃ mv : Int, mv = (if st < o then o else st) := ⟨_, rfl⟩
   rw [← hmv]
   have HMV : Hid (mv = mx) := by show _ = _; rw [hmv, HMX.out]; split <;> omega
   obtain ⟨W6, hW6⟩ : ∃ y, y = (w5.setCell ⟨F, 0, none⟩ (.slice qa qn qc)).setCell ⟨F, 2, none⟩ (.int .i64 mv) := ⟨_, rfl⟩
   have HX6 : Hid (FBox W6 F (.slice qa qn qc) (.slice none 0 0) mv st) := by rw [hW6]; exact (HX5.out.s0 _).s2 _
   have HF6 : Hid (FBox W6 R (.slice none 0 0) (.slice none 0 0) 0 0) := by rw [hW6]; exact (HF5.out.off HFR.out _).off HFR.out _
   have HB6 : Hid (Below w.heap.size w W6) := by rw [hW6]; exact (HB5.out.setCell HFW.out _).setCell HFW.out _
   have HQ6 : Hid (RowAt gtK W6 qa qn qc rs) := by rw [hW6]; exact (HQ.out.off (fun a ha => (HFAR.out a ha).1) _ _).off (fun a ha => (HFAR.out a ha).1) _ _
   rw [← hW6]
   clear hW6 hmv HX5 HF5 HB5 HQ x0 x2 g0 g2
   have x0 := HX6.out.c0
   by_cases hq : nn ≤ qn
   rotate_left
   · have hdq : decide (nn ≤ qn) = false := decide_eq_false hq
     have hdqi : decide ((nn : Int) ≤ (qn : Int)) = false := decide_eq_false (by omega)
     have HNX : Hid (mv = nextD rs nn st o) := by show _ = _; rw [HMV.out, HMX.out, next_none (by rw [HQN.out]; omega)]
     have HQT : Hid (RowAt gtK W6 qa qn qc (rs.take nn)) := by show RowAt _ _ _ _ _ _; rw [List.take_of_length_le (by rw [HQN.out]; omega)]; exact HQ6.out
     clear hq HQ6
     go_wp2_with fail
     (try clear x0)
     refine (fold_any W6 ad len cap ms (H.out.keep HB6.out) (Nat.le_trans HLL.out (by decide)) (batsOk_of HR.out.ok)).mono ?_
     rintro e w8 ⟨kt, ta, tn, tc, ps, dd, dn, dc, rfl, -, -, hdr, -, hb⟩
     have HB8 := qh (HB6.out.trans (hb.mono HB6.out.size))
     have HX8 := qh (HX6.out.on hb)
     have HF8 := qh (HF6.out.on hb)
     have HQ8 := qh (HQT.out.keep hb)
     have HDR := qh hdr
     have HDN : Hid (dn ≤ 1000000) := by
      show _ ≤ _
      have h5 := AbMath.drops_len (bats ms) []
      have h6 : (bats ms).length = len := by unfold bats; rw [List.length_map]; exact H.out.row.length
      have h7 := hdr.length
      have h8 := HLL.out
      rw [h6] at h5
      (try simp only [List.length_nil] at h5)
      omega
     clear hb hdr HB6 HX6 HF6 HQT
     have x2 := HX8.out.c2
     go_wp2_with fail
     clear x2
     refine (refWithin_any w8 dd dn dc _ HDR.out HDN.out o mv).mono ?_
     rintro e w9 ⟨ea, en2, ec, rfl, hwr, hb⟩
     have HB9 := qh (HB8.out.trans (hb.mono HB8.out.size))
     have HX9 := qh (HX8.out.on hb)
     have HF9 := qh (HF8.out.on hb)
     have HQ9 := qh (HQ8.out.keep hb)
     have HWR := qh hwr
     clear hb hwr HB8 HX8 HF8 HQ8 HDR
     have g1 := HX9.out.free 1
     have y1 := HX9.out.c1
     go_upto_region 17 with fail
     obtain ⟨Wa, hWa⟩ := exq (w9.setCell ⟨F, 1, none⟩ (.slice ea en2 ec))
     have HXa : Hid (FBox Wa F (.slice qa qn qc) (.slice ea en2 ec) mv st) := by rw [hWa]; exact HX9.out.s1 _
     have HFa : Hid (FBox Wa R (.slice none 0 0) (.slice none 0 0) 0 0) := by rw [hWa]; exact HF9.out.off HFR.out _
     have HBa : Hid (Below w.heap.size w Wa) := by rw [hWa]; exact HB9.out.setCell HFW.out _
     have HQa : Hid (RowAt gtK Wa qa qn qc (rs.take nn)) := by rw [hWa]; exact HQ9.out.off (fun a ha => (HFAR.out a ha).1) _ _
     have HWa : Hid (RowAt drK Wa ea en2 ec (withinD (foldR [] (bats ms)) o mv)) := by rw [hWa]; exact dr_past HWR.out HX9.out _ _
     rw [← hWa]
     clear hWa HX9 HF9 HB9 HQ9 HWR g1 y1
     have y0 := HXa.out.c0
     have y1 := HXa.out.c1
     have y2 := HXa.out.c2
     have y3 := HXa.out.c3
     have z0 := HFa.out.c0
     have g0 := HFa.out.free 0
     have z1 := HFa.out.c1
     have g1 := HFa.out.free 1
     have z2 := HFa.out.c2
     have g2 := HFa.out.free 2
     have z3 := HFa.out.c3
     have g3 := HFa.out.free 3
     have HZ : Hid (FBox ((((Wa.setCell ⟨R, 0, none⟩ (.slice qa qn qc)).setCell ⟨R, 1, none⟩ (.slice ea en2 ec)).setCell ⟨R, 2, none⟩ (.int .i64 mv)).setCell ⟨R, 3, none⟩ (.int .i64 st)) R (.slice qa qn qc) (.slice ea en2 ec) mv st) := (((HFa.out.s0 _).s1 _).s2 _).s3 _
     have HZB : Hid (Below w.heap.size w ((((Wa.setCell ⟨R, 0, none⟩ (.slice qa qn qc)).setCell ⟨R, 1, none⟩ (.slice ea en2 ec)).setCell ⟨R, 2, none⟩ (.int .i64 mv)).setCell ⟨R, 3, none⟩ (.int .i64 st))) := (((HBa.out.setCell HRW.out _).setCell HRW.out _).setCell HRW.out _).setCell HRW.out _
     have hfq : ∀ a, qa = some a → a.block ≠ R := fun a ha => (HFAR.out a ha).2
     have HZQ : Hid (RowAt gtK ((((Wa.setCell ⟨R, 0, none⟩ (.slice qa qn qc)).setCell ⟨R, 1, none⟩ (.slice ea en2 ec)).setCell ⟨R, 2, none⟩ (.int .i64 mv)).setCell ⟨R, 3, none⟩ (.int .i64 st)) qa qn qc (rs.take nn)) := (((HQa.out.off hfq _ _).off hfq _ _).off hfq _ _).off hfq _ _
     have HZW : Hid (RowAt drK ((((Wa.setCell ⟨R, 0, none⟩ (.slice qa qn qc)).setCell ⟨R, 1, none⟩ (.slice ea en2 ec)).setCell ⟨R, 2, none⟩ (.int .i64 mv)).setCell ⟨R, 3, none⟩ (.int .i64 st)) ea en2 ec (withinD (foldR [] (bats ms)) o mv)) := dr_past (dr_past (dr_past (dr_past HWa.out HFa.out _ _) (HFa.out.s0 _) _ _) ((HFa.out.s0 _).s1 _) _ _) (((HFa.out.s0 _).s1 _).s2 _) _ _
     clear hfq
     have HVV : Hid (fetchD start (bats ms) o (nn : Int) true = (⟨rs.take nn, withinD (foldR [] (bats ms)) o mv, mv, st⟩, 0)) := by
      show fetchD _ _ _ _ _ = _
      unfold fetchD
      rw [if_neg HNR.out.1, ← HEN.out, if_neg HNR.out.2, ← HST.out]
      simp only [Int.toNat_natCast, if_true]
      rw [← HRS.out, ← HNX.out]
     go_wp2
     refine bodyPost_ret (v := .tuple #[.agg #[.slice qa qn qc, .slice ea en2 ec, .int .i64 mv, .int .i64 st], .int .i64 0]) (resultsRefFetch HZ.out rfl rfl) rfl ?_
     rw [HVV.out]
     exact ⟨_, rfl, ⟨qa, qn, qc, ea, en2, ec, rfl, HZQ.out, HZW.out⟩, HZB.out⟩
   have hdq : decide (nn ≤ qn) = true := decide_eq_true hq
   have hdqi : decide ((nn : Int) ≤ (qn : Int)) = true := decide_eq_true (by omega)
   have hsl : ∀ V, (Instr.slice 70 (.slice qa qn qc) none (some (.int .i64 (nn : Int))) none).run Tryz.prog V = .ok (.slice qa nn qc) V := row_upto gtK_ok _ qn qc nn (Nat.le_trans hq HQ6.out.fits)
   have g0 := HX6.out.free 0
   have HQT := qh (HQ6.out.take nn hq)
   obtain ⟨jn, hjn⟩ := exq (nn - 1)
   have hj1 : jn < nn := by omega
   have hjw : wrap64 ((nn : Int) - 1) = (jn : Int) := by unfold wrap64; omega
   have hjw2 : (nn : Int) - 1 = (jn : Int) := by omega
   have hji : (jn : Int) < (nn : Int) := by omega
   have HJN := qh hjn
   clear hjn hq
   go_upto_region 13 with fail
   obtain ⟨W7, hW7⟩ := exq (W6.setCell ⟨F, 0, none⟩ (.slice qa nn qc))
   have HX7 : Hid (FBox W7 F (.slice qa nn qc) (.slice none 0 0) mv st) := by rw [hW7]; exact HX6.out.s0 _
   have HF7 : Hid (FBox W7 R (.slice none 0 0) (.slice none 0 0) 0 0) := by rw [hW7]; exact HF6.out.off HFR.out _
   have HB7 : Hid (Below w.heap.size w W7) := by rw [hW7]; exact HB6.out.setCell HFW.out _
   have HQ7 : Hid (RowAt gtK W7 qa nn qc (rs.take nn)) := by rw [hW7]; exact HQT.out.off (fun a ha => (HFAR.out a ha).1) _ _
   rw [← hW7]
   clear hW7 hsl x0 g0 HX6 HF6 HB6 HQ6 HQT
   obtain ⟨gb, go2, gx, gel, hgb, hgx, hga⟩ := gt_get HQ7.out hj1
   subst gel
   obtain ⟨gxo, gxp, gxr⟩ := gx
   have k0 := hga.c0
   have hgr : rs[jn]? = some ⟨gxo, gxp, gxr⟩ := by rw [List.getElem?_take_of_lt hj1] at hgx; exact hgx
   have hgm := recordsD_mem (l := bats ms) (a := o) (z := st) (g := ⟨gxo, gxp, gxr⟩) (by rw [← HRS.out]; exact List.mem_of_getElem? hgr)
   have hgb0 : 0 ≤ gxo ∧ gxo ≤ 1099511627800 := by
    obtain ⟨_, _, bb, hbb, hgg⟩ := hgm
    have h5 := batG_mem hgg
    have h6 := HR.out.few bb hbb
    have h7 : countD bb = (bb.recs.length : Int) := by unfold countD; rw [if_neg (by have := h5.1; omega)]
    simp only at h5
    omega
   obtain ⟨hg0, hg1⟩ := hgb0
   have HNX0 : Hid (gxo + 1 = nextD rs nn st o) := by show _ = _; rw [next_some (g := ⟨gxo, gxp, gxr⟩) (by rw [← HJN.out]; exact hgr)]
   obtain ⟨nx, hnx⟩ := exq (gxo + 1)
   have HNXE := qh hnx
   have HNX : Hid (nx = nextD rs nn st o) := by show _ = _; rw [hnx]; exact HNX0.out
   simp only at k0
   clear hgx hga hgr hgm hnx hgb
   have y0 := HX7.out.c0
   have y2 := HX7.out.c2
   have g2 := HX7.out.free 2
   go_upto_region 14 with fail
   rw [← HNXE.out]
   obtain ⟨W8, hW8⟩ := exq (W7.setCell ⟨F, 2, none⟩ (.int .i64 nx))
   have HX8a : Hid (FBox W8 F (.slice (some ⟨gb, go2, none⟩) nn qc) (.slice none 0 0) nx st) := by rw [hW8]; exact HX7.out.s2 _
   have HF8a : Hid (FBox W8 R (.slice none 0 0) (.slice none 0 0) 0 0) := by rw [hW8]; exact HF7.out.off HFR.out _
   have HB8a : Hid (Below w.heap.size w W8) := by rw [hW8]; exact HB7.out.setCell HFW.out _
   have HQ8a : Hid (RowAt gtK W8 (some ⟨gb, go2, none⟩) nn qc (rs.take nn)) := by rw [hW8]; exact HQ7.out.off (fun a ha => (HFAR.out a ha).1) _ _
   rw [← hW8]
   clear hW8 HX7 HF7 HB7 HQ7 k0 y0 y2 g2 hg0 hg1 hj1 hjw hjw2 hji
   go_wp2_with fail
   (try clear x0)
   refine (fold_any W8 ad len cap ms (H.out.keep HB8a.out) (Nat.le_trans HLL.out (by decide)) (batsOk_of HR.out.ok)).mono ?_
   rintro e w8 ⟨kt, ta, tn, tc, ps, dd, dn, dc, rfl, -, -, hdr, -, hb⟩
   have HB8 := qh (HB8a.out.trans (hb.mono HB8a.out.size))
   have HX8 := qh (HX8a.out.on hb)
   have HF8 := qh (HF8a.out.on hb)
   have HQ8 := qh (HQ8a.out.keep hb)
   have HDR := qh hdr
   have HDN : Hid (dn ≤ 1000000) := by
    show _ ≤ _
    have h5 := AbMath.drops_len (bats ms) []
    have h6 : (bats ms).length = len := by unfold bats; rw [List.length_map]; exact H.out.row.length
    have h7 := hdr.length
    have h8 := HLL.out
    rw [h6] at h5
    (try simp only [List.length_nil] at h5)
    omega
   clear hb hdr HB8a HX8a HF8a HQ8a
   have x2 := HX8.out.c2
   go_wp2_with fail
   clear x2
   refine (refWithin_any w8 dd dn dc _ HDR.out HDN.out o nx).mono ?_
   rintro e w9 ⟨ea, en2, ec, rfl, hwr, hb⟩
   have HB9 := qh (HB8.out.trans (hb.mono HB8.out.size))
   have HX9 := qh (HX8.out.on hb)
   have HF9 := qh (HF8.out.on hb)
   have HQ9 := qh (HQ8.out.keep hb)
   have HWR := qh hwr
   clear hb hwr HB8 HX8 HF8 HQ8 HDR
   have g1 := HX9.out.free 1
   have y1 := HX9.out.c1
   go_upto_region 17 with fail
   obtain ⟨Wa, hWa⟩ := exq (w9.setCell ⟨F, 1, none⟩ (.slice ea en2 ec))
   have HXa : Hid (FBox Wa F (.slice (some ⟨gb, go2, none⟩) nn qc) (.slice ea en2 ec) nx st) := by rw [hWa]; exact HX9.out.s1 _
   have HFa : Hid (FBox Wa R (.slice none 0 0) (.slice none 0 0) 0 0) := by rw [hWa]; exact HF9.out.off HFR.out _
   have HBa : Hid (Below w.heap.size w Wa) := by rw [hWa]; exact HB9.out.setCell HFW.out _
   have HQa : Hid (RowAt gtK Wa (some ⟨gb, go2, none⟩) nn qc (rs.take nn)) := by rw [hWa]; exact HQ9.out.off (fun a ha => (HFAR.out a ha).1) _ _
   have HWa : Hid (RowAt drK Wa ea en2 ec (withinD (foldR [] (bats ms)) o nx)) := by rw [hWa]; exact dr_past HWR.out HX9.out _ _
   rw [← hWa]
   clear hWa HX9 HF9 HB9 HQ9 HWR g1 y1
   have y0 := HXa.out.c0
   have y1 := HXa.out.c1
   have y2 := HXa.out.c2
   have y3 := HXa.out.c3
   have z0 := HFa.out.c0
   have g0 := HFa.out.free 0
   have z1 := HFa.out.c1
   have g1 := HFa.out.free 1
   have z2 := HFa.out.c2
   have g2 := HFa.out.free 2
   have z3 := HFa.out.c3
   have g3 := HFa.out.free 3
   have HZ : Hid (FBox ((((Wa.setCell ⟨R, 0, none⟩ (.slice (some ⟨gb, go2, none⟩) nn qc)).setCell ⟨R, 1, none⟩ (.slice ea en2 ec)).setCell ⟨R, 2, none⟩ (.int .i64 nx)).setCell ⟨R, 3, none⟩ (.int .i64 st)) R (.slice (some ⟨gb, go2, none⟩) nn qc) (.slice ea en2 ec) nx st) := (((HFa.out.s0 _).s1 _).s2 _).s3 _
   have HZB : Hid (Below w.heap.size w ((((Wa.setCell ⟨R, 0, none⟩ (.slice (some ⟨gb, go2, none⟩) nn qc)).setCell ⟨R, 1, none⟩ (.slice ea en2 ec)).setCell ⟨R, 2, none⟩ (.int .i64 nx)).setCell ⟨R, 3, none⟩ (.int .i64 st))) := (((HBa.out.setCell HRW.out _).setCell HRW.out _).setCell HRW.out _).setCell HRW.out _
   have hfq : ∀ a : Addr, (some ⟨gb, go2, none⟩ : Option Addr) = some a → a.block ≠ R := fun a ha => (HFAR.out a ha).2
   have HZQ : Hid (RowAt gtK ((((Wa.setCell ⟨R, 0, none⟩ (.slice (some ⟨gb, go2, none⟩) nn qc)).setCell ⟨R, 1, none⟩ (.slice ea en2 ec)).setCell ⟨R, 2, none⟩ (.int .i64 nx)).setCell ⟨R, 3, none⟩ (.int .i64 st)) (some ⟨gb, go2, none⟩) nn qc (rs.take nn)) := (((HQa.out.off hfq _ _).off hfq _ _).off hfq _ _).off hfq _ _
   have HZW : Hid (RowAt drK ((((Wa.setCell ⟨R, 0, none⟩ (.slice (some ⟨gb, go2, none⟩) nn qc)).setCell ⟨R, 1, none⟩ (.slice ea en2 ec)).setCell ⟨R, 2, none⟩ (.int .i64 nx)).setCell ⟨R, 3, none⟩ (.int .i64 st)) ea en2 ec (withinD (foldR [] (bats ms)) o nx)) := dr_past (dr_past (dr_past (dr_past HWa.out HFa.out _ _) (HFa.out.s0 _) _ _) ((HFa.out.s0 _).s1 _) _ _) (((HFa.out.s0 _).s1 _).s2 _) _ _
   clear hfq
   have HVV : Hid (fetchD start (bats ms) o (nn : Int) true = (⟨rs.take nn, withinD (foldR [] (bats ms)) o nx, nx, st⟩, 0)) := by
    show fetchD _ _ _ _ _ = _
    unfold fetchD
    rw [if_neg HNR.out.1, ← HEN.out, if_neg HNR.out.2, ← HST.out]
    simp only [Int.toNat_natCast, if_true]
    rw [← HRS.out, ← HNX.out]
   go_wp2
   refine bodyPost_ret (v := .tuple #[.agg #[.slice (some ⟨gb, go2, none⟩) nn qc, .slice ea en2 ec, .int .i64 nx, .int .i64 st], .int .i64 0]) (resultsRefFetch HZ.out rfl rfl) rfl ?_
   rw [HVV.out]
   exact ⟨_, rfl, ⟨some ⟨gb, go2, none⟩, nn, qc, ea, en2, ec, rfl, HZQ.out, HZW.out⟩, HZB.out⟩
end Go.Proofs.YtjmfdildnojknaaGreat
namespace Go.Proofs.YtjmfdildnojknaaGreat
open Go.RowKit
open Go.FoMath
open Go.ProdMath
open Go.BatMath hiding AllB getD_lt take_all
theorem drSame3_any (w : World) (a1 a2 : Option Addr) (n1 n2 c1 c2 : Nat) (l : List Dr) (h1 : RowAt drK w a1 n1 c1 l) (h2 : RowAt drK w a2 n2 c2 l) (hl : l.length ≤ 1000000) :
 Calls Tryz.prog 64 #[.slice a1 n1 c1, .slice a2 n2 c2] w (GivesBool w true) := by
 obtain rfl : n1 = n2 := h1.length.symm.trans h2.length
 exact drSame_any w a1 a2 n1 c1 c2 l h1 h2 (by rw [← h1.length]; exact hl)
theorem refFetches_any (w : World) (f : Fd) (va vb : Value) (h1 : FdAt w va f) (h2 : FdAt w vb f) (hl : f.recs.length ≤ 1000000) (hd : f.drs.length ≤ 1000000) :
 Calls Tryz.prog 31 #[va, vb] w (GivesBool w true) := by
 obtain ⟨ra, rn, rc, da, dn, dc, rfl, hr1, hd1⟩ := h1
 obtain ⟨qa, qn, qc, ea, en, ec, rfl, hr2, hd2⟩ := h2
 have HL := qh hl
 have HD := qh hd
 have HR1 := qh hr1
 have HR2 := qh hr2
 have HD1 := qh hd1
 have HD2 := qh hd2
 obtain ⟨rs, ds, nx, st⟩ := f
 simp only at HL HD HR1 HR2 HD1 HD2
 clear hl hd hr1 hr2 hd1 hd2
 simp only
 go_enter Tryz.func31, Tryz.ntmps31
 go_upto_region 1 with fail
 obtain ⟨W0, hW0⟩ : ∃ z, z = (w.alloc (.cells #[.slice ra rn rc, .slice da dn dc, .int .i64 nx, .int .i64 st] 73)).alloc (.cells #[.slice qa qn qc, .slice ea en ec, .int .i64 nx, .int .i64 st] 73) := ⟨_, rfl⟩
 have HB0 : Hid (Below w.heap.size w W0) := by rw [hW0]; exact (bal _ _).alloc (by simp) _
 obtain ⟨A, hA⟩ := exq w.heap.size
 obtain ⟨B, hB⟩ := exq (w.heap.size + 1)
 have HA0 : Hid (FBox W0 A (.slice ra rn rc) (.slice da dn dc) nx st) := by
  show FBox _ _ _ _ _ _
  rw [hW0, hA]
  exact (fbox_new w _ _ _ _).on (bal _ _)
 have HX0 : Hid (FBox W0 B (.slice qa qn qc) (.slice ea en ec) nx st) := by
  show FBox _ _ _ _ _ _
  rw [hW0, hB]
  have := fbox_new (w.alloc (.cells #[.slice ra rn rc, .slice da dn dc, .int .i64 nx, .int .i64 st] 73)) (.slice qa qn qc) (.slice ea en ec) nx st
  simpa using this
 (try rw [← hW0, ← hB, ← hA])
 clear hW0 hA hB
 have a0 := HA0.out.c0
 have b0 := HX0.out.c0
 go_wp2_with fail
 clear a0 b0
 refine (refGots_any W0 ra qa rn qn rc qc rs (HR1.out.keep HB0.out) (HR2.out.keep HB0.out) HL.out).mono ?_
 rintro e w1 ⟨rfl, hb⟩
 have HB1 := qh (HB0.out.trans (hb.mono HB0.out.size))
 have HA1 := qh (HA0.out.on hb)
 have HX1 := qh (HX0.out.on hb)
 clear hb HB0 HA0 HX0
 have a1 := HA1.out.c1
 have b1 := HX1.out.c1
 go_wp2_with fail
 clear a1 b1
 refine (drSame3_any w1 da ea dn en dc ec ds (HD1.out.keep HB1.out) (HD2.out.keep HB1.out) HD.out).mono ?_
 rintro e w2 ⟨rfl, hb⟩
 have HB2 := qh (HB1.out.trans (hb.mono HB1.out.size))
 have HA2 := qh (HA1.out.on hb)
 have HX2 := qh (HX1.out.on hb)
 clear hb HB1 HA1 HX1
 have a2 := HA2.out.c2
 have b2 := HX2.out.c2
 have a3 := HA2.out.c3
 have b3 := HX2.out.c3
 have hn : (nx == nx) = true := beq_self_eq_true nx
 have hs : (st == st) = true := beq_self_eq_true st
 go_wp2
 go_ret
 exact ⟨rfl, HB2.out⟩
end Go.Proofs.YtjmfdildnojknaaGreat
namespace Go.Proofs.YtjmfdildnojknaaGreat
open Go.RowKit
open Go.SeqMath
open Go.ProdMath
open Go.BatMath hiding AllB getD_lt take_all
structure MOk (N : Nat → Prop) (w : World) (km : Nat) (mc start : Int) (ad : Option Addr) (len cap : Nat) (ms : List BM) : Prop where
 box : MBox w km mc start (.slice ad len cap)
 bats : BatsAt w ad len cap ms
 row : ∀ a, ad = some a → km < a.block ∧ a.block < w.heap.size
 ins : ∀ m ∈ ms, ∀ a, m.ad = some a → km < a.block ∧ a.block < w.heap.size
 inN : (∀ a, ad = some a → N a.block) ∧ ∀ m ∈ ms, ∀ a, m.ad = some a → N a.block
 up : ∀ k, w.heap.size ≤ k → N k
theorem MOk.keep {N : Nat → Prop} {w w' : World} {km : Nat} {mc start : Int} {ad : Option Addr} {len cap : Nat} {ms : List BM} (h : MOk N w km mc start ad len cap ms) (hb : Below w.heap.size w w') : MOk N w' km mc start ad len cap ms :=
 ⟨h.box.on hb, h.bats.keep hb, fun a ha => ⟨(h.row a ha).1, Nat.lt_of_lt_of_le (h.row a ha).2 hb.size⟩, fun m hm a ha => ⟨(h.ins m hm a ha).1, Nat.lt_of_lt_of_le (h.ins m hm a ha).2 hb.size⟩, h.inN, fun k hk => h.up k (Nat.le_trans hb.size hk)⟩
theorem RecAt.grown {w w' : World} {m : BM} {r : Option Nat} (h : RecAt w m) (hg : w.grownBy w' r) (hr : ∀ a, m.ad = some a → some a.block ≠ r) : RecAt w' m := recsAt_row.2 ((recsAt_row.1 h).grown hg hr)
theorem MOk.grown {N : Nat → Prop} {w w' : World} {km k : Nat} {mc start : Int} {ad : Option Addr} {len cap : Nat} {ms : List BM} (h : MOk N w km mc start ad len cap ms) (hg : w.grownBy w' (some k)) (hk : k ≠ km) (hr : ∀ a, ad = some a → a.block ≠ k) (hi : ∀ m ∈ ms, ∀ a, m.ad = some a → a.block ≠ k) : MOk N w' km mc start ad len cap ms :=
 ⟨h.box.grown hg fun e => hk (Option.some.inj e), ⟨h.bats.row.grown hg fun a ha e => hr a ha (Option.some.inj e), fun m hm => RecAt.grown (h.bats.ins m hm) hg fun a ha e => hi m hm a ha (Option.some.inj e)⟩, fun a ha => ⟨(h.row a ha).1, Nat.lt_of_lt_of_le (h.row a ha).2 hg.size⟩, fun m hm a ha => ⟨(h.ins m hm a ha).1, Nat.lt_of_lt_of_le (h.ins m hm a ha).2 hg.size⟩, h.inN, fun k hk => h.up k (Nat.le_trans hg.size hk)⟩
def GivesPut (N : Nat → Prop) (w : World) (km : Nat) (mc start : Int) (r : (Int × Int) × List Bat) (e : Ending) (w' : World) : Prop :=
 ∃ ad len cap ms, e = .returned (.tuple #[.int .i64 r.1.1, .int .i64 r.1.2]) ∧ MOk N w' km mc start ad len cap ms ∧ bats ms = r.2 ∧ w.grownBy w' (some km)
theorem gives_put {N : Nat → Prop} {w w' : World} {km : Nat} {mc start : Int} {r : (Int × Int) × List Bat} {x y : Int} {bs : List Bat} {ad : Option Addr} {len cap : Nat} {ms : List BM} (hr : r = ((x, y), bs)) (h : MOk N w' km mc start ad len cap ms) (hb : bats ms = bs) (hg : w.grownBy w' (some km)) : GivesPut N w km mc start r (.returned (.tuple #[.int .i64 x, .int .i64 y])) w' := by
 subst hr
 exact ⟨ad, len, cap, ms, rfl, h, hb, hg⟩
theorem BoxAt.grown2 {w w' : World} {k km : Nat} {b0 b1 b2 b3 : Int} {b4 : Bool} {b5 : Int} {v : Value} (h : BoxAt w k b0 b1 b2 b3 b4 b5 v) (hg : w.grownBy w' (some km)) (hk : km ≠ k) : BoxAt w' k b0 b1 b2 b3 b4 b5 v := h.grows hg fun e => hk (Option.some.inj e)
theorem put_ok {N : Nat → Prop} {W W' : World} {km len cap len' cap' : Nat} {mc start : Int} {ad ad' : Option Addr} {ms : List BM} {mx : BM} (h : MOk N W km mc start ad len cap ms) (hg : W.grownBy W' (some km)) (hb : MBox W' km mc start (.slice ad' len' cap')) (hr : RowAt batK W' ad' len' cap' (ms ++ [mx])) (hk : ∀ a, ad' = some a → W.heap.size ≤ a.block ∧ a.block < W'.heap.size) (hx : RecAt W mx) (hxk : ∀ a, mx.ad = some a → km < a.block ∧ a.block < W.heap.size) (hxn : ∀ a, mx.ad = some a → N a.block) : MOk N W' km mc start ad' len' cap' (ms ++ [mx]) := by
 have hlt := h.box.lt
 have hall : ∀ m ∈ ms ++ [mx], RecAt W m ∧ ∀ a, m.ad = some a → km < a.block ∧ a.block < W.heap.size := by
  intro m hm
  rcases List.mem_append.1 hm with h1 | h1
  · exact ⟨h.bats.ins m h1, h.ins m h1⟩
  rw [List.mem_singleton.1 h1]; exact ⟨hx, hxk⟩
 refine ⟨hb, ⟨hr, fun m hm => RecAt.grown (hall m hm).1 hg fun a ha e => ?_⟩, fun a ha => ?_, fun m hm a ha => ?_, ⟨fun a ha => h.up _ (hk a ha).1, fun m hm a ha => ?_⟩, fun k hk2 => h.up k (Nat.le_trans hg.size hk2)⟩
 · have h1 := ((hall m hm).2 a ha).1
   have h2 := Option.some.inj e
   omega
 · have := hk a ha
   exact ⟨by omega, this.2⟩
 · have := (hall m hm).2 a ha
   exact ⟨this.1, Nat.lt_of_lt_of_le this.2 hg.size⟩
 rcases List.mem_append.1 hm with h1 | h1
 · exact h.inN.2 m h1 a ha
 rw [List.mem_singleton.1 h1] at ha
 exact hxn a ha
theorem modPut_any {N : Nat → Prop} (w : World) (km : Nat) (mc start : Int) (ad : Option Addr) (len cap : Nat) (ms : List BM) (h : MOk N w km mc start ad len cap ms) (hL : len ≤ 99999) (hok : RowOk (bats ms)) (hend : 0 ≤ endD start (bats ms) ∧ endD start (bats ms) ≤ 1099511627792) (b0 b1 b2 b3 : Int) (b4 : Bool) (b5 : Int) (recs : List Rc) (rd : Option Addr) (rc : Nat) (hr : RecsAt w rd recs.length rc recs) (ht : TextsOk recs) (hrn : recs.length ≤ 140737488355328) (hwf : b1 ≤ 9223372036854775807) (r : (Int × Int) × List Bat) (hput : putD mc start (bats ms) ⟨b0, b1, b2, b3, b4, b5, recs⟩ = r) :
 Calls Tryz.prog 43 #[.pointer (some ⟨km, 0, none⟩), .agg #[.int .i64 b0, .int .i64 b1, .int .i64 b2, .int .i64 b3, .bool b4, .int .i64 b5, .slice rd recs.length rc]] w (GivesPut N w km mc start r) := by
 have HUP : Hid (∀ k, w.heap.size ≤ k → N k) := h.up
 have hkm := h.box.lt
 have HOW : Hid (∀ a, ad = some a → a.block < w.heap.size) := fun a ha => (h.row a ha).2
 have HOI : Hid (∀ m ∈ ms, ∀ a, m.ad = some a → a.block < w.heap.size) := fun m hm a ha => (h.ins m hm a ha).2
 obtain ⟨W0, hW0⟩ := exq (w.alloc (.cells #[.int .i64 b0, .int .i64 b1, .int .i64 b2, .int .i64 b3, .bool b4, .int .i64 b5, .slice rd recs.length rc] 29))
 have HB0 := hwq hW0
 have HX0 := bx0 hW0
 have HM0 := qh (h.keep HB0.out)
 have HRE0 := qh (hr.keep HB0.out)
 have HOK := qh hok
 have HBO := qh (batsOk_of hok)
 have HTX := qh ht
 have HW0 := qh hW0
 clear h hr hok hW0 ht
 obtain ⟨X, hX⟩ := exq w.heap.size
 have hXw : w.heap.size ≤ X := by omega
 have hXk : km ≠ X := by omega
 have HXE := qh hX
 rw [← hX] at HX0
 obtain ⟨bs, hbs⟩ : ∃ bs, bats ms = bs := ⟨_, rfl⟩
 have HBS := qh hbs
 rw [hbs] at hend hput HBO HOK
 clear hbs
 obtain ⟨ca, ce, hc⟩ : ∃ ca ce, tcheckD (foldP [] bs) ⟨b0, b1, b2, b3, b4, b5, recs⟩ = (ca, ce) := ⟨_, _, rfl⟩
 obtain ⟨x, hx⟩ : ∃ x, bytesD bs = x := ⟨_, rfl⟩
 obtain ⟨s, hs⟩ : ∃ s, sizeB ⟨b0, b1, b2, b3, b4, b5, recs⟩ = s := ⟨_, rfl⟩
 obtain ⟨v, hv⟩ : ∃ v, endD start bs = v := ⟨_, rfl⟩
 obtain ⟨cnt, hcnt⟩ : ∃ cnt, (if b5 ≠ 0 then 1 else (recs.length : Int)) = cnt := ⟨_, rfl⟩
 have hcd : countD ⟨b0, b1, b2, b3, b4, b5, recs⟩ = cnt := hcnt
 have hbl : bs.length = len := by rw [← HBS.out]; unfold bats; rw [List.length_map]; exact HM0.out.bats.row.length
 have hxb := bytesD_bd bs
 rw [hx, hbl] at hxb
 have hsb := size_bd ⟨b0, b1, b2, b3, b4, b5, recs⟩
 rw [hs] at hsb
 rw [hv] at hend
 have hcb : 0 ≤ cnt ∧ cnt ≤ 140737488355328 := by rw [← hcnt]; split <;> omega
 have hput2 : r = if ce ≠ 0 then ((-1, ce), bs) else if 0 ≤ ca then ((ca, 0), bs) else if mc < x + s then ((-1, 17), bs) else if 1099511627776 < v + cnt then ((-1, 18), bs) else ((b0, 0), bs ++ [⟨b0, b1, b2, b3, b4, b5, recs⟩]) := by
  rw [← hput]
  unfold putD
  rw [hc, hx, hs, hv, hcd]
 have HPUT := qh hput2
 have HC := qh hc
 have HX_ := qh hx
 have HS_ := qh hs
 have HV := qh hv
 have HCNT := qh hcnt
 clear hput hput2 hc hx hs hv hcnt hcd hbl
 go_enter Tryz.func43, Tryz.ntmps43
 go_upto_region 1 with fail
 rw [← HW0.out, ← hX]
 clear HW0 hX
 have m2 := HM0.out.box.c2
 go_wp2_with fail
 have CF := fold_any W0 ad len cap ms HM0.out.bats (by omega) (by rw [HBS.out]; exact HBO.out)
 rw [HBS.out] at CF
 refine CF.mono ?_
 clear CF
 rintro e w1 ⟨kt, tad, tlen, tcap, ps, dd, dn, dc, rfl, htab, hps, _, _, hb1⟩
 have HT1 := qh htab
 have HPS := qh hps
 have HX1 := qh (HX0.out.on hb1)
 have HM1 := qh (HM0.out.keep hb1)
 have HRE1 := qh (HRE0.out.keep hb1)
 have HB1 := qh (HB0.out.trans (hb1.mono HB0.out.size))
 have htl : tlen ≤ 100000 := by
  have h1 := foldP_len [] bs
  have h2 := htab.tab.pds.row.length
  have h3 : (pds ps).length = ps.length := by unfold pds; rw [List.length_map]
  have h4 : bs.length = len := by rw [← HBS.out]; unfold bats; rw [List.length_map]; exact HM0.out.bats.row.length
  rw [← hps, h3] at h1
  simp at h1
  omega
 clear htab hps hb1 HX0 HM0 HRE0 HB0 m2
 obtain ⟨p0, p1, p2, p3, p4, p5, p6⟩ := HX1.out.cs
 go_wp2_with fail
 have CC := tabCheck_any w1 kt tad tlen tcap ps HT1.out.tab (by omega) ⟨b0, b1, b2, b3, b4, b5, recs⟩ rd recs.length rc HRE1.out HTX.out hrn hwf (ca, ce) (by rw [HPS.out]; exact HC.out) (by rw [HPS.out]; exact foldP_few bs (fun p hp => by cases hp))
 refine CC.mono ?_
 clear CC
 rintro e w2 ⟨rfl, hb2⟩
 have HX2 := qh (HX1.out.on hb2)
 have HM2 := qh (HM1.out.keep hb2)
 have HRE2 := qh (HRE1.out.keep hb2)
 have HB2 := qh (HB1.out.trans (hb2.mono HB1.out.size))
 have HG2 : Hid (w.grownBy w2 (some km)) := grow_below (grow_refl w _) HB2.out
 clear hb2 HX1 HM1 HRE1 HB1 HT1 HPS htl p0 p1 p2 p3 p4 p5 p6
 simp only
 by_cases he : ce = 0
 rotate_left
 · have hd : (ce == 0) = false := beq_false_of_ne he
   have hdn : (ce != 0) = true := by unfold bne; rw [hd]; rfl
   have HEND : Hid (r = ((-1, ce), bs)) := by show r = _; rw [HPUT.out, if_pos he]
   clear HPUT he
   go_wp2
   go_ret2
   exact gives_put HEND.out HM2.out HBS.out HG2.out
 have hd : (ce == 0) = true := by rw [he]; rfl
 have hdn : (ce != 0) = false := by rw [he]; rfl
 have hrr : rightE ⟨b0, b1, b2, b3, b4, b5, recs⟩ = 0 := tcheck_right (by rw [HC.out]; exact he)
 have h16 : recs.length ≤ 16 := (ok_of hrr).recs
 have hcb2 : cnt ≤ 16 := by rw [← HCNT.out]; split <;> omega
 have hput3 := HPUT.out
 rw [if_neg (by simp [he])] at hput3
 have HPUT3 := qh hput3
 clear hput3 HPUT hrr he
 by_cases h0 : 0 ≤ ca
 · have hd2 : decide (0 ≤ ca) = true := decide_eq_true h0
   have HEND : Hid (r = ((ca, 0), bs)) := by show r = _; rw [HPUT3.out, if_pos h0]
   clear HPUT3 h0
   go_wp2
   go_ret2
   exact gives_put HEND.out HM2.out HBS.out HG2.out
 have hd2 : decide (0 ≤ ca) = false := decide_eq_false h0
 have hput4 := HPUT3.out
 rw [if_neg h0] at hput4
 have HPUT4 := qh hput4
 clear hput4 HPUT3 h0
 have KS7 : Hid (∀ W, Below w2.heap.size w2 W → (fun (W : World) => W.cell? ⟨X, 0, none⟩ = some (.int .i64 b0) ∧ W.cell? ⟨X, 1, none⟩ = some (.int .i64 b1) ∧ W.cell? ⟨X, 2, none⟩ = some (.int .i64 b2) ∧ W.cell? ⟨X, 3, none⟩ = some (.int .i64 b3) ∧ W.cell? ⟨X, 4, none⟩ = some (.bool b4) ∧ W.cell? ⟨X, 5, none⟩ = some (.int .i64 b5) ∧ W.cell? ⟨X, 6, none⟩ = some (.slice rd recs.length rc) ∧ W.cell? ⟨km, 0, none⟩ = some (.int .i64 mc)) W) := by
  intro W hW
  have hX := HX2.out.on hW
  exact ⟨hX.c0, hX.c1, hX.c2, hX.c3, hX.c4, hX.c5, hX.c6, (HM2.out.box.on hW).c0⟩
 have hdrw : Below w2.heap.size w2 w2.drew := (Below.refl _ w2).drew
 have hwr : IntKind.i64.wrap (x + s) = x + s := IntWalk.i64_in _ (by omega)
 go_upto_region 7 with fail
 refine wp_region_noPanic ?_
 refine wp_region_z [] (fun (W : World) => W.cell? ⟨X, 0, none⟩ = some (.int .i64 b0) ∧ W.cell? ⟨X, 1, none⟩ = some (.int .i64 b1) ∧ W.cell? ⟨X, 2, none⟩ = some (.int .i64 b2) ∧ W.cell? ⟨X, 3, none⟩ = some (.int .i64 b3) ∧ W.cell? ⟨X, 4, none⟩ = some (.bool b4) ∧ W.cell? ⟨X, 5, none⟩ = some (.int .i64 b5) ∧ W.cell? ⟨X, 6, none⟩ = some (.slice rd recs.length rc) ∧ W.cell? ⟨km, 0, none⟩ = some (.int .i64 mc)) (by kernel_rfl) ?_
 have hHeld : (fun (W : World) => W.cell? ⟨X, 0, none⟩ = some (.int .i64 b0) ∧ W.cell? ⟨X, 1, none⟩ = some (.int .i64 b1) ∧ W.cell? ⟨X, 2, none⟩ = some (.int .i64 b2) ∧ W.cell? ⟨X, 3, none⟩ = some (.int .i64 b3) ∧ W.cell? ⟨X, 4, none⟩ = some (.bool b4) ∧ W.cell? ⟨X, 5, none⟩ = some (.int .i64 b5) ∧ W.cell? ⟨X, 6, none⟩ = some (.slice rd recs.length rc) ∧ W.cell? ⟨km, 0, none⟩ = some (.int .i64 mc)) _ := KS7.out _ hdrw
 obtain ⟨u0, hu0⟩ := exq w2.drew
 rw [← hu0] at hHeld hdrw
 rw [← hu0]
 clear hu0
 have HU0 := qh hdrw
 clear hdrw
 refine zt 0 ?_
 refine zt 2 ?_
 refine zt 5 ?_
 refine zt 6 ?_
 refine zt 7 ?_
 refine zt 8 ?_
 refine zr 1 (fun C hC => ?_)
 go_simp
 refine (modSize_any u0 km mc start ad len cap ms (HM2.out.box.on HU0.out) (HM2.out.bats.keep HU0.out) (by omega) (by rw [HBS.out]; exact HOK.out) x (by rw [HBS.out]; exact HX_.out)).mono ?_
 rintro e u1 ⟨rfl, hbb⟩
 have HU1 := qh (HU0.out.trans (hbb.mono HU0.out.size))
 clear hbb
 go_wp2_with fail
 have hHeld : (fun (W : World) => W.cell? ⟨X, 0, none⟩ = some (.int .i64 b0) ∧ W.cell? ⟨X, 1, none⟩ = some (.int .i64 b1) ∧ W.cell? ⟨X, 2, none⟩ = some (.int .i64 b2) ∧ W.cell? ⟨X, 3, none⟩ = some (.int .i64 b3) ∧ W.cell? ⟨X, 4, none⟩ = some (.bool b4) ∧ W.cell? ⟨X, 5, none⟩ = some (.int .i64 b5) ∧ W.cell? ⟨X, 6, none⟩ = some (.slice rd recs.length rc) ∧ W.cell? ⟨km, 0, none⟩ = some (.int .i64 mc)) u1 := KS7.out _ HU1.out
 refine zc hC hHeld ?_
 clear hC C
 have CS := refSize_any u1 ⟨b0, b1, b2, b3, b4, b5, recs⟩ rd recs.length rc (HRE2.out.keep HU1.out) HTX.out hrn hwf
 rw [HS_.out] at CS
 refine zr 3 (fun C hC => ?_)
 go_simp
 refine CS.mono ?_
 rintro e u2 ⟨rfl, hbb⟩
 have HU2 := qh (HU1.out.trans (hbb.mono HU1.out.size))
 clear hbb
 go_wp2_with fail
 have hHeld : (fun (W : World) => W.cell? ⟨X, 0, none⟩ = some (.int .i64 b0) ∧ W.cell? ⟨X, 1, none⟩ = some (.int .i64 b1) ∧ W.cell? ⟨X, 2, none⟩ = some (.int .i64 b2) ∧ W.cell? ⟨X, 3, none⟩ = some (.int .i64 b3) ∧ W.cell? ⟨X, 4, none⟩ = some (.bool b4) ∧ W.cell? ⟨X, 5, none⟩ = some (.int .i64 b5) ∧ W.cell? ⟨X, 6, none⟩ = some (.slice rd recs.length rc) ∧ W.cell? ⟨km, 0, none⟩ = some (.int .i64 mc)) u2 := KS7.out _ HU2.out
 refine zc hC hHeld ?_
 clear hC C
 clear CS
 refine zt 4 ?_
 refine zt 9 ?_
 refine zd ?_
 clear hHeld hwr
 obtain ⟨w3, hw3⟩ := exq u2
 subst hw3
 have HX3 := qh (HX2.out.on HU2.out)
 have HM3 := qh (HM2.out.keep HU2.out)
 have HRE3 := qh (HRE2.out.keep HU2.out)
 have HG3 := qh (grow_below HG2.out HU2.out)
 have HB3 := qh (HB2.out.trans (HU2.out.mono HB2.out.size))
 clear HX2 HM2 HRE2 HG2 HU0 HU1 HU2 HB2 KS7
 by_cases hcap : mc < x + s
 · have hd3 : decide (mc < x + s) = true := decide_eq_true hcap
   rw [hd3]
   have HEND : Hid (r = ((-1, 17), bs)) := by show r = _; rw [HPUT4.out, if_pos hcap]
   clear HPUT4 hcap
   go_wp2
   go_ret2
   exact gives_put HEND.out HM3.out HBS.out HG3.out
 have hd3 : decide (mc < x + s) = false := decide_eq_false hcap
 rw [hd3]
 have hput5 := HPUT4.out
 rw [if_neg hcap] at hput5
 have HPUT5 := qh hput5
 clear hput5 HPUT4 hcap
 have KS9 : Hid (∀ W, Below w3.heap.size w3 W → (fun (W : World) => W.cell? ⟨X, 0, none⟩ = some (.int .i64 b0) ∧ W.cell? ⟨X, 1, none⟩ = some (.int .i64 b1) ∧ W.cell? ⟨X, 2, none⟩ = some (.int .i64 b2) ∧ W.cell? ⟨X, 3, none⟩ = some (.int .i64 b3) ∧ W.cell? ⟨X, 4, none⟩ = some (.bool b4) ∧ W.cell? ⟨X, 5, none⟩ = some (.int .i64 b5) ∧ W.cell? ⟨X, 6, none⟩ = some (.slice rd recs.length rc)) W) := by
  intro W hW
  have hX := HX3.out.on hW
  exact ⟨hX.c0, hX.c1, hX.c2, hX.c3, hX.c4, hX.c5, hX.c6⟩
 have hdrw : Below w3.heap.size w3 w3.drew := (Below.refl _ w3).drew
 have hwr : IntKind.i64.wrap (v + cnt) = v + cnt := IntWalk.i64_in _ (by omega)
 go_upto_region 9 with fail
 refine wp_region_noPanic ?_
 refine wp_region_z [] (fun (W : World) => W.cell? ⟨X, 0, none⟩ = some (.int .i64 b0) ∧ W.cell? ⟨X, 1, none⟩ = some (.int .i64 b1) ∧ W.cell? ⟨X, 2, none⟩ = some (.int .i64 b2) ∧ W.cell? ⟨X, 3, none⟩ = some (.int .i64 b3) ∧ W.cell? ⟨X, 4, none⟩ = some (.bool b4) ∧ W.cell? ⟨X, 5, none⟩ = some (.int .i64 b5) ∧ W.cell? ⟨X, 6, none⟩ = some (.slice rd recs.length rc)) (by kernel_rfl) ?_
 have hHeld : (fun (W : World) => W.cell? ⟨X, 0, none⟩ = some (.int .i64 b0) ∧ W.cell? ⟨X, 1, none⟩ = some (.int .i64 b1) ∧ W.cell? ⟨X, 2, none⟩ = some (.int .i64 b2) ∧ W.cell? ⟨X, 3, none⟩ = some (.int .i64 b3) ∧ W.cell? ⟨X, 4, none⟩ = some (.bool b4) ∧ W.cell? ⟨X, 5, none⟩ = some (.int .i64 b5) ∧ W.cell? ⟨X, 6, none⟩ = some (.slice rd recs.length rc)) _ := KS9.out _ hdrw
 obtain ⟨y0, hy0⟩ := exq w3.drew
 rw [← hy0] at hHeld hdrw
 rw [← hy0]
 clear hy0
 have HY0 := qh hdrw
 clear hdrw
 refine zt 0 ?_
 refine zt 2 ?_
 refine zr 1 (fun C hC => ?_)
 go_simp
 refine (modEnd_any y0 km mc start ad len cap ms (HM3.out.box.on HY0.out) (HM3.out.bats.keep HY0.out) (by omega) (by rw [HBS.out]; exact HOK.out) v (by rw [HBS.out]; exact HV.out)).mono ?_
 rintro e y1 ⟨rfl, hbb⟩
 have HY1 := qh (HY0.out.trans (hbb.mono HY0.out.size))
 clear hbb
 go_wp2_with fail
 have hHeld : (fun (W : World) => W.cell? ⟨X, 0, none⟩ = some (.int .i64 b0) ∧ W.cell? ⟨X, 1, none⟩ = some (.int .i64 b1) ∧ W.cell? ⟨X, 2, none⟩ = some (.int .i64 b2) ∧ W.cell? ⟨X, 3, none⟩ = some (.int .i64 b3) ∧ W.cell? ⟨X, 4, none⟩ = some (.bool b4) ∧ W.cell? ⟨X, 5, none⟩ = some (.int .i64 b5) ∧ W.cell? ⟨X, 6, none⟩ = some (.slice rd recs.length rc)) y1 := KS9.out _ HY1.out
 refine zc hC hHeld ?_
 clear hC C
 refine zr 3 (fun C hC => ?_)
 go_simp
 refine (refCount_any y1 b0 b1 b2 b3 b4 b5 rd recs.length rc cnt HCNT.out).mono ?_
 rintro e y2 ⟨rfl, hbb⟩
 have HY2 := qh (HY1.out.trans (hbb.mono HY1.out.size))
 clear hbb
 go_wp2_with fail
 have hHeld : (fun (W : World) => W.cell? ⟨X, 0, none⟩ = some (.int .i64 b0) ∧ W.cell? ⟨X, 1, none⟩ = some (.int .i64 b1) ∧ W.cell? ⟨X, 2, none⟩ = some (.int .i64 b2) ∧ W.cell? ⟨X, 3, none⟩ = some (.int .i64 b3) ∧ W.cell? ⟨X, 4, none⟩ = some (.bool b4) ∧ W.cell? ⟨X, 5, none⟩ = some (.int .i64 b5) ∧ W.cell? ⟨X, 6, none⟩ = some (.slice rd recs.length rc)) y2 := KS9.out _ HY2.out
 refine zc hC hHeld ?_
 clear hC C
 refine zt 4 ?_
 refine zt 5 ?_
 refine zd ?_
 clear hHeld hwr
 obtain ⟨w4, hw4⟩ := exq y2
 subst hw4
 have HX4 := qh (HX3.out.on HY2.out)
 have HM4 := qh (HM3.out.keep HY2.out)
 have HRE4 := qh (HRE3.out.keep HY2.out)
 have HG4 := qh (grow_below HG3.out HY2.out)
 have HB4 := qh (HB3.out.trans (HY2.out.mono HB3.out.size))
 clear HX3 HM3 HRE3 HG3 HY0 HY1 HY2 HB3 KS9
 by_cases hof : 1099511627776 < v + cnt
 · have hd4 : decide (1099511627776 < v + cnt) = true := decide_eq_true hof
   rw [hd4]
   have HEND : Hid (r = ((-1, 18), bs)) := by show r = _; rw [HPUT5.out, if_pos hof]
   clear HPUT5 hof
   go_wp2
   go_ret2
   exact gives_put HEND.out HM4.out HBS.out HG4.out
 have hd4 : decide (1099511627776 < v + cnt) = false := decide_eq_false hof
 rw [hd4]
 have HEND : Hid (r = ((b0, 0), bs ++ [⟨b0, b1, b2, b3, b4, b5, recs⟩])) := by show r = _; rw [HPUT5.out, if_neg hof]
 clear HPUT5 hof
 have HVE : Hid (OwnRow recK (w4.alloc (.cells #[] 84)) w4.heap.size (.slice (some ⟨w4.heap.size, 0, none⟩) 0 0) []) := ownRow_lit recK_ok w4 _ [] (Nat.le_refl _) (by simp) _ rfl 0 rfl
 have HBE : Hid (Below w4.heap.size w4 (w4.alloc (.cells #[] 84))) := (bal _ _)
 have HRE5 := qh (recsAt_row.1 (HRE4.out.keep HBE.out))
 have p6 := (HX4.out.on HBE.out).c6
 go_wp2_with (at_builtin; refine list_row (by rfl) recK_ok (.tmp 46) (.tmp 48) rfl w4.heap.size [] recs _ rfl HVE.out HBE.out.size rd recs.length rc rfl HRE5.out (by rw [List.length_nil]; omega) ?_)
 intro v5 w5 hap
 obtain ⟨xd, xc, hv5, hxr, hxk⟩ := OwnRow.row recK_ok (l := recs) (n := recs.length) hap.1 rfl
 subst hv5
 have HB5 : Hid (Below w4.heap.size w4 w5) := HBE.out.grown hap.2.1 HBE.out.size fun q hq => (HVE.out.lt q hq).1
 have HX5 := qh (HX4.out.on HB5.out)
 have HM5 := qh (HM4.out.keep HB5.out)
 have HG5 := qh (grow_below HG4.out HB5.out)
 have HXR5 := qh hxr
 have HXK5 : Hid (∀ a, xd = some a → w.heap.size < a.block ∧ a.block < w5.heap.size) := fun a ha => by
  have h1 := hxk a ha
  have h2 := HX4.out.lt
  exact ⟨by omega, h1.2⟩
 clear hap hxr hxk HVE HBE HRE5 p6 HX4 HM4 HRE4 HG4
 have p6 := HX5.out.c6
 have f6 := HX5.out.free 6
 go_upto_region 12 with fail
 obtain ⟨W6, hW6⟩ := exq (w5.setCell ⟨X, 6, none⟩ (.slice xd recs.length xc))
 have HX6 : Hid (BoxAt W6 X b0 b1 b2 b3 b4 b5 (.slice xd recs.length xc)) := by rw [hW6]; exact HX5.out.s6 _
 have HM6 : Hid (MOk N W6 km mc start ad len cap ms) := by
  show MOk _ _ _ _ _ _ _ _ _
  rw [hW6]
  exact HM5.out.grown (grow_one w5 X 6 _) hXk.symm (fun a ha e => by have := HOW.out a ha; omega) (fun m hm a ha e => by have := HOI.out m hm a ha; omega)
 have HG6 : Hid (w.grownBy W6 (some km)) := by show World.grownBy _ _ _; rw [hW6]; exact grow_new HG5.out hXw _
 have HXR6 : Hid (RecsAt W6 xd recs.length xc recs) := by rw [hW6]; exact recsAt_row.2 (HXR5.out.off (fun a ha => by have := (HXK5.out a ha).1; have := HXE.out; omega) _ _)
 have HXK6 : Hid (∀ a, xd = some a → km < a.block ∧ a.block < W6.heap.size) := fun a ha => ⟨by have := (HXK5.out a ha).1; omega, by rw [hW6, size_set]; exact (HXK5.out a ha).2⟩
 have HXN6 : Hid (∀ a, xd = some a → N a.block) := fun a ha => HUP.out _ (Nat.le_of_lt (HXK5.out a ha).1)
 rw [← hW6]
 clear hW6 HX5 HM5 HG5 HXR5 HXK5 p6 f6
 obtain ⟨mx, hmx⟩ : ∃ mx : BM, mx = ⟨⟨b0, b1, b2, b3, b4, b5, recs⟩, xd, xc⟩ := ⟨_, rfl⟩
 have HMX := qh hmx
 clear hmx
 have hml : ms.length = len := HM6.out.bats.row.length
 have hfits := HM6.out.bats.row.fits
 have KS : Hid (∀ W, Below W6.heap.size W6 W → (fun (W : World) => W.cell? ⟨km, 2, none⟩ = some (.slice ad len cap) ∧ W.cell? ⟨X, 0, none⟩ = some (.int .i64 b0) ∧ W.cell? ⟨X, 1, none⟩ = some (.int .i64 b1) ∧ W.cell? ⟨X, 2, none⟩ = some (.int .i64 b2) ∧ W.cell? ⟨X, 3, none⟩ = some (.int .i64 b3) ∧ W.cell? ⟨X, 4, none⟩ = some (.bool b4) ∧ W.cell? ⟨X, 5, none⟩ = some (.int .i64 b5) ∧ W.cell? ⟨X, 6, none⟩ = some (.slice xd recs.length xc)) W) := by
  intro W hW
  have hX := HX6.out.on hW
  exact ⟨(HM6.out.box.on hW).c2, hX.c0, hX.c1, hX.c2, hX.c3, hX.c4, hX.c5, hX.c6⟩
 have hdrw : Below W6.heap.size W6 W6.drew := (Below.refl _ W6).drew
 refine wp_region_noPanic ?_
 refine zk [12] KS ?_
 have hHeld := KS.out _ hdrw
 obtain ⟨u0, hu0⟩ := exq W6.drew
 rw [← hu0] at hHeld hdrw
 rw [← hu0]
 clear hu0
 have HBu0 := qh hdrw
 clear hdrw
 refine zt 0 ?_
 refine zt 2 ?_
 refine zt 3 ?_
 refine zt 4 ?_
 refine zt 5 ?_
 refine zt 7 ?_
 refine wpAnyZ_ready (rs := [1, 8]) (by kernel_rfl) (by simp) ?_
 refine AllReadyZ.cons (o := ⟨_, _, _, _, _, _⟩) rfl (fun C hC => ?_) (AllReadyZ.cons (o := ⟨_, _, _, _, _, _⟩) rfl (fun C hC => ?_) AllReadyZ.nil)
 · skip
   go_simp
   obtain ⟨u1, hu1⟩ := exq (u0.alloc (.cells #[] 29))
   have hbb := wbq hu1
   have HBu1 := qh (HBu0.out.trans (hbb.mono HBu0.out.size))
   obtain ⟨gu1, hgu1⟩ := exq u0.heap.size
   have HOu1 : Hid (OwnRow batK u1 W6.heap.size (.slice (some ⟨gu1, 0, none⟩) 0 0) []) := by rw [hu1, hgu1]; exact ownRow_lit batK_ok u0 _ [] HBu0.out.size (by simp) _ rfl 0 rfl
   rw [← hu1, ← hgu1]
   clear hu1 hgu1 hbb
   have hHeld := KS.out _ HBu1.out
   refine zc hC hHeld ?_
   clear hC C
   refine wpAnyZ_ready (rs := [6, 8]) (by kernel_rfl) (by simp) ?_
   refine AllReadyZ.cons (o := ⟨_, _, _, _, _, _⟩) rfl (fun C hC => ?_) (AllReadyZ.cons (o := ⟨_, _, _, _, _, _⟩) rfl (fun C hC => ?_) AllReadyZ.nil)
   · skip
     refine held_row (by rfl) batK_ok (.tmp 52) (.tmp 56) rfl W6.heap.size [] ms _ rfl HOu1.out HBu1.out.size ad len cap rfl (HM6.out.bats.row.keep HBu1.out) (by rw [List.length_nil]; omega) ?_
     rintro vu2 u2 hap
     have HBu2 : Hid (Below W6.heap.size W6 u2) := HBu1.out.grown hap.2.1 HBu1.out.size fun q hq => (HOu1.out.lt q hq).1
     have HOu2 : Hid (OwnRow batK u2 W6.heap.size vu2 ms) := hap.1
     clear hap
     have hHeld := KS.out _ HBu2.out
     refine zc hC hHeld ?_
     clear hC C
     refine zr 8 (fun C hC => ?_)
     go_simp
     obtain ⟨u3, hu3⟩ := exq (u2.alloc (.cells #[.int .i64 b0, .int .i64 b1, .int .i64 b2, .int .i64 b3, .bool b4, .int .i64 b5, .slice xd recs.length xc] 29))
     have hbb := wbq hu3
     have HBu3 := qh (HBu2.out.trans (hbb.mono HBu2.out.size))
     obtain ⟨gx, hgx⟩ := exq u2.heap.size
     have HXu3 : Hid (RowAt batK u3 (some ⟨gx, 0, none⟩) 1 1 [mx]) := by rw [hu3, hgx, HMX.out]; exact rowAt_lit batK_ok u2 [⟨⟨b0, b1, b2, b3, b4, b5, recs⟩, xd, xc⟩] (by simp) _ rfl 1 rfl
     have HOu3 := qh (HOu2.out.on hbb)
     have HNEu3 : ∀ a, (some (⟨gx, 0, none⟩ : Addr)) = some a → some a.block ≠ (vu2 : Value).ownBlock := by
      intro a ha e
      cases ha
      have h1 : gx < u2.heap.size := (HOu2.out.lt _ e.symm).2
      omega
     rw [← hu3, ← hgx]
     clear hu3 hgx hbb
     have hHeld := KS.out _ HBu3.out
     refine zc hC hHeld ?_
     clear hC C
     refine zr 9 (fun C hC => ?_)
     refine held_row (by rfl) batK_ok (.tmp 57) (.tmp 59) rfl W6.heap.size ms [mx] _ rfl HOu3.out HBu3.out.size (some ⟨gx, 0, none⟩) 1 1 rfl HXu3.out (by omega) ?_
     rintro vu4 u4 hap
     have HBu4 : Hid (Below W6.heap.size W6 u4) := HBu3.out.grown hap.2.1 HBu3.out.size fun q hq => (HOu3.out.lt q hq).1
     have HOu4 : Hid (OwnRow batK u4 W6.heap.size vu4 (ms ++ [mx])) := hap.1
     clear hap
     have hHeld := KS.out _ HBu4.out
     refine zc hC hHeld ?_
     clear hC C
     refine zt 10 ?_
     refine zt 11 ?_
     obtain ⟨g, capz, cur, hvz, hblk, hbg, hcs⟩ := OwnRow.block (n := len + 1) HOu4.out (by rw [List.length_append]; simp; omega) (by omega)
     subst hvz
     have t0 := (HM6.out.box.on HBu4.out).c2
     have t1 := (HM6.out.box.on HBu4.out).free 2
     refine zr 12 (fun C hC => ?_)
     go_simp
     refine zl hC ?_
     clear hC C
     refine zd ?_
     obtain ⟨wz, hwz⟩ := exq (u4.setCell ⟨km, 2, none⟩ (.slice (some ⟨g, 0, none⟩) (len + 1) capz))
     have hkm6 := HM6.out.box.lt
     have HGz : Hid (W6.grownBy wz (some km)) := by show World.grownBy _ _ _; rw [hwz]; exact grow_set (grow_below (grow_refl W6 _) HBu4.out) 2 _
     have HOz : Hid (OwnRow batK wz W6.heap.size (.slice (some ⟨g, 0, none⟩) (len + 1) capz) (ms ++ [mx])) := by rw [hwz]; exact HOu4.out.off hkm6 _ _
     have HTBz : Hid (MBox wz km mc start (.slice (some ⟨g, 0, none⟩) (len + 1) capz)) := by rw [hwz]; exact (HM6.out.box.on HBu4.out).s2 _
     have p0 := (HX6.out.grown2 HGz.out hXk).c0
     try rw [← hwz]
     clear hwz t0 t1 hHeld
     go_wp2
     go_ret2
     obtain ⟨ad9, cap9, hv9, hr9, hk9⟩ := OwnRow.row batK_ok HOz.out (n := len + 1) (by rw [List.length_append]; simp; omega)
     cases hv9
     exact gives_put HEND.out (put_ok HM6.out HGz.out HTBz.out hr9 hk9 (by rw [HMX.out]; exact HXR6.out) (by rw [HMX.out]; exact HXK6.out) (by rw [HMX.out]; exact HXN6.out)) (by unfold bats; rw [List.map_append]; show bats ms ++ [mx.b] = _; rw [HBS.out, HMX.out]) (grow_trans HG6.out HGz.out)
   skip
   go_simp
   obtain ⟨u5, hu5⟩ := exq (u1.alloc (.cells #[.int .i64 b0, .int .i64 b1, .int .i64 b2, .int .i64 b3, .bool b4, .int .i64 b5, .slice xd recs.length xc] 29))
   have hbb := wbq hu5
   have HBu5 := qh (HBu1.out.trans (hbb.mono HBu1.out.size))
   obtain ⟨gx, hgx⟩ := exq u1.heap.size
   have HXu5 : Hid (RowAt batK u5 (some ⟨gx, 0, none⟩) 1 1 [mx]) := by rw [hu5, hgx, HMX.out]; exact rowAt_lit batK_ok u1 [⟨⟨b0, b1, b2, b3, b4, b5, recs⟩, xd, xc⟩] (by simp) _ rfl 1 rfl
   have HOu5 := qh (HOu1.out.on hbb)
   have HNEu5 : ∀ a, (some (⟨gx, 0, none⟩ : Addr)) = some a → some a.block ≠ (.slice (some ⟨gu1, 0, none⟩) 0 0 : Value).ownBlock := by
    intro a ha e
    cases ha
    have h1 : gx < u1.heap.size := (HOu1.out.lt _ e.symm).2
    omega
   rw [← hu5, ← hgx]
   clear hu5 hgx hbb
   have hHeld := KS.out _ HBu5.out
   refine zc hC hHeld ?_
   clear hC C
   refine zr 6 (fun C hC => ?_)
   refine held_row (by rfl) batK_ok (.tmp 52) (.tmp 56) rfl W6.heap.size [] ms _ rfl HOu5.out HBu5.out.size ad len cap rfl (HM6.out.bats.row.keep HBu5.out) (by rw [List.length_nil]; omega) ?_
   rintro vu6 u6 hap
   have HBu6 : Hid (Below W6.heap.size W6 u6) := HBu5.out.grown hap.2.1 HBu5.out.size fun q hq => (HOu5.out.lt q hq).1
   have HOu6 : Hid (OwnRow batK u6 W6.heap.size vu6 ms) := hap.1
   have HXu6 := qh (HXu5.out.grown hap.2.1 HNEu5)
   clear hap
   have hHeld := KS.out _ HBu6.out
   refine zc hC hHeld ?_
   clear hC C
   refine zr 9 (fun C hC => ?_)
   refine held_row (by rfl) batK_ok (.tmp 57) (.tmp 59) rfl W6.heap.size ms [mx] _ rfl HOu6.out HBu6.out.size (some ⟨gx, 0, none⟩) 1 1 rfl HXu6.out (by omega) ?_
   rintro vu7 u7 hap
   have HBu7 : Hid (Below W6.heap.size W6 u7) := HBu6.out.grown hap.2.1 HBu6.out.size fun q hq => (HOu6.out.lt q hq).1
   have HOu7 : Hid (OwnRow batK u7 W6.heap.size vu7 (ms ++ [mx])) := hap.1
   clear hap
   have hHeld := KS.out _ HBu7.out
   refine zc hC hHeld ?_
   clear hC C
   refine zt 10 ?_
   refine zt 11 ?_
   obtain ⟨g, capz, cur, hvz, hblk, hbg, hcs⟩ := OwnRow.block (n := len + 1) HOu7.out (by rw [List.length_append]; simp; omega) (by omega)
   subst hvz
   have t0 := (HM6.out.box.on HBu7.out).c2
   have t1 := (HM6.out.box.on HBu7.out).free 2
   refine zr 12 (fun C hC => ?_)
   go_simp
   refine zl hC ?_
   clear hC C
   refine zd ?_
   obtain ⟨wz, hwz⟩ := exq (u7.setCell ⟨km, 2, none⟩ (.slice (some ⟨g, 0, none⟩) (len + 1) capz))
   have hkm6 := HM6.out.box.lt
   have HGz : Hid (W6.grownBy wz (some km)) := by show World.grownBy _ _ _; rw [hwz]; exact grow_set (grow_below (grow_refl W6 _) HBu7.out) 2 _
   have HOz : Hid (OwnRow batK wz W6.heap.size (.slice (some ⟨g, 0, none⟩) (len + 1) capz) (ms ++ [mx])) := by rw [hwz]; exact HOu7.out.off hkm6 _ _
   have HTBz : Hid (MBox wz km mc start (.slice (some ⟨g, 0, none⟩) (len + 1) capz)) := by rw [hwz]; exact (HM6.out.box.on HBu7.out).s2 _
   have p0 := (HX6.out.grown2 HGz.out hXk).c0
   try rw [← hwz]
   clear hwz t0 t1 hHeld
   go_wp2
   go_ret2
   obtain ⟨ad9, cap9, hv9, hr9, hk9⟩ := OwnRow.row batK_ok HOz.out (n := len + 1) (by rw [List.length_append]; simp; omega)
   cases hv9
   exact gives_put HEND.out (put_ok HM6.out HGz.out HTBz.out hr9 hk9 (by rw [HMX.out]; exact HXR6.out) (by rw [HMX.out]; exact HXK6.out) (by rw [HMX.out]; exact HXN6.out)) (by unfold bats; rw [List.map_append]; show bats ms ++ [mx.b] = _; rw [HBS.out, HMX.out]) (grow_trans HG6.out HGz.out)
 skip
 go_simp
 obtain ⟨u8, hu8⟩ := exq (u0.alloc (.cells #[.int .i64 b0, .int .i64 b1, .int .i64 b2, .int .i64 b3, .bool b4, .int .i64 b5, .slice xd recs.length xc] 29))
 have hbb := wbq hu8
 have HBu8 := qh (HBu0.out.trans (hbb.mono HBu0.out.size))
 obtain ⟨gx, hgx⟩ := exq u0.heap.size
 have HXu8 : Hid (RowAt batK u8 (some ⟨gx, 0, none⟩) 1 1 [mx]) := by rw [hu8, hgx, HMX.out]; exact rowAt_lit batK_ok u0 [⟨⟨b0, b1, b2, b3, b4, b5, recs⟩, xd, xc⟩] (by simp) _ rfl 1 rfl
 rw [← hu8, ← hgx]
 clear hu8 hgx hbb
 have hHeld := KS.out _ HBu8.out
 refine zc hC hHeld ?_
 clear hC C
 refine zr 1 (fun C hC => ?_)
 go_simp
 obtain ⟨u9, hu9⟩ := exq (u8.alloc (.cells #[] 29))
 have hbb := wbq hu9
 have HBu9 := qh (HBu8.out.trans (hbb.mono HBu8.out.size))
 obtain ⟨gu9, hgu9⟩ := exq u8.heap.size
 have HOu9 : Hid (OwnRow batK u9 W6.heap.size (.slice (some ⟨gu9, 0, none⟩) 0 0) []) := by rw [hu9, hgu9]; exact ownRow_lit batK_ok u8 _ [] HBu8.out.size (by simp) _ rfl 0 rfl
 have HXu9 := qh (HXu8.out.keep hbb)
 have HNEu9 : ∀ a, (some (⟨gx, 0, none⟩ : Addr)) = some a → some a.block ≠ (Value.slice (some ⟨gu9, 0, none⟩) 0 0).ownBlock := by
  intro a ha e
  cases ha
  have h1 := HXu8.out.lt (by omega) _ rfl
  simp [Value.ownBlock] at e
  simp at h1
  omega
 rw [← hu9, ← hgu9]
 clear hu9 hgu9 hbb
 have hHeld := KS.out _ HBu9.out
 refine zc hC hHeld ?_
 clear hC C
 refine zr 6 (fun C hC => ?_)
 refine held_row (by rfl) batK_ok (.tmp 52) (.tmp 56) rfl W6.heap.size [] ms _ rfl HOu9.out HBu9.out.size ad len cap rfl (HM6.out.bats.row.keep HBu9.out) (by rw [List.length_nil]; omega) ?_
 rintro vu10 u10 hap
 have HBu10 : Hid (Below W6.heap.size W6 u10) := HBu9.out.grown hap.2.1 HBu9.out.size fun q hq => (HOu9.out.lt q hq).1
 have HOu10 : Hid (OwnRow batK u10 W6.heap.size vu10 ms) := hap.1
 have HXu10 := qh (HXu9.out.grown hap.2.1 HNEu9)
 clear hap
 have hHeld := KS.out _ HBu10.out
 refine zc hC hHeld ?_
 clear hC C
 refine zr 9 (fun C hC => ?_)
 refine held_row (by rfl) batK_ok (.tmp 57) (.tmp 59) rfl W6.heap.size ms [mx] _ rfl HOu10.out HBu10.out.size (some ⟨gx, 0, none⟩) 1 1 rfl HXu10.out (by omega) ?_
 rintro vu11 u11 hap
 have HBu11 : Hid (Below W6.heap.size W6 u11) := HBu10.out.grown hap.2.1 HBu10.out.size fun q hq => (HOu10.out.lt q hq).1
 have HOu11 : Hid (OwnRow batK u11 W6.heap.size vu11 (ms ++ [mx])) := hap.1
 clear hap
 have hHeld := KS.out _ HBu11.out
 refine zc hC hHeld ?_
 clear hC C
 refine zt 10 ?_
 refine zt 11 ?_
 obtain ⟨g, capz, cur, hvz, hblk, hbg, hcs⟩ := OwnRow.block (n := len + 1) HOu11.out (by rw [List.length_append]; simp; omega) (by omega)
 subst hvz
 have t0 := (HM6.out.box.on HBu11.out).c2
 have t1 := (HM6.out.box.on HBu11.out).free 2
 refine zr 12 (fun C hC => ?_)
 go_simp
 refine zl hC ?_
 clear hC C
 refine zd ?_
 obtain ⟨wz, hwz⟩ := exq (u11.setCell ⟨km, 2, none⟩ (.slice (some ⟨g, 0, none⟩) (len + 1) capz))
 have hkm6 := HM6.out.box.lt
 have HGz : Hid (W6.grownBy wz (some km)) := by show World.grownBy _ _ _; rw [hwz]; exact grow_set (grow_below (grow_refl W6 _) HBu11.out) 2 _
 have HOz : Hid (OwnRow batK wz W6.heap.size (.slice (some ⟨g, 0, none⟩) (len + 1) capz) (ms ++ [mx])) := by rw [hwz]; exact HOu11.out.off hkm6 _ _
 have HTBz : Hid (MBox wz km mc start (.slice (some ⟨g, 0, none⟩) (len + 1) capz)) := by rw [hwz]; exact (HM6.out.box.on HBu11.out).s2 _
 have p0 := (HX6.out.grown2 HGz.out hXk).c0
 try rw [← hwz]
 clear hwz t0 t1 hHeld
 go_wp2
 go_ret2
 obtain ⟨ad9, cap9, hv9, hr9, hk9⟩ := OwnRow.row batK_ok HOz.out (n := len + 1) (by rw [List.length_append]; simp; omega)
 cases hv9
 exact gives_put HEND.out (put_ok HM6.out HGz.out HTBz.out hr9 hk9 (by rw [HMX.out]; exact HXR6.out) (by rw [HMX.out]; exact HXK6.out) (by rw [HMX.out]; exact HXN6.out)) (by unfold bats; rw [List.map_append]; show bats ms ++ [mx.b] = _; rw [HBS.out, HMX.out]) (grow_trans HG6.out HGz.out)
theorem gives_put_below {N : Nat → Prop} {w w1 w2 : World} {km : Nat} {mc start : Int} {r : (Int × Int) × List Bat} {e : Ending} (hb : Below w.heap.size w w1) (h : GivesPut N w1 km mc start r e w2) : GivesPut N w km mc start r e w2 := by
 obtain ⟨ad, len, cap, ms, he, hm, hbs, hg⟩ := h
 exact ⟨ad, len, cap, ms, he, hm, hbs, grow_trans (grow_below (grow_refl w _) hb) hg⟩
theorem produce_any {N : Nat → Prop} (w : World) (km : Nat) (mc start : Int) (ad : Option Addr) (len cap : Nat) (ms : List BM) (h : MOk N w km mc start ad len cap ms) (hL : len ≤ 99999) (hok : RowOk (bats ms)) (hend : 0 ≤ endD start (bats ms) ∧ endD start (bats ms) ≤ 1099511627792) (b0 b1 b2 b3 : Int) (b4 : Bool) (b5 : Int) (recs : List Rc) (rd : Option Addr) (rc : Nat) (hr : RecsAt w rd recs.length rc recs) (ht : TextsOk recs) (hrn : recs.length ≤ 140737488355328) (hwf : b1 ≤ 9223372036854775807) (r : (Int × Int) × List Bat) (hput : produceD mc start (bats ms) ⟨b0, b1, b2, b3, b4, b5, recs⟩ = r) :
 Calls Tryz.prog 18 #[.pointer (some ⟨km, 0, none⟩), .agg #[.int .i64 b0, .int .i64 b1, .int .i64 b2, .int .i64 b3, .bool b4, .int .i64 b5, .slice rd recs.length rc]] w (GivesPut N w km mc start r) := by
 have hkm := h.box.lt
 have HOW : Hid (∀ a, ad = some a → a.block < w.heap.size) := fun a ha => (h.row a ha).2
 have HOI : Hid (∀ m ∈ ms, ∀ a, m.ad = some a → a.block < w.heap.size) := fun m hm a ha => (h.ins m hm a ha).2
 obtain ⟨W0, hW0⟩ := exq (w.alloc (.cells #[.int .i64 b0, .int .i64 b1, .int .i64 b2, .int .i64 b3, .bool b4, .int .i64 b5, .slice rd recs.length rc] 29))
 have HB0 := hwq hW0
 have HX0 := bx0 hW0
 have HM0 := qh (h.keep HB0.out)
 have HR := qh hr
 have HOK := qh hok
 have HTX := qh ht
 have HEND := qh hend
 have HW0 := qh hW0
 clear h hr hok hW0 ht hend
 obtain ⟨v, hv⟩ : ∃ v, endD start (bats ms) = v := ⟨_, rfl⟩
 obtain ⟨q, hq⟩ : ∃ q, rightE ⟨v, b1, b2, b3, b4, b5, recs⟩ = q := ⟨_, rfl⟩
 have hput2 : r = if q ≠ 0 then ((-1, q), bats ms) else if b5 ≠ 0 then ((-1, 16), bats ms) else putD mc start (bats ms) ⟨v, b1, b2, b3, b4, b5, recs⟩ := by
  rw [← hput]
  unfold produceD
  rw [hv]
  unfold Bat.at
  simp only
  rw [hq]
 have HPUT := qh hput2
 have HV := qh hv
 have HQ := qh hq
 clear hput hput2 hv hq
 obtain ⟨X, hX⟩ := exq w.heap.size
 have hXw : w.heap.size ≤ X := by omega
 have hXk : km ≠ X := by omega
 have HXE := qh hX
 rw [← hX] at HX0
 go_enter Tryz.func18, Tryz.ntmps18
 go_upto_region 1 with fail
 rw [← HW0.out, ← hX]
 clear HW0 hX
 go_wp2_with fail
 refine (modEnd_any W0 km mc start ad len cap ms HM0.out.box HM0.out.bats (by omega) HOK.out v HV.out).mono ?_
 rintro e w1 ⟨rfl, hb1⟩
 have HX1 := qh (HX0.out.on hb1)
 have HM1 := qh (HM0.out.keep hb1)
 have HB1 := qh (HB0.out.trans (hb1.mono HB0.out.size))
 clear hb1 HX0 HM0 HB0
 have p0 := HX1.out.c0
 have f0 := HX1.out.free 0
 go_upto_region 2 with fail
 obtain ⟨w2, hw2⟩ := exq (w1.setCell ⟨X, 0, none⟩ (.int .i64 v))
 have HX2 : Hid (BoxAt w2 X v b1 b2 b3 b4 b5 (.slice rd recs.length rc)) := by rw [hw2]; exact HX1.out.s0 v
 have HM2 : Hid (MOk N w2 km mc start ad len cap ms) := by
  show MOk _ _ _ _ _ _ _ _ _
  rw [hw2]
  exact HM1.out.grown (grow_one w1 X 0 _) hXk.symm (fun a ha e => by have := HOW.out a ha; omega) (fun m hm a ha e => by have := HOI.out m hm a ha; omega)
 have HB2 : Hid (Below w.heap.size w w2) := by rw [hw2]; exact HB1.out.setCell (by have := HXE.out; show w.heap.size ≤ X; omega) _
 have HRE2 := qh (HR.out.keep HB2.out)
 rw [← hw2]
 clear hw2 HX1 HM1 HB1 p0 f0
 obtain ⟨p0, p1, p2, p3, p4, p5, p6⟩ := HX2.out.cs
 go_wp2_with fail
 have CR := refRight_any w2 ⟨v, b1, b2, b3, b4, b5, recs⟩ rd recs.length rc HRE2.out HTX.out hrn hwf
 rw [HQ.out] at CR
 refine CR.mono ?_
 clear CR
 rintro e w3 ⟨rfl, hb3⟩
 have HX3 := qh (HX2.out.on hb3)
 have HM3 := qh (HM2.out.keep hb3)
 have HRE3 := qh (HRE2.out.keep hb3)
 have HB3 := qh (HB2.out.trans (hb3.mono HB2.out.size))
 have HG3 : Hid (w.grownBy w3 (some km)) := grow_below (grow_refl w _) HB3.out
 clear hb3 HX2 HM2 HRE2 HB2 p0 p1 p2 p3 p4 p5 p6
 by_cases hz : q = 0
 rotate_left
 · have hd : (q == 0) = false := beq_false_of_ne hz
   have hdn : (q != 0) = true := by unfold bne; rw [hd]; rfl
   have HE : Hid (r = ((-1, q), bats ms)) := by show r = _; rw [HPUT.out, if_pos hz]
   clear HPUT hz
   go_wp2
   go_ret2
   exact gives_put HE.out HM3.out rfl HG3.out
 have hd : (q == 0) = true := by rw [hz]; rfl
 have hdn : (q != 0) = false := by rw [hz]; rfl
 by_cases hm : b5 = 0
 rotate_left
 · have hd5 : (b5 == 0) = false := beq_false_of_ne hm
   have HE : Hid (r = ((-1, 16), bats ms)) := by show r = _; rw [HPUT.out, if_neg (by simp [hz]), if_pos hm]
   have p5 := HX3.out.c5
   clear HPUT hz hm
   go_wp2
   go_ret2
   exact gives_put HE.out HM3.out rfl HG3.out
 have hd5 : (b5 == 0) = true := by rw [hm]; rfl
 have HPD : Hid (putD mc start (bats ms) ⟨v, b1, b2, b3, b4, b5, recs⟩ = r) := by show _ = _; rw [HPUT.out, if_neg (by simp [hz]), if_neg (by simp [hm])]
 clear HPUT hz hm
 obtain ⟨p0, p1, p2, p3, p4, p5, p6⟩ := HX3.out.cs
 go_wp2_with fail
 refine (modPut_any w3 km mc start ad len cap ms HM3.out hL HOK.out HEND.out v b1 b2 b3 b4 b5 recs rd rc HRE3.out HTX.out hrn hwf r HPD.out).mono ?_
 intro e w4 hg
 have hg := gives_put_below HB3.out hg
 obtain ⟨ad', len', cap', ms', rfl, h2, h3, h4⟩ := hg
 have H2 := qh h2
 have H3 := qh h3
 have H4 := qh h4
 obtain ⟨⟨x, y⟩, rb⟩ := r
 clear h2 h3 h4 hg HPD
 simp only
 go_wp2
 go_ret2
 exact ⟨ad', len', cap', ms', rfl, H2.out, H3.out, H4.out⟩
theorem mark_any {N : Nat → Prop} (w : World) (km : Nat) (mc start : Int) (ad : Option Addr) (len cap : Nat) (ms : List BM) (h : MOk N w km mc start ad len cap ms) (hL : len ≤ 99999) (hok : RowOk (bats ms)) (hend : 0 ≤ endD start (bats ms) ∧ endD start (bats ms) ≤ 1099511627792) (p ep m : Int) (hp : p ≤ 9223372036854775807) (r : (Int × Int) × List Bat) (hput : markD mc start (bats ms) p ep m = r) :
 Calls Tryz.prog 16 #[.pointer (some ⟨km, 0, none⟩), .int .i64 p, .int .i64 ep, .int .i64 m] w (GivesPut N w km mc start r) := by
 have HM := qh h
 have HOK := qh hok
 have HEND := qh hend
 obtain ⟨v, hv⟩ : ∃ v, endD start (bats ms) = v := ⟨_, rfl⟩
 have hput2 : r = if m = 0 then ((-1, 12), bats ms) else putD mc start (bats ms) ⟨v, p, ep, -1, true, m, []⟩ := by
  rw [← hput]
  unfold markD
  rw [hv]
 have HPUT := qh hput2
 have HV := qh hv
 clear h hok hend hput hput2 hv
 by_cases hm : m = 0
 · have hd : (m == 0) = true := by rw [hm]; rfl
   have HE : Hid (r = ((-1, 12), bats ms)) := by show r = _; rw [HPUT.out, if_pos hm]
   clear HPUT hm
   go_enter Tryz.func16, Tryz.ntmps16
   go_wp2
   go_ret2
   exact gives_put HE.out HM.out rfl (grow_refl w _)
 have hd : (m == 0) = false := beq_false_of_ne hm
 have HPD : Hid (putD mc start (bats ms) ⟨v, p, ep, -1, true, m, []⟩ = r) := by show _ = _; rw [HPUT.out, if_neg hm]
 clear HPUT hm
 go_enter Tryz.func16, Tryz.ntmps16
 go_wp2_with fail
 refine (modEnd_any w km mc start ad len cap ms HM.out.box HM.out.bats (by omega) HOK.out v HV.out).mono ?_
 rintro e w1 ⟨rfl, hb1⟩
 have HM1 := qh (HM.out.keep hb1)
 have HB1 := qh hb1
 clear hb1
 go_wp2_with fail
 refine (modPut_any w1 km mc start ad len cap ms HM1.out hL HOK.out HEND.out v p ep (-1) true m [] none 0 (recsAt_nil _) (fun r hr => by cases hr) (by decide) hp r HPD.out).mono ?_
 intro e w4 hg
 have hg := gives_put_below HB1.out hg
 obtain ⟨ad', len', cap', ms', rfl, h2, h3, h4⟩ := hg
 have H2 := qh h2
 have H3 := qh h3
 have H4 := qh h4
 obtain ⟨⟨x, y⟩, rb⟩ := r
 clear h2 h3 h4 hg HPD
 simp only
 go_wp2
 go_ret2
 exact ⟨ad', len', cap', ms', rfl, H2.out, H3.out, H4.out⟩
def GivesPds (w : World) (l : List Pd) (e : Ending) (w' : World) : Prop :=
 ∃ ad len cap ps, e = .returned (.slice ad len cap) ∧ PdsAt w' ad len cap ps ∧ pds ps = l ∧ (∀ a, ad = some a → w.heap.size ≤ a.block) ∧ (∀ m ∈ ps, ∀ a, m.ad = some a → w.heap.size ≤ a.block) ∧ Below w.heap.size w w'
theorem producers_any {N : Nat → Prop} (w : World) (km : Nat) (mc start : Int) (ad : Option Addr) (len cap : Nat) (ms : List BM) (h : MOk N w km mc start ad len cap ms) (hL : len ≤ 99999) (hok : RowOk (bats ms)) :
 Calls Tryz.prog 41 #[.pointer (some ⟨km, 0, none⟩)] w (GivesPds w (foldP [] (bats ms))) := by
 have HM := qh h
 have HBO := qh (batsOk_of hok)
 have m2 := h.box.c2
 clear h hok
 go_enter Tryz.func41, Tryz.ntmps41
 go_wp2_with fail
 refine (fold_any w ad len cap ms HM.out.bats (by omega) HBO.out).mono ?_
 rintro e w1 ⟨kt, tad, tlen, tcap, ps, dd, dn, dc, rfl, htab, hps, _, hkt, hb1⟩
 have HKT := qh hkt
 have t0 := htab.tab.box.c0
 have HT := qh htab
 have HPS := qh hps
 have HB := qh hb1
 clear htab hps hb1 m2 hkt
 go_wp2
 go_ret
 exact ⟨tad, tlen, tcap, ps, rfl, HT.out.tab.pds, HPS.out, (fun a ha => by have := (HT.out.row a ha).1; have := HKT.out; omega), (fun m hm a ha => by have := (HT.out.ins m hm a ha).1; have := HKT.out; omega), HB.out⟩
end Go.Proofs.YtjmfdildnojknaaGreat
namespace Go.Proofs.YtjmfdildnojknaaGreat
open Go.RowKit
open Go.ProdMath
open Go.BatMath hiding AllB getD_lt take_all In64
noncomputable def rawD (cap start : Int) (bs : List Bat) (x : List Nat) : (Int × Int) × List Bat :=
 if (readD x).e ≠ 0 then ((-1, (readD x).e), bs) else if (readD x).n ≠ x.length then ((-1, 12), bs) else produceD cap start bs (readD x).b
theorem raw_any {N : Nat → Prop} (w : World) (km : Nat) (mc start : Int) (ad : Option Addr) (len cap : Nat) (ms : List BM) (h : MOk N w km mc start ad len cap ms) (hL : len ≤ 99999) (hok : RowOk (bats ms)) (hend : 0 ≤ endD start (bats ms) ∧ endD start (bats ms) ≤ 1099511627792) (pad : Option Addr) (plen pcap : Nat) (x : List Nat) (hx : Byt w pad plen pcap x) (hpl : plen ≤ 140737488355328) :
 Calls Tryz.prog 65 #[.pointer (some ⟨km, 0, none⟩), .slice pad plen pcap] w (GivesPut N w km mc start (rawD mc start (bats ms) x)) := by
 have H := qh h
 have HOK := qh hok
 have HEND := qh hend
 have HX := qh hx
 have HXL := qh hx.length
 have hrd := reads_readD hx.all
 obtain ⟨⟨⟨b0, b1, b2, b3, b4, b5, recs⟩, n, ev⟩, ho⟩ : ∃ o, readD x = o := ⟨_, rfl⟩
 rw [ho] at hrd
 have HRD := qh hrd
 have HRAW : Hid (rawD mc start (bats ms) x = if ev ≠ 0 then ((-1, ev), bats ms) else if n ≠ plen then ((-1, 12), bats ms) else produceD mc start (bats ms) ⟨b0, b1, b2, b3, b4, b5, recs⟩) := by
  show rawD _ _ _ _ = _
  unfold rawD
  rw [ho, HXL.out]
 have HO := qh ho
 clear h hok hend hx hrd ho
 go_enter Tryz.func65, Tryz.ntmps65
 go_wp2_with fail
 refine (refRead_any w pad plen pcap x HX.out hpl).mono ?_
 rintro e w1 ⟨rd, rc, rfl, hrec, hnew, hb⟩
 rw [HO.out] at hrec ⊢
 simp only at hrec ⊢
 have HREC := qh hrec
 have HB1 := qh hb
 clear hrec hnew hb
 go_upto_region 2 with fail
 obtain ⟨W1, hW1⟩ := exq (w1.alloc (.cells #[.int .i64 b0, .int .i64 b1, .int .i64 b2, .int .i64 b3, .bool b4, .int .i64 b5, .slice rd recs.length rc] 29))
 obtain ⟨P, hP⟩ := exq w1.heap.size
 have hb1 := wbq hW1
 have HX1 := bxq hW1 hP
 have HREC1 := qh (HREC.out.keep hb1)
 have HBT : Hid (Below w.heap.size w W1) := HB1.out.trans (hb1.mono HB1.out.size)
 have H1 := qh (H.out.keep HBT.out)
 rw [← hW1, ← hP]
 clear hW1 hP hb1 HREC HB1
 by_cases h0 : ev = 0
 rotate_left
 · have hz : (ev != 0) = true := by simpa using h0
   have HFIN : Hid (rawD mc start (bats ms) x = ((-1, ev), bats ms)) := by
    show _ = _
    rw [HRAW.out, if_pos h0]
   clear h0 HRAW
   go_wp2_with fail
   go_ret2
   exact gives_put HFIN.out H1.out rfl (grow_below (grow_refl w _) HBT.out)
 have hz : (ev != 0) = false := by rw [h0]; rfl
 obtain ⟨hg, hn⟩ := HRD.out.fine h0
 have HG : Hid (BatMath.Good x ⟨b0, b1, b2, b3, b4, b5, recs⟩) := hg
 have h00 := h0
 by_cases hnl : n = plen
 rotate_left
 · have hne : ((n : Int) != (plen : Int)) = true := by simp; omega
   have HFIN : Hid (rawD mc start (bats ms) x = ((-1, 12), bats ms)) := by
    show _ = _
    rw [HRAW.out, if_neg (by simp [h0]), if_pos hnl]
   clear h0 h00 hn hg hnl HRAW
   go_wp2_with fail
   go_ret2
   exact gives_put HFIN.out H1.out rfl (grow_below (grow_refl w _) HBT.out)
 have hne : ((n : Int) != (plen : Int)) = false := by rw [hnl]; simp
 have HFIN : Hid (rawD mc start (bats ms) x = produceD mc start (bats ms) ⟨b0, b1, b2, b3, b4, b5, recs⟩) := by
  show _ = _
  rw [HRAW.out, if_neg (by simp [h0]), if_neg (by simp [hnl])]
 have hok2 := ok_of HG.out.right
 have HTX : Hid (TextsOk recs) := texts_of hok2.texts
 have hrl : recs.length ≤ 16 := hok2.recs
 have hpr : b1 ≤ 9223372036854775807 := HG.out.wf.prod.2
 clear h0 h00 hn hg hnl HRAW
 obtain ⟨p0, p1, p2, p3, p4, p5, p6⟩ := HX1.out.cs
 go_wp2_with fail
 refine (produce_any W1 km mc start ad len cap ms H1.out hL HOK.out HEND.out b0 b1 b2 b3 b4 b5 recs rd rc HREC1.out HTX.out (by omega) hpr _ HFIN.out.symm).mono ?_
 rintro e w2 hp
 obtain ⟨ad2, len2, cap2, ms2, rfl, hm2, hb2, hg2⟩ := gives_put_below HBT.out hp
 have HM2 := qh hm2
 have HB2 := qh hb2
 have HG2 := qh hg2
 obtain ⟨r, hr⟩ := exq (rawD mc start (bats ms) x)
 rw [← hr] at HB2 ⊢
 have HRR := qh hr
 obtain ⟨⟨ra, rb⟩, rl⟩ := r
 simp only at HB2 ⊢
 clear hp hm2 hb2 hg2 p0 p1 p2 p3 p4 p5 p6 hr
 go_wp2_with fail
 go_ret2
 exact gives_put HRR.out.symm HM2.out HB2.out HG2.out
end Go.Proofs.YtjmfdildnojknaaGreat
