/- Parts of a proof, merged: FoFetch, FoFetches, FoDeliver, FcDel, RegionP, AbAdd, AbMath2, SnBytes, AbBytes, SnNum, PrRefRight, SnMem, AbReads. -/
import Derived.Lib.SliceRun
import Derived.Test.YtipaebflkebdjaaKa8
import Derived.Test.YtipaebflkebdjaaKa5
import Derived.Test.YtipaebflkebdjaaKa3
import Derived.Test.YtipaebflkebdjaaKa7
import Derived.Test.YtipaebflkebdjaaKa2
import Derived.Test.YtipaebflkebdjaaKa4
import Derived.Test.YtipaebflkebdjaaKa6
namespace Go.Proofs.Ytipaebflkebdjaa
open Go.RowKit
open Go.FoMath
open Go.AbMath (withinD)
open Go.ProdMath
open Go.BatMath hiding AllB getD_lt take_all
set_option linter.unusedVariables false

/-- A fetch. -/
structure Fd where
 recs : List Gt
 drs : List Dr
 next : Int
 stable : Int
def Fd.zero : Fd := ⟨[], [], 0, 0⟩
noncomputable def fetchD (start : Int) (bs : List Bat) (o n : Int) (only : Bool) : Fd × Int :=
 if n < 1 ∨ 64 < n then (Fd.zero, 1)
 else if o < start ∨ endD start bs < o then (Fd.zero, 20)
 else
  let top := if only = true then stableD start bs else endD start bs
  let recs := recordsD bs o top
  let nx := nextD recs n.toNat top o
  (⟨recs.take n.toNat, if only = true then withinD (foldR [] bs) o nx else [], nx, stableD start bs⟩, 0)
/-- A block that is one fetch. -/
def FBox (w : World) (k : Nat) (v0 v1 : Value) (x2 x3 : Int) : Prop := w.heap[k]? = some (.cells #[v0, v1, .int .i64 x2, .int .i64 x3] 34 (0, 0))
section
variable {w w' : World} {k : Nat} {v0 v1 : Value} {x2 x3 : Int}
theorem FBox.c0 (h : FBox w k v0 v1 x2 x3) : w.cell? ⟨k, 0, none⟩ = some v0 := by rw [cell_of_row _ _ 0 _ _ _ h]; rfl
theorem FBox.c1 (h : FBox w k v0 v1 x2 x3) : w.cell? ⟨k, 1, none⟩ = some v1 := by rw [cell_of_row _ _ 1 _ _ _ h]; rfl
theorem FBox.c2 (h : FBox w k v0 v1 x2 x3) : w.cell? ⟨k, 2, none⟩ = some (.int .i64 x2) := by rw [cell_of_row _ _ 2 _ _ _ h]; rfl
theorem FBox.c3 (h : FBox w k v0 v1 x2 x3) : w.cell? ⟨k, 3, none⟩ = some (.int .i64 x3) := by rw [cell_of_row _ _ 3 _ _ _ h]; rfl
theorem FBox.free (h : FBox w k v0 v1 x2 x3) (j : Nat) : w.frozen? ⟨k, j, none⟩ = false := frozen_of_row w k j _ _ h
theorem FBox.lt (h : FBox w k v0 v1 x2 x3) : k < w.heap.size := lt_of_block h
theorem FBox.on (h : FBox w k v0 v1 x2 x3) (hb : Below w.heap.size w w') : FBox w' k v0 v1 x2 x3 := by
 have hlt := h.lt
 unfold FBox at *
 rw [hb.block k hlt]
 exact h
theorem FBox.off (h : FBox w k v0 v1 x2 x3) {j i : Nat} (hj : j ≠ k) (u : Value) : FBox (w.setCell ⟨j, i, none⟩ u) k v0 v1 x2 x3 := box_off h hj u
theorem FBox.s0 (h : FBox w k v0 v1 x2 x3) (u : Value) : FBox (w.setCell ⟨k, 0, none⟩ u) k u v1 x2 x3 := box_set h 0 _
theorem FBox.s1 (h : FBox w k v0 v1 x2 x3) (u : Value) : FBox (w.setCell ⟨k, 1, none⟩ u) k v0 u x2 x3 := box_set h 1 _
theorem FBox.s2 (h : FBox w k v0 v1 x2 x3) (n : Int) : FBox (w.setCell ⟨k, 2, none⟩ (.int .i64 n)) k v0 v1 n x3 := box_set h 2 _
theorem FBox.s3 (h : FBox w k v0 v1 x2 x3) (n : Int) : FBox (w.setCell ⟨k, 3, none⟩ (.int .i64 n)) k v0 v1 x2 n := box_set h 3 _
theorem fbox_new (w : World) (v0 v1 : Value) (x2 x3 : Int) : FBox (w.alloc (.cells #[v0, v1, .int .i64 x2, .int .i64 x3] 34)) w.heap.size v0 v1 x2 x3 := heap_alloc_new w _
end
/-- A row of what was aborted does not lie in a block that is a fetch. -/
theorem dr_past {w : World} {ad : Option Addr} {n cap k : Nat} {l : List Dr} {a0 a1 : Option Addr} {n0 c0 n1 c1 : Nat} {x2 x3 : Int} (h : RowAt drK w ad n cap l) (hf : FBox w k (.slice a0 n0 c0) (.slice a1 n1 c1) x2 x3) (j : Nat) (u : Value) : RowAt drK (w.setCell ⟨k, j, none⟩ u) ad n cap l := by
 by_cases hn : n = 0
 · exact ⟨h.length, h.fits, h.room, .inl hn⟩
 · rcases h.cells with h0 | ⟨b, off, e, hlt, hc⟩
   · exact absurd h0 hn
   · have hne : b ≠ k := fun hbk => by
      subst hbk
      have hl : 0 < l.length := by have := h.length; omega
      have h0 := hc 0 l[0] (List.getElem?_eq_getElem hl) 0 _ rfl
      have h2 := hc 0 l[0] (List.getElem?_eq_getElem hl) 2 _ rfl
      have h1 := hc 0 l[0] (List.getElem?_eq_getElem hl) 1 _ rfl
      rw [Nat.zero_mul, Nat.zero_add] at h0 h1 h2
      match off with
      | 0 => rw [Nat.zero_add, hf.c0] at h0; cases h0
      | 1 => rw [hf.c1] at h0; cases h0
      | m + 2 =>
        rw [cell_of_row _ _ _ _ _ _ hf, List.getElem?_toArray, List.getElem?_eq_none (by simp)] at h2
        cases h2
     exact h.off (fun a ha => by rw [e] at ha; cases ha; exact hne) j u
/-- A value that is a fetch, its rows in memory. -/
def FdAt (w : World) (v : Value) (f : Fd) : Prop := ∃ ra rn rc da dn dc, v = .agg #[.slice ra rn rc, .slice da dn dc, .int .i64 f.next, .int .i64 f.stable] ∧ RowAt gtK w ra rn rc f.recs ∧ RowAt drK w da dn dc f.drs
theorem FdAt.keep {w w' : World} {v : Value} {f : Fd} (h : FdAt w v f) (hb : Below w.heap.size w w') : FdAt w' v f := by
 obtain ⟨ra, rn, rc, da, dn, dc, e, h1, h2⟩ := h
 exact ⟨ra, rn, rc, da, dn, dc, e, h1.keep hb, h2.keep hb⟩
def GivesFd (w : World) (r : Fd × Int) (e : Ending) (w' : World) : Prop := ∃ v, e = .returned (.tuple #[v, .int .i64 r.2]) ∧ FdAt w' v r.1 ∧ Below w.heap.size w w'
theorem resultsRefFetch {tmps : Array Value} {B : Nat} {W : World} {v0 v1 : Value} {x2 x3 : Int} {x : Value} (h : FBox W B v0 v1 x2 x3) (ht : tmps.getD 10 undef = .pointer (some ⟨B, 0, none⟩)) (hx : tmps.getD 11 undef = x) :
 (results Try.f30 tmps).run Try.prog W = .ok (.tuple #[.agg #[v0, v1, .int .i64 x2, .int .i64 x3], x]) W := by
 rw [results_cell_tmp (p := 10) (u := 11) (ty := 34) Try.results30, ht]
 have hl := run_loadVar_row (P := Try.prog) W B 34 34 _ (0, 0) _ h Try.underlying34 rfl (by kernel_rfl)
 simp only [asAddr, Sem.run_pure, Result.andThen, hl, hx]
set_option maxRecDepth 100000 in
set_option maxHeartbeats 8000000 in
theorem refFetch_any (w : World) (start : Int) (ad : Option Addr) (len cap : Nat) (ms : List BM) (h : BatsAt w ad len cap ms) (hL : len ≤ 5000) (hr : FoRow start (bats ms)) (o n : Int) (only : Bool) :
 Calls Try.prog 30 #[.int .i64 start, .slice ad len cap, .int .i64 o, .int .i64 n, .bool only] w (GivesFd w (fetchD start (bats ms) o n only)) := by
 have H := Lib.hid h
 have HR := Lib.hid hr
 have HLL : Hid (len ≤ 5000) := hL
 clear h hr hL
 obtain ⟨en, hen⟩ : ∃ e, e = endD start (bats ms) := ⟨_, rfl⟩
 obtain ⟨st, hst⟩ : ∃ e, e = stableD start (bats ms) := ⟨_, rfl⟩
 have HEN := Lib.hid hen
 have HST := Lib.hid hst
 clear hen hst
 go_enter Try.func30, Try.ntmps30
 go_upto_region 1 with fail
 obtain ⟨W0, hW0⟩ : ∃ z, z = w.alloc (.cells #[.slice none 0 0, .slice none 0 0, .int .i64 0, .int .i64 0] 34) := ⟨_, rfl⟩
 obtain ⟨R, hR⟩ : ∃ z, z = w.heap.size := ⟨_, rfl⟩
 have HF0 : Hid (FBox W0 R (.slice none 0 0) (.slice none 0 0) 0 0) := by show FBox _ _ _ _ _ _; rw [hW0, hR]; exact fbox_new w _ _ _ _
 have HB0 : Hid (Below w.heap.size w W0) := by show Below _ _ _; rw [hW0]; exact (Below.refl _ _).alloc (Nat.le_refl _) _
 have HRW : Hid (w.heap.size ≤ R) := by show _ ≤ _; rw [hR]; exact Nat.le_refl _
 (try rw [← hW0, ← hR])
 clear hW0 hR
 have f0 := HF0.out.free 0
 have f1 := HF0.out.free 1
 have f2 := HF0.out.free 2
 have f3 := HF0.out.free 3
 have r0 := HF0.out.c0
 have r1 := HF0.out.c1
 have r2 := HF0.out.c2
 have r3 := HF0.out.c3
 have HZ : Hid (FBox ((((W0.setCell ⟨R, 0, none⟩ (.slice none 0 0)).setCell ⟨R, 1, none⟩ (.slice none 0 0)).setCell ⟨R, 2, none⟩ (.int .i64 0)).setCell ⟨R, 3, none⟩ (.int .i64 0)) R (.slice none 0 0) (.slice none 0 0) 0 0 ∧ Below w.heap.size w ((((W0.setCell ⟨R, 0, none⟩ (.slice none 0 0)).setCell ⟨R, 1, none⟩ (.slice none 0 0)).setCell ⟨R, 2, none⟩ (.int .i64 0)).setCell ⟨R, 3, none⟩ (.int .i64 0))) :=
  ⟨(((HF0.out.s0 _).s1 _).s2 0).s3 0, (((HB0.out.setCell HRW.out _).setCell HRW.out _).setCell HRW.out _).setCell HRW.out _⟩
 have hcs : n < 1 ∨ (¬ n < 1 ∧ 64 < n) ∨ (¬ n < 1 ∧ ¬ 64 < n) := by omega
 rcases hcs with h1 | ⟨h1, h2⟩ | ⟨h1, h2⟩
 · have hd : decide (n < 1) = true := decide_eq_true h1
   have HV : Hid (fetchD start (bats ms) o n only = (Fd.zero, 1)) := if_pos (.inl h1)
   clear h1
   go_wp2
   refine bodyPost_ret (v := .tuple #[.agg #[.slice none 0 0, .slice none 0 0, .int .i64 0, .int .i64 0], .int .i64 1]) (resultsRefFetch HZ.out.1 rfl rfl) rfl ?_
   rw [HV.out]
   exact ⟨_, rfl, ⟨none, 0, 0, none, 0, 0, rfl, rowAt_nil _, rowAt_nil _⟩, HZ.out.2⟩
 · have hd : decide (n < 1) = false := decide_eq_false h1
   have hd2 : decide (64 < n) = true := decide_eq_true h2
   have HV : Hid (fetchD start (bats ms) o n only = (Fd.zero, 1)) := if_pos (.inr h2)
   clear h1 h2
   go_wp2
   refine bodyPost_ret (v := .tuple #[.agg #[.slice none 0 0, .slice none 0 0, .int .i64 0, .int .i64 0], .int .i64 1]) (resultsRefFetch HZ.out.1 rfl rfl) rfl ?_
   rw [HV.out]
   exact ⟨_, rfl, ⟨none, 0, 0, none, 0, 0, rfl, rowAt_nil _, rowAt_nil _⟩, HZ.out.2⟩
 · have hd : decide (n < 1) = false := decide_eq_false h1
   have hd2 : decide (64 < n) = false := decide_eq_false h2
   obtain ⟨nn, rfl⟩ : ∃ nn : Nat, n = (nn : Int) := ⟨n.toNat, by omega⟩
   have hn1 : 1 ≤ nn := by omega
   have hn64 : nn ≤ 64 := by omega
   by_cases h3 : o < start
   · have hd3 : decide (o < start) = true := decide_eq_true h3
     have HV : Hid (fetchD start (bats ms) o (nn : Int) only = (Fd.zero, 20)) := by
      show fetchD _ _ _ _ _ = _
      unfold fetchD
      rw [if_neg (by omega), if_pos (.inl h3)]
     clear h1 h2 h3
     go_wp2
     refine bodyPost_ret (v := .tuple #[.agg #[.slice none 0 0, .slice none 0 0, .int .i64 0, .int .i64 0], .int .i64 20]) (resultsRefFetch HZ.out.1 rfl rfl) rfl ?_
     rw [HV.out]
     exact ⟨_, rfl, ⟨none, 0, 0, none, 0, 0, rfl, rowAt_nil _, rowAt_nil _⟩, HZ.out.2⟩
   · have hd3 : decide (o < start) = false := decide_eq_false h3
     have HE1 := Lib.hid (refEnd_any W0 start ad len cap ms (H.out.keep HB0.out) (Nat.le_trans HLL.out (by decide)) HR.out.ok _ HEN.out.symm)
     go_wp2_with fail
     refine HE1.out.mono ?_
     rintro e w1 ⟨rfl, hb⟩
     have HB1 := Lib.hid (HB0.out.trans (hb.mono HB0.out.size))
     have HF1 := Lib.hid (HF0.out.on hb)
     clear hb HE1 HZ HB0 HF0 f0 f1 f2 f3 r0 r1 r2 r3
     have f0 := HF1.out.free 0
     have f1 := HF1.out.free 1
     have f2 := HF1.out.free 2
     have f3 := HF1.out.free 3
     have r0 := HF1.out.c0
     have r1 := HF1.out.c1
     have r2 := HF1.out.c2
     have r3 := HF1.out.c3
     by_cases h4 : en < o
     · have hd4 : decide (en < o) = true := decide_eq_true h4
       have HV : Hid (fetchD start (bats ms) o (nn : Int) only = (Fd.zero, 20)) := by
        show fetchD _ _ _ _ _ = _
        unfold fetchD
        rw [if_neg (by omega), ← HEN.out, if_pos (.inr h4)]
       have HZ : Hid (FBox ((((w1.setCell ⟨R, 0, none⟩ (.slice none 0 0)).setCell ⟨R, 1, none⟩ (.slice none 0 0)).setCell ⟨R, 2, none⟩ (.int .i64 0)).setCell ⟨R, 3, none⟩ (.int .i64 0)) R (.slice none 0 0) (.slice none 0 0) 0 0 ∧ Below w.heap.size w ((((w1.setCell ⟨R, 0, none⟩ (.slice none 0 0)).setCell ⟨R, 1, none⟩ (.slice none 0 0)).setCell ⟨R, 2, none⟩ (.int .i64 0)).setCell ⟨R, 3, none⟩ (.int .i64 0))) :=
        ⟨(((HF1.out.s0 _).s1 _).s2 0).s3 0, (((HB1.out.setCell HRW.out _).setCell HRW.out _).setCell HRW.out _).setCell HRW.out _⟩
       clear h1 h2 h3 h4
       go_wp2
       refine bodyPost_ret (v := .tuple #[.agg #[.slice none 0 0, .slice none 0 0, .int .i64 0, .int .i64 0], .int .i64 20]) (resultsRefFetch HZ.out.1 rfl rfl) rfl ?_
       rw [HV.out]
       exact ⟨_, rfl, ⟨none, 0, 0, none, 0, 0, rfl, rowAt_nil _, rowAt_nil _⟩, HZ.out.2⟩
     · have hd4 : decide (en < o) = false := decide_eq_false h4
       clear r0 r1 r2 r3 f0 f1 f2 f3
       go_wp2_with fail
       refine (refStable_any w1 start ad len cap ms (H.out.keep HB1.out) HLL.out HR.out).mono ?_
       rintro e w2 ⟨rfl, hb⟩
       have HB2 := Lib.hid (HB1.out.trans (hb.mono HB1.out.size))
       have HF2 := Lib.hid (HF1.out.on hb)
       rw [← HST.out]
       clear hb HB1 HF1
       go_upto_region 6 with fail
       obtain ⟨W3, hW3⟩ : ∃ z, z = w2.alloc (.cells #[.slice none 0 0, .slice none 0 0, .int .i64 0, .int .i64 st] 34) := ⟨_, rfl⟩
       obtain ⟨F, hF⟩ : ∃ z, z = w2.heap.size := ⟨_, rfl⟩
       have hb3 : Below w2.heap.size w2 W3 := by rw [hW3]; exact (Below.refl _ _).alloc (Nat.le_refl _) _
       have HX3 : Hid (FBox W3 F (.slice none 0 0) (.slice none 0 0) 0 st) := by show FBox _ _ _ _ _ _; rw [hW3, hF]; exact fbox_new w2 _ _ _ _
       have HF3 := Lib.hid (HF2.out.on hb3)
       have HB3 := Lib.hid (HB2.out.trans (hb3.mono HB2.out.size))
       have HFW : Hid (w.heap.size ≤ F) := by show _ ≤ _; rw [hF]; exact HB2.out.size
       have HFR : Hid (F ≠ R) := by show _ ≠ _; rw [hF]; exact Nat.ne_of_gt HF2.out.lt
       (try rw [← hW3, ← hF])
       clear hW3 hF hb3 HB2 HF2
       have HE3 := Lib.hid (refEnd_any W3 start ad len cap ms (H.out.keep HB3.out) (Nat.le_trans HLL.out (by decide)) HR.out.ok _ HEN.out.symm)
       go_wp2_with fail
       refine HE3.out.mono ?_
       rintro e w4 ⟨rfl, hb⟩
       have HB4 := Lib.hid (HB3.out.trans (hb.mono HB3.out.size))
       have HF4 := Lib.hid (HF3.out.on hb)
       have HX4 := Lib.hid (HX3.out.on hb)
       clear hb HE3 HB3 HF3 HX3
       have HNR : Hid (¬ ((nn : Int) < 1 ∨ 64 < (nn : Int)) ∧ ¬ (o < start ∨ en < o)) := by show _ ∧ _; constructor <;> omega
       clear h1 h2 h3 h4
       cases only with
       | false =>
         go_wp2_with fail
         refine (refRecords_any w4 ad len cap ms (H.out.keep HB4.out) HLL.out HR.out.few o en).mono ?_
         rintro e w5 ⟨qa, qn, qc, rfl, hrow, hfar, hb⟩
         have HB5 := Lib.hid (HB4.out.trans (hb.mono HB4.out.size))
         have HF5 := Lib.hid (HF4.out.on hb)
         have HX5 := Lib.hid (HX4.out.on hb)
         obtain ⟨rs, hrs⟩ : ∃ rs, rs = recordsD (bats ms) o en := ⟨_, rfl⟩
         rw [← hrs] at hrow
         have HRS := Lib.hid hrs
         have HQ := Lib.hid hrow
         have hqn : rs.length = qn := hrow.length
         have HFAR : Hid (∀ a, qa = some a → a.block ≠ F ∧ a.block ≠ R) := fun a ha => by have h5 := (hfar a ha).1; have h6 := HX4.out.lt; have h7 := HF4.out.lt; exact ⟨by omega, by omega⟩
         have HQN := Lib.hid hqn
         have hqb : qn ≤ 80000 := by
          have h5 := recordsD_few (a := o) (z := en) (l := bats ms) (fun b hb => (HR.out.few b hb).2.2)
          have h6 : (bats ms).length = len := by unfold bats; rw [List.length_map]; exact H.out.row.length
          have h7 := HLL.out
          rw [← hrs, h6, hqn] at h5
          omega
         obtain ⟨mx, hmx⟩ : ∃ mx, mx = max en o := ⟨_, rfl⟩
         have HMX := Lib.hid hmx
         clear hb hrs hrow hfar hqn hmx HB4 HF4 HX4
         have x0 := HX5.out.c0
         have x2 := HX5.out.c2
         have g0 := HX5.out.free 0
         have g2 := HX5.out.free 2
         go_upto_region 11 with fail
         obtain ⟨mv, hmv⟩ : ∃ mv : Int, mv = (if en < o then o else en) := ⟨_, rfl⟩
         rw [← hmv]
         have HMV : Hid (mv = mx) := by show _ = _; rw [hmv, HMX.out]; split <;> omega
         obtain ⟨W6, hW6⟩ : ∃ y, y = (w5.setCell ⟨F, 0, none⟩ (.slice qa qn qc)).setCell ⟨F, 2, none⟩ (.int .i64 mv) := ⟨_, rfl⟩
         have HX6 : Hid (FBox W6 F (.slice qa qn qc) (.slice none 0 0) mv st) := by show FBox _ _ _ _ _ _; rw [hW6]; exact (HX5.out.s0 _).s2 _
         have HF6 : Hid (FBox W6 R (.slice none 0 0) (.slice none 0 0) 0 0) := by show FBox _ _ _ _ _ _; rw [hW6]; exact (HF5.out.off HFR.out _).off HFR.out _
         have HB6 : Hid (Below w.heap.size w W6) := by show Below _ _ _; rw [hW6]; exact (HB5.out.setCell HFW.out _).setCell HFW.out _
         have HQ6 : Hid (RowAt gtK W6 qa qn qc rs) := by show RowAt _ _ _ _ _ _; rw [hW6]; exact (HQ.out.off (fun a ha => (HFAR.out a ha).1) _ _).off (fun a ha => (HFAR.out a ha).1) _ _
         rw [← hW6]
         clear hW6 hmv HX5 HF5 HB5 HQ x0 x2 g0 g2
         have x0 := HX6.out.c0
         by_cases hq : nn ≤ qn
         · have hdq : decide (nn ≤ qn) = true := decide_eq_true hq
           have hdqi : decide ((nn : Int) ≤ (qn : Int)) = true := decide_eq_true (by omega)
           have hsl : ∀ V, (Instr.slice 31 (.slice qa qn qc) none (some (.int .i64 (nn : Int))) none).run Try.prog V = .ok (.slice qa nn qc) V := row_upto gtK_ok _ qn qc nn (Nat.le_trans hq HQ6.out.fits)
           have g0 := HX6.out.free 0
           have HQT := Lib.hid (HQ6.out.take nn hq)
           obtain ⟨jn, hjn⟩ : ∃ jn, jn = nn - 1 := ⟨_, rfl⟩
           have hj1 : jn < nn := by omega
           have hjw : wrap64 ((nn : Int) - 1) = (jn : Int) := by unfold wrap64; omega
           have hjw2 : (nn : Int) - 1 = (jn : Int) := by omega
           have hji : (jn : Int) < (nn : Int) := by omega
           have HJN := Lib.hid hjn
           clear hjn hq
           go_upto_region 13 with fail
           obtain ⟨W7, hW7⟩ : ∃ y, y = W6.setCell ⟨F, 0, none⟩ (.slice qa nn qc) := ⟨_, rfl⟩
           have HX7 : Hid (FBox W7 F (.slice qa nn qc) (.slice none 0 0) mv st) := by show FBox _ _ _ _ _ _; rw [hW7]; exact HX6.out.s0 _
           have HF7 : Hid (FBox W7 R (.slice none 0 0) (.slice none 0 0) 0 0) := by show FBox _ _ _ _ _ _; rw [hW7]; exact HF6.out.off HFR.out _
           have HB7 : Hid (Below w.heap.size w W7) := by show Below _ _ _; rw [hW7]; exact HB6.out.setCell HFW.out _
           have HQ7 : Hid (RowAt gtK W7 qa nn qc (rs.take nn)) := by show RowAt _ _ _ _ _ _; rw [hW7]; exact HQT.out.off (fun a ha => (HFAR.out a ha).1) _ _
           rw [← hW7]
           clear hW7 hsl x0 g0 HX6 HF6 HB6 HQ6 HQT
           obtain ⟨gb, go2, gx, gel, hgb, hgx, hga⟩ := gt_get HQ7.out hj1
           subst gel
           obtain ⟨gxo, gxp, gxr⟩ := gx
           have k0 := hga.c0
           have hgr : rs[jn]? = some ⟨gxo, gxp, gxr⟩ := by rw [List.getElem?_take_of_lt hj1] at hgx; exact hgx
           have hgm := recordsD_mem (l := bats ms) (a := o) (z := en) (g := ⟨gxo, gxp, gxr⟩) (by rw [← HRS.out]; exact List.mem_of_getElem? hgr)
           have hgb0 : 0 ≤ gxo ∧ gxo ≤ 1099511627800 := by
            obtain ⟨_, _, bb, hbb, hgg⟩ := hgm
            have h5 := batG_mem hgg
            have h6 := HR.out.few bb hbb
            have h7 : countD bb = (bb.recs.length : Int) := by unfold countD; rw [if_neg (by have := h5.1; omega)]
            simp only at h5
            omega
           obtain ⟨hg0, hg1⟩ := hgb0
           have HNX0 : Hid (gxo + 1 = nextD rs nn en o) := by show _ = _; rw [next_some (g := ⟨gxo, gxp, gxr⟩) (by rw [← HJN.out]; exact hgr)]
           obtain ⟨nx, hnx⟩ : ∃ nx, nx = gxo + 1 := ⟨_, rfl⟩
           have HNXE := Lib.hid hnx
           have HNX : Hid (nx = nextD rs nn en o) := by show _ = _; rw [hnx]; exact HNX0.out
           simp only at k0
           clear hgx hga hgr hgm hnx hgb
           have y0 := HX7.out.c0
           have y2 := HX7.out.c2
           have g2 := HX7.out.free 2
           go_upto_region 14 with fail
           rw [← HNXE.out]
           obtain ⟨W8, hW8⟩ : ∃ y, y = W7.setCell ⟨F, 2, none⟩ (.int .i64 nx) := ⟨_, rfl⟩
           have HX8a : Hid (FBox W8 F (.slice (some ⟨gb, go2, none⟩) nn qc) (.slice none 0 0) nx st) := by show FBox _ _ _ _ _ _; rw [hW8]; exact HX7.out.s2 _
           have HF8a : Hid (FBox W8 R (.slice none 0 0) (.slice none 0 0) 0 0) := by show FBox _ _ _ _ _ _; rw [hW8]; exact HF7.out.off HFR.out _
           have HB8a : Hid (Below w.heap.size w W8) := by show Below _ _ _; rw [hW8]; exact HB7.out.setCell HFW.out _
           have HQ8a : Hid (RowAt gtK W8 (some ⟨gb, go2, none⟩) nn qc (rs.take nn)) := by show RowAt _ _ _ _ _ _; rw [hW8]; exact HQ7.out.off (fun a ha => (HFAR.out a ha).1) _ _
           rw [← hW8]
           clear hW8 HX7 HF7 HB7 HQ7 k0 y0 y2 g2 hg0 hg1 hj1 hjw hjw2 hji
           have y0 := HX8a.out.c0
           have y1 := HX8a.out.c1
           have y2 := HX8a.out.c2
           have y3 := HX8a.out.c3
           have z0 := HF8a.out.c0
           have g0 := HF8a.out.free 0
           have z1 := HF8a.out.c1
           have g1 := HF8a.out.free 1
           have z2 := HF8a.out.c2
           have g2 := HF8a.out.free 2
           have z3 := HF8a.out.c3
           have g3 := HF8a.out.free 3
           have HZ : Hid (FBox ((((W8.setCell ⟨R, 0, none⟩ (.slice (some ⟨gb, go2, none⟩) nn qc)).setCell ⟨R, 1, none⟩ (.slice none 0 0)).setCell ⟨R, 2, none⟩ (.int .i64 nx)).setCell ⟨R, 3, none⟩ (.int .i64 st)) R (.slice (some ⟨gb, go2, none⟩) nn qc) (.slice none 0 0) nx st) := (((HF8a.out.s0 _).s1 _).s2 _).s3 _
           have HZB : Hid (Below w.heap.size w ((((W8.setCell ⟨R, 0, none⟩ (.slice (some ⟨gb, go2, none⟩) nn qc)).setCell ⟨R, 1, none⟩ (.slice none 0 0)).setCell ⟨R, 2, none⟩ (.int .i64 nx)).setCell ⟨R, 3, none⟩ (.int .i64 st))) := (((HB8a.out.setCell HRW.out _).setCell HRW.out _).setCell HRW.out _).setCell HRW.out _
           have hfq : ∀ a : Addr, (some ⟨gb, go2, none⟩ : Option Addr) = some a → a.block ≠ R := fun a ha => (HFAR.out a ha).2
           have HZQ : Hid (RowAt gtK ((((W8.setCell ⟨R, 0, none⟩ (.slice (some ⟨gb, go2, none⟩) nn qc)).setCell ⟨R, 1, none⟩ (.slice none 0 0)).setCell ⟨R, 2, none⟩ (.int .i64 nx)).setCell ⟨R, 3, none⟩ (.int .i64 st)) (some ⟨gb, go2, none⟩) nn qc (rs.take nn)) := (((HQ8a.out.off hfq _ _).off hfq _ _).off hfq _ _).off hfq _ _
           clear hfq
           have HVV : Hid (fetchD start (bats ms) o (nn : Int) false = (⟨rs.take nn, [], nx, st⟩, 0)) := by
            show fetchD _ _ _ _ _ = _
            unfold fetchD
            rw [if_neg HNR.out.1, ← HEN.out, if_neg HNR.out.2, ← HST.out]
            simp only [Int.toNat_natCast, if_false, Bool.false_eq_true]
            rw [← HRS.out, ← HNX.out]
           go_wp2
           refine bodyPost_ret (v := .tuple #[.agg #[.slice (some ⟨gb, go2, none⟩) nn qc, .slice none 0 0, .int .i64 nx, .int .i64 st], .int .i64 0]) (resultsRefFetch HZ.out rfl rfl) rfl ?_
           rw [HVV.out]
           exact ⟨_, rfl, ⟨some ⟨gb, go2, none⟩, nn, qc, none, 0, 0, rfl, HZQ.out, rowAt_nil _⟩, HZB.out⟩
         · have hdq : decide (nn ≤ qn) = false := decide_eq_false hq
           have hdqi : decide ((nn : Int) ≤ (qn : Int)) = false := decide_eq_false (by omega)
           have HNX : Hid (mv = nextD rs nn en o) := by show _ = _; rw [HMV.out, HMX.out, next_none (by rw [HQN.out]; omega)]
           have HQT : Hid (RowAt gtK W6 qa qn qc (rs.take nn)) := by show RowAt _ _ _ _ _ _; rw [List.take_of_length_le (by rw [HQN.out]; omega)]; exact HQ6.out
           clear hq x0 HQ6
           have y0 := HX6.out.c0
           have y1 := HX6.out.c1
           have y2 := HX6.out.c2
           have y3 := HX6.out.c3
           have z0 := HF6.out.c0
           have g0 := HF6.out.free 0
           have z1 := HF6.out.c1
           have g1 := HF6.out.free 1
           have z2 := HF6.out.c2
           have g2 := HF6.out.free 2
           have z3 := HF6.out.c3
           have g3 := HF6.out.free 3
           have HZ : Hid (FBox ((((W6.setCell ⟨R, 0, none⟩ (.slice qa qn qc)).setCell ⟨R, 1, none⟩ (.slice none 0 0)).setCell ⟨R, 2, none⟩ (.int .i64 mv)).setCell ⟨R, 3, none⟩ (.int .i64 st)) R (.slice qa qn qc) (.slice none 0 0) mv st) := (((HF6.out.s0 _).s1 _).s2 _).s3 _
           have HZB : Hid (Below w.heap.size w ((((W6.setCell ⟨R, 0, none⟩ (.slice qa qn qc)).setCell ⟨R, 1, none⟩ (.slice none 0 0)).setCell ⟨R, 2, none⟩ (.int .i64 mv)).setCell ⟨R, 3, none⟩ (.int .i64 st))) := (((HB6.out.setCell HRW.out _).setCell HRW.out _).setCell HRW.out _).setCell HRW.out _
           have hfq : ∀ a, qa = some a → a.block ≠ R := fun a ha => (HFAR.out a ha).2
           have HZQ : Hid (RowAt gtK ((((W6.setCell ⟨R, 0, none⟩ (.slice qa qn qc)).setCell ⟨R, 1, none⟩ (.slice none 0 0)).setCell ⟨R, 2, none⟩ (.int .i64 mv)).setCell ⟨R, 3, none⟩ (.int .i64 st)) qa qn qc (rs.take nn)) := (((HQT.out.off hfq _ _).off hfq _ _).off hfq _ _).off hfq _ _
           clear hfq
           have HVV : Hid (fetchD start (bats ms) o (nn : Int) false = (⟨rs.take nn, [], mv, st⟩, 0)) := by
            show fetchD _ _ _ _ _ = _
            unfold fetchD
            rw [if_neg HNR.out.1, ← HEN.out, if_neg HNR.out.2, ← HST.out]
            simp only [Int.toNat_natCast, if_false, Bool.false_eq_true]
            rw [← HRS.out, ← HNX.out]
           go_wp2
           refine bodyPost_ret (v := .tuple #[.agg #[.slice qa qn qc, .slice none 0 0, .int .i64 mv, .int .i64 st], .int .i64 0]) (resultsRefFetch HZ.out rfl rfl) rfl ?_
           rw [HVV.out]
           exact ⟨_, rfl, ⟨qa, qn, qc, none, 0, 0, rfl, HZQ.out, rowAt_nil _⟩, HZB.out⟩
       | true =>
         have x3 := HX4.out.c3
         go_wp2_with fail
         clear x3
         refine (refRecords_any w4 ad len cap ms (H.out.keep HB4.out) HLL.out HR.out.few o st).mono ?_
         rintro e w5 ⟨qa, qn, qc, rfl, hrow, hfar, hb⟩
         have HB5 := Lib.hid (HB4.out.trans (hb.mono HB4.out.size))
         have HF5 := Lib.hid (HF4.out.on hb)
         have HX5 := Lib.hid (HX4.out.on hb)
         obtain ⟨rs, hrs⟩ : ∃ rs, rs = recordsD (bats ms) o st := ⟨_, rfl⟩
         rw [← hrs] at hrow
         have HRS := Lib.hid hrs
         have HQ := Lib.hid hrow
         have hqn : rs.length = qn := hrow.length
         have HFAR : Hid (∀ a, qa = some a → a.block ≠ F ∧ a.block ≠ R) := fun a ha => by have h5 := (hfar a ha).1; have h6 := HX4.out.lt; have h7 := HF4.out.lt; exact ⟨by omega, by omega⟩
         have HQN := Lib.hid hqn
         have hqb : qn ≤ 80000 := by
          have h5 := recordsD_few (a := o) (z := st) (l := bats ms) (fun b hb => (HR.out.few b hb).2.2)
          have h6 : (bats ms).length = len := by unfold bats; rw [List.length_map]; exact H.out.row.length
          have h7 := HLL.out
          rw [← hrs, h6, hqn] at h5
          omega
         obtain ⟨mx, hmx⟩ : ∃ mx, mx = max st o := ⟨_, rfl⟩
         have HMX := Lib.hid hmx
         clear hb hrs hrow hfar hqn hmx HB4 HF4 HX4
         have x0 := HX5.out.c0
         have x2 := HX5.out.c2
         have g0 := HX5.out.free 0
         have g2 := HX5.out.free 2
         go_upto_region 11 with fail
         obtain ⟨mv, hmv⟩ : ∃ mv : Int, mv = (if st < o then o else st) := ⟨_, rfl⟩
         rw [← hmv]
         have HMV : Hid (mv = mx) := by show _ = _; rw [hmv, HMX.out]; split <;> omega
         obtain ⟨W6, hW6⟩ : ∃ y, y = (w5.setCell ⟨F, 0, none⟩ (.slice qa qn qc)).setCell ⟨F, 2, none⟩ (.int .i64 mv) := ⟨_, rfl⟩
         have HX6 : Hid (FBox W6 F (.slice qa qn qc) (.slice none 0 0) mv st) := by show FBox _ _ _ _ _ _; rw [hW6]; exact (HX5.out.s0 _).s2 _
         have HF6 : Hid (FBox W6 R (.slice none 0 0) (.slice none 0 0) 0 0) := by show FBox _ _ _ _ _ _; rw [hW6]; exact (HF5.out.off HFR.out _).off HFR.out _
         have HB6 : Hid (Below w.heap.size w W6) := by show Below _ _ _; rw [hW6]; exact (HB5.out.setCell HFW.out _).setCell HFW.out _
         have HQ6 : Hid (RowAt gtK W6 qa qn qc rs) := by show RowAt _ _ _ _ _ _; rw [hW6]; exact (HQ.out.off (fun a ha => (HFAR.out a ha).1) _ _).off (fun a ha => (HFAR.out a ha).1) _ _
         rw [← hW6]
         clear hW6 hmv HX5 HF5 HB5 HQ x0 x2 g0 g2
         have x0 := HX6.out.c0
         by_cases hq : nn ≤ qn
         · have hdq : decide (nn ≤ qn) = true := decide_eq_true hq
           have hdqi : decide ((nn : Int) ≤ (qn : Int)) = true := decide_eq_true (by omega)
           have hsl : ∀ V, (Instr.slice 31 (.slice qa qn qc) none (some (.int .i64 (nn : Int))) none).run Try.prog V = .ok (.slice qa nn qc) V := row_upto gtK_ok _ qn qc nn (Nat.le_trans hq HQ6.out.fits)
           have g0 := HX6.out.free 0
           have HQT := Lib.hid (HQ6.out.take nn hq)
           obtain ⟨jn, hjn⟩ : ∃ jn, jn = nn - 1 := ⟨_, rfl⟩
           have hj1 : jn < nn := by omega
           have hjw : wrap64 ((nn : Int) - 1) = (jn : Int) := by unfold wrap64; omega
           have hjw2 : (nn : Int) - 1 = (jn : Int) := by omega
           have hji : (jn : Int) < (nn : Int) := by omega
           have HJN := Lib.hid hjn
           clear hjn hq
           go_upto_region 13 with fail
           obtain ⟨W7, hW7⟩ : ∃ y, y = W6.setCell ⟨F, 0, none⟩ (.slice qa nn qc) := ⟨_, rfl⟩
           have HX7 : Hid (FBox W7 F (.slice qa nn qc) (.slice none 0 0) mv st) := by show FBox _ _ _ _ _ _; rw [hW7]; exact HX6.out.s0 _
           have HF7 : Hid (FBox W7 R (.slice none 0 0) (.slice none 0 0) 0 0) := by show FBox _ _ _ _ _ _; rw [hW7]; exact HF6.out.off HFR.out _
           have HB7 : Hid (Below w.heap.size w W7) := by show Below _ _ _; rw [hW7]; exact HB6.out.setCell HFW.out _
           have HQ7 : Hid (RowAt gtK W7 qa nn qc (rs.take nn)) := by show RowAt _ _ _ _ _ _; rw [hW7]; exact HQT.out.off (fun a ha => (HFAR.out a ha).1) _ _
           rw [← hW7]
           clear hW7 hsl x0 g0 HX6 HF6 HB6 HQ6 HQT
           obtain ⟨gb, go2, gx, gel, hgb, hgx, hga⟩ := gt_get HQ7.out hj1
           subst gel
           obtain ⟨gxo, gxp, gxr⟩ := gx
           have k0 := hga.c0
           have hgr : rs[jn]? = some ⟨gxo, gxp, gxr⟩ := by rw [List.getElem?_take_of_lt hj1] at hgx; exact hgx
           have hgm := recordsD_mem (l := bats ms) (a := o) (z := st) (g := ⟨gxo, gxp, gxr⟩) (by rw [← HRS.out]; exact List.mem_of_getElem? hgr)
           have hgb0 : 0 ≤ gxo ∧ gxo ≤ 1099511627800 := by
            obtain ⟨_, _, bb, hbb, hgg⟩ := hgm
            have h5 := batG_mem hgg
            have h6 := HR.out.few bb hbb
            have h7 : countD bb = (bb.recs.length : Int) := by unfold countD; rw [if_neg (by have := h5.1; omega)]
            simp only at h5
            omega
           obtain ⟨hg0, hg1⟩ := hgb0
           have HNX0 : Hid (gxo + 1 = nextD rs nn st o) := by show _ = _; rw [next_some (g := ⟨gxo, gxp, gxr⟩) (by rw [← HJN.out]; exact hgr)]
           obtain ⟨nx, hnx⟩ : ∃ nx, nx = gxo + 1 := ⟨_, rfl⟩
           have HNXE := Lib.hid hnx
           have HNX : Hid (nx = nextD rs nn st o) := by show _ = _; rw [hnx]; exact HNX0.out
           simp only at k0
           clear hgx hga hgr hgm hnx hgb
           have y0 := HX7.out.c0
           have y2 := HX7.out.c2
           have g2 := HX7.out.free 2
           go_upto_region 14 with fail
           rw [← HNXE.out]
           obtain ⟨W8, hW8⟩ : ∃ y, y = W7.setCell ⟨F, 2, none⟩ (.int .i64 nx) := ⟨_, rfl⟩
           have HX8a : Hid (FBox W8 F (.slice (some ⟨gb, go2, none⟩) nn qc) (.slice none 0 0) nx st) := by show FBox _ _ _ _ _ _; rw [hW8]; exact HX7.out.s2 _
           have HF8a : Hid (FBox W8 R (.slice none 0 0) (.slice none 0 0) 0 0) := by show FBox _ _ _ _ _ _; rw [hW8]; exact HF7.out.off HFR.out _
           have HB8a : Hid (Below w.heap.size w W8) := by show Below _ _ _; rw [hW8]; exact HB7.out.setCell HFW.out _
           have HQ8a : Hid (RowAt gtK W8 (some ⟨gb, go2, none⟩) nn qc (rs.take nn)) := by show RowAt _ _ _ _ _ _; rw [hW8]; exact HQ7.out.off (fun a ha => (HFAR.out a ha).1) _ _
           rw [← hW8]
           clear hW8 HX7 HF7 HB7 HQ7 k0 y0 y2 g2 hg0 hg1 hj1 hjw hjw2 hji
           go_wp2_with fail
           (try clear x0)
           refine (fold_any W8 ad len cap ms (H.out.keep HB8a.out) (Nat.le_trans HLL.out (by decide)) (batsOk_of HR.out.ok)).mono ?_
           rintro e w8 ⟨kt, ta, tn, tc, ps, dd, dn, dc, rfl, -, -, hdr, -, hb⟩
           have HB8 := Lib.hid (HB8a.out.trans (hb.mono HB8a.out.size))
           have HX8 := Lib.hid (HX8a.out.on hb)
           have HF8 := Lib.hid (HF8a.out.on hb)
           have HQ8 := Lib.hid (HQ8a.out.keep hb)
           have HDR := Lib.hid hdr
           have HDN : Hid (dn ≤ 1000000) := by
            show _ ≤ _
            have h5 := AbMath.drops_len (bats ms) []
            have h6 : (bats ms).length = len := by unfold bats; rw [List.length_map]; exact H.out.row.length
            have h7 := hdr.length
            have h8 := HLL.out
            rw [h6] at h5
            (try simp only [List.length_nil] at h5)
            omega
           clear hb hdr HB8a HX8a HF8a HQ8a
           have x2 := HX8.out.c2
           go_wp2_with fail
           clear x2
           refine (refWithin_any w8 dd dn dc _ HDR.out HDN.out o nx).mono ?_
           rintro e w9 ⟨ea, en2, ec, rfl, hwr, hb⟩
           have HB9 := Lib.hid (HB8.out.trans (hb.mono HB8.out.size))
           have HX9 := Lib.hid (HX8.out.on hb)
           have HF9 := Lib.hid (HF8.out.on hb)
           have HQ9 := Lib.hid (HQ8.out.keep hb)
           have HWR := Lib.hid hwr
           clear hb hwr HB8 HX8 HF8 HQ8 HDR
           have g1 := HX9.out.free 1
           have y1 := HX9.out.c1
           go_upto_region 17 with fail
           obtain ⟨Wa, hWa⟩ : ∃ y, y = w9.setCell ⟨F, 1, none⟩ (.slice ea en2 ec) := ⟨_, rfl⟩
           have HXa : Hid (FBox Wa F (.slice (some ⟨gb, go2, none⟩) nn qc) (.slice ea en2 ec) nx st) := by show FBox _ _ _ _ _ _; rw [hWa]; exact HX9.out.s1 _
           have HFa : Hid (FBox Wa R (.slice none 0 0) (.slice none 0 0) 0 0) := by show FBox _ _ _ _ _ _; rw [hWa]; exact HF9.out.off HFR.out _
           have HBa : Hid (Below w.heap.size w Wa) := by show Below _ _ _; rw [hWa]; exact HB9.out.setCell HFW.out _
           have HQa : Hid (RowAt gtK Wa (some ⟨gb, go2, none⟩) nn qc (rs.take nn)) := by show RowAt _ _ _ _ _ _; rw [hWa]; exact HQ9.out.off (fun a ha => (HFAR.out a ha).1) _ _
           have HWa : Hid (RowAt drK Wa ea en2 ec (withinD (foldR [] (bats ms)) o nx)) := by show RowAt _ _ _ _ _ _; rw [hWa]; exact dr_past HWR.out HX9.out _ _
           rw [← hWa]
           clear hWa HX9 HF9 HB9 HQ9 HWR g1 y1
           have y0 := HXa.out.c0
           have y1 := HXa.out.c1
           have y2 := HXa.out.c2
           have y3 := HXa.out.c3
           have z0 := HFa.out.c0
           have g0 := HFa.out.free 0
           have z1 := HFa.out.c1
           have g1 := HFa.out.free 1
           have z2 := HFa.out.c2
           have g2 := HFa.out.free 2
           have z3 := HFa.out.c3
           have g3 := HFa.out.free 3
           have HZ : Hid (FBox ((((Wa.setCell ⟨R, 0, none⟩ (.slice (some ⟨gb, go2, none⟩) nn qc)).setCell ⟨R, 1, none⟩ (.slice ea en2 ec)).setCell ⟨R, 2, none⟩ (.int .i64 nx)).setCell ⟨R, 3, none⟩ (.int .i64 st)) R (.slice (some ⟨gb, go2, none⟩) nn qc) (.slice ea en2 ec) nx st) := (((HFa.out.s0 _).s1 _).s2 _).s3 _
           have HZB : Hid (Below w.heap.size w ((((Wa.setCell ⟨R, 0, none⟩ (.slice (some ⟨gb, go2, none⟩) nn qc)).setCell ⟨R, 1, none⟩ (.slice ea en2 ec)).setCell ⟨R, 2, none⟩ (.int .i64 nx)).setCell ⟨R, 3, none⟩ (.int .i64 st))) := (((HBa.out.setCell HRW.out _).setCell HRW.out _).setCell HRW.out _).setCell HRW.out _
           have hfq : ∀ a : Addr, (some ⟨gb, go2, none⟩ : Option Addr) = some a → a.block ≠ R := fun a ha => (HFAR.out a ha).2
           have HZQ : Hid (RowAt gtK ((((Wa.setCell ⟨R, 0, none⟩ (.slice (some ⟨gb, go2, none⟩) nn qc)).setCell ⟨R, 1, none⟩ (.slice ea en2 ec)).setCell ⟨R, 2, none⟩ (.int .i64 nx)).setCell ⟨R, 3, none⟩ (.int .i64 st)) (some ⟨gb, go2, none⟩) nn qc (rs.take nn)) := (((HQa.out.off hfq _ _).off hfq _ _).off hfq _ _).off hfq _ _
           have HZW : Hid (RowAt drK ((((Wa.setCell ⟨R, 0, none⟩ (.slice (some ⟨gb, go2, none⟩) nn qc)).setCell ⟨R, 1, none⟩ (.slice ea en2 ec)).setCell ⟨R, 2, none⟩ (.int .i64 nx)).setCell ⟨R, 3, none⟩ (.int .i64 st)) ea en2 ec (withinD (foldR [] (bats ms)) o nx)) := dr_past (dr_past (dr_past (dr_past HWa.out HFa.out _ _) (HFa.out.s0 _) _ _) ((HFa.out.s0 _).s1 _) _ _) (((HFa.out.s0 _).s1 _).s2 _) _ _
           clear hfq
           have HVV : Hid (fetchD start (bats ms) o (nn : Int) true = (⟨rs.take nn, withinD (foldR [] (bats ms)) o nx, nx, st⟩, 0)) := by
            show fetchD _ _ _ _ _ = _
            unfold fetchD
            rw [if_neg HNR.out.1, ← HEN.out, if_neg HNR.out.2, ← HST.out]
            simp only [Int.toNat_natCast, if_true]
            rw [← HRS.out, ← HNX.out]
           go_wp2
           refine bodyPost_ret (v := .tuple #[.agg #[.slice (some ⟨gb, go2, none⟩) nn qc, .slice ea en2 ec, .int .i64 nx, .int .i64 st], .int .i64 0]) (resultsRefFetch HZ.out rfl rfl) rfl ?_
           rw [HVV.out]
           exact ⟨_, rfl, ⟨some ⟨gb, go2, none⟩, nn, qc, ea, en2, ec, rfl, HZQ.out, HZW.out⟩, HZB.out⟩
         · have hdq : decide (nn ≤ qn) = false := decide_eq_false hq
           have hdqi : decide ((nn : Int) ≤ (qn : Int)) = false := decide_eq_false (by omega)
           have HNX : Hid (mv = nextD rs nn st o) := by show _ = _; rw [HMV.out, HMX.out, next_none (by rw [HQN.out]; omega)]
           have HQT : Hid (RowAt gtK W6 qa qn qc (rs.take nn)) := by show RowAt _ _ _ _ _ _; rw [List.take_of_length_le (by rw [HQN.out]; omega)]; exact HQ6.out
           clear hq HQ6
           go_wp2_with fail
           (try clear x0)
           refine (fold_any W6 ad len cap ms (H.out.keep HB6.out) (Nat.le_trans HLL.out (by decide)) (batsOk_of HR.out.ok)).mono ?_
           rintro e w8 ⟨kt, ta, tn, tc, ps, dd, dn, dc, rfl, -, -, hdr, -, hb⟩
           have HB8 := Lib.hid (HB6.out.trans (hb.mono HB6.out.size))
           have HX8 := Lib.hid (HX6.out.on hb)
           have HF8 := Lib.hid (HF6.out.on hb)
           have HQ8 := Lib.hid (HQT.out.keep hb)
           have HDR := Lib.hid hdr
           have HDN : Hid (dn ≤ 1000000) := by
            show _ ≤ _
            have h5 := AbMath.drops_len (bats ms) []
            have h6 : (bats ms).length = len := by unfold bats; rw [List.length_map]; exact H.out.row.length
            have h7 := hdr.length
            have h8 := HLL.out
            rw [h6] at h5
            (try simp only [List.length_nil] at h5)
            omega
           clear hb hdr HB6 HX6 HF6 HQT
           have x2 := HX8.out.c2
           go_wp2_with fail
           clear x2
           refine (refWithin_any w8 dd dn dc _ HDR.out HDN.out o mv).mono ?_
           rintro e w9 ⟨ea, en2, ec, rfl, hwr, hb⟩
           have HB9 := Lib.hid (HB8.out.trans (hb.mono HB8.out.size))
           have HX9 := Lib.hid (HX8.out.on hb)
           have HF9 := Lib.hid (HF8.out.on hb)
           have HQ9 := Lib.hid (HQ8.out.keep hb)
           have HWR := Lib.hid hwr
           clear hb hwr HB8 HX8 HF8 HQ8 HDR
           have g1 := HX9.out.free 1
           have y1 := HX9.out.c1
           go_upto_region 17 with fail
           obtain ⟨Wa, hWa⟩ : ∃ y, y = w9.setCell ⟨F, 1, none⟩ (.slice ea en2 ec) := ⟨_, rfl⟩
           have HXa : Hid (FBox Wa F (.slice qa qn qc) (.slice ea en2 ec) mv st) := by show FBox _ _ _ _ _ _; rw [hWa]; exact HX9.out.s1 _
           have HFa : Hid (FBox Wa R (.slice none 0 0) (.slice none 0 0) 0 0) := by show FBox _ _ _ _ _ _; rw [hWa]; exact HF9.out.off HFR.out _
           have HBa : Hid (Below w.heap.size w Wa) := by show Below _ _ _; rw [hWa]; exact HB9.out.setCell HFW.out _
           have HQa : Hid (RowAt gtK Wa qa qn qc (rs.take nn)) := by show RowAt _ _ _ _ _ _; rw [hWa]; exact HQ9.out.off (fun a ha => (HFAR.out a ha).1) _ _
           have HWa : Hid (RowAt drK Wa ea en2 ec (withinD (foldR [] (bats ms)) o mv)) := by show RowAt _ _ _ _ _ _; rw [hWa]; exact dr_past HWR.out HX9.out _ _
           rw [← hWa]
           clear hWa HX9 HF9 HB9 HQ9 HWR g1 y1
           have y0 := HXa.out.c0
           have y1 := HXa.out.c1
           have y2 := HXa.out.c2
           have y3 := HXa.out.c3
           have z0 := HFa.out.c0
           have g0 := HFa.out.free 0
           have z1 := HFa.out.c1
           have g1 := HFa.out.free 1
           have z2 := HFa.out.c2
           have g2 := HFa.out.free 2
           have z3 := HFa.out.c3
           have g3 := HFa.out.free 3
           have HZ : Hid (FBox ((((Wa.setCell ⟨R, 0, none⟩ (.slice qa qn qc)).setCell ⟨R, 1, none⟩ (.slice ea en2 ec)).setCell ⟨R, 2, none⟩ (.int .i64 mv)).setCell ⟨R, 3, none⟩ (.int .i64 st)) R (.slice qa qn qc) (.slice ea en2 ec) mv st) := (((HFa.out.s0 _).s1 _).s2 _).s3 _
           have HZB : Hid (Below w.heap.size w ((((Wa.setCell ⟨R, 0, none⟩ (.slice qa qn qc)).setCell ⟨R, 1, none⟩ (.slice ea en2 ec)).setCell ⟨R, 2, none⟩ (.int .i64 mv)).setCell ⟨R, 3, none⟩ (.int .i64 st))) := (((HBa.out.setCell HRW.out _).setCell HRW.out _).setCell HRW.out _).setCell HRW.out _
           have hfq : ∀ a, qa = some a → a.block ≠ R := fun a ha => (HFAR.out a ha).2
           have HZQ : Hid (RowAt gtK ((((Wa.setCell ⟨R, 0, none⟩ (.slice qa qn qc)).setCell ⟨R, 1, none⟩ (.slice ea en2 ec)).setCell ⟨R, 2, none⟩ (.int .i64 mv)).setCell ⟨R, 3, none⟩ (.int .i64 st)) qa qn qc (rs.take nn)) := (((HQa.out.off hfq _ _).off hfq _ _).off hfq _ _).off hfq _ _
           have HZW : Hid (RowAt drK ((((Wa.setCell ⟨R, 0, none⟩ (.slice qa qn qc)).setCell ⟨R, 1, none⟩ (.slice ea en2 ec)).setCell ⟨R, 2, none⟩ (.int .i64 mv)).setCell ⟨R, 3, none⟩ (.int .i64 st)) ea en2 ec (withinD (foldR [] (bats ms)) o mv)) := dr_past (dr_past (dr_past (dr_past HWa.out HFa.out _ _) (HFa.out.s0 _) _ _) ((HFa.out.s0 _).s1 _) _ _) (((HFa.out.s0 _).s1 _).s2 _) _ _
           clear hfq
           have HVV : Hid (fetchD start (bats ms) o (nn : Int) true = (⟨rs.take nn, withinD (foldR [] (bats ms)) o mv, mv, st⟩, 0)) := by
            show fetchD _ _ _ _ _ = _
            unfold fetchD
            rw [if_neg HNR.out.1, ← HEN.out, if_neg HNR.out.2, ← HST.out]
            simp only [Int.toNat_natCast, if_true]
            rw [← HRS.out, ← HNX.out]
           go_wp2
           refine bodyPost_ret (v := .tuple #[.agg #[.slice qa qn qc, .slice ea en2 ec, .int .i64 mv, .int .i64 st], .int .i64 0]) (resultsRefFetch HZ.out rfl rfl) rfl ?_
           rw [HVV.out]
           exact ⟨_, rfl, ⟨qa, qn, qc, ea, en2, ec, rfl, HZQ.out, HZW.out⟩, HZB.out⟩
end Go.Proofs.Ytipaebflkebdjaa
namespace Go.Proofs.Ytipaebflkebdjaa
open Go.RowKit
open Go.FoMath
open Go.ProdMath
open Go.BatMath hiding AllB getD_lt take_all
set_option linter.unusedVariables false

theorem drSame3_any (w : World) (a1 a2 : Option Addr) (n1 n2 c1 c2 : Nat) (l : List Dr) (h1 : RowAt drK w a1 n1 c1 l) (h2 : RowAt drK w a2 n2 c2 l) (hl : l.length ≤ 1000000) :
 Calls Try.prog 50 #[.slice a1 n1 c1, .slice a2 n2 c2] w (GivesBool w true) := by
 obtain rfl : n1 = n2 := h1.length.symm.trans h2.length
 exact drSame_any w a1 a2 n1 c1 c2 l h1 h2 (by rw [← h1.length]; exact hl)
set_option maxRecDepth 100000 in
set_option maxHeartbeats 4000000 in
theorem refFetches_any (w : World) (f : Fd) (va vb : Value) (h1 : FdAt w va f) (h2 : FdAt w vb f) (hl : f.recs.length ≤ 1000000) (hd : f.drs.length ≤ 1000000) :
 Calls Try.prog 31 #[va, vb] w (GivesBool w true) := by
 obtain ⟨ra, rn, rc, da, dn, dc, rfl, hr1, hd1⟩ := h1
 obtain ⟨qa, qn, qc, ea, en, ec, rfl, hr2, hd2⟩ := h2
 have HL := Lib.hid hl
 have HD := Lib.hid hd
 have HR1 := Lib.hid hr1
 have HR2 := Lib.hid hr2
 have HD1 := Lib.hid hd1
 have HD2 := Lib.hid hd2
 obtain ⟨rs, ds, nx, st⟩ := f
 simp only at HL HD HR1 HR2 HD1 HD2
 clear hl hd hr1 hr2 hd1 hd2
 simp only
 go_enter Try.func31, Try.ntmps31
 go_upto_region 1 with fail
 obtain ⟨W0, hW0⟩ : ∃ z, z = (w.alloc (.cells #[.slice ra rn rc, .slice da dn dc, .int .i64 nx, .int .i64 st] 34)).alloc (.cells #[.slice qa qn qc, .slice ea en ec, .int .i64 nx, .int .i64 st] 34) := ⟨_, rfl⟩
 have HB0 : Hid (Below w.heap.size w W0) := by show Below _ _ _; rw [hW0]; exact ((Below.refl _ _).alloc (Nat.le_refl _) _).alloc (by simp) _
 obtain ⟨A, hA⟩ : ∃ z, z = w.heap.size := ⟨_, rfl⟩
 obtain ⟨B, hB⟩ : ∃ z, z = w.heap.size + 1 := ⟨_, rfl⟩
 have HA0 : Hid (FBox W0 A (.slice ra rn rc) (.slice da dn dc) nx st) := by
  show FBox _ _ _ _ _ _
  rw [hW0, hA]
  exact (fbox_new w _ _ _ _).on ((Below.refl _ _).alloc (Nat.le_refl _) _)
 have HX0 : Hid (FBox W0 B (.slice qa qn qc) (.slice ea en ec) nx st) := by
  show FBox _ _ _ _ _ _
  rw [hW0, hB]
  have := fbox_new (w.alloc (.cells #[.slice ra rn rc, .slice da dn dc, .int .i64 nx, .int .i64 st] 34)) (.slice qa qn qc) (.slice ea en ec) nx st
  simpa using this
 (try rw [← hW0, ← hB, ← hA])
 clear hW0 hA hB
 have a0 := HA0.out.c0
 have b0 := HX0.out.c0
 go_wp2_with fail
 clear a0 b0
 refine (refGots_any W0 ra qa rn qn rc qc rs (HR1.out.keep HB0.out) (HR2.out.keep HB0.out) HL.out).mono ?_
 rintro e w1 ⟨rfl, hb⟩
 have HB1 := Lib.hid (HB0.out.trans (hb.mono HB0.out.size))
 have HA1 := Lib.hid (HA0.out.on hb)
 have HX1 := Lib.hid (HX0.out.on hb)
 clear hb HB0 HA0 HX0
 have a1 := HA1.out.c1
 have b1 := HX1.out.c1
 go_wp2_with fail
 clear a1 b1
 refine (drSame3_any w1 da ea dn en dc ec ds (HD1.out.keep HB1.out) (HD2.out.keep HB1.out) HD.out).mono ?_
 rintro e w2 ⟨rfl, hb⟩
 have HB2 := Lib.hid (HB1.out.trans (hb.mono HB1.out.size))
 have HA2 := Lib.hid (HA1.out.on hb)
 have HX2 := Lib.hid (HX1.out.on hb)
 clear hb HB1 HA1 HX1
 have a2 := HA2.out.c2
 have b2 := HX2.out.c2
 have a3 := HA2.out.c3
 have b3 := HX2.out.c3
 have hn : (nx == nx) = true := beq_self_eq_true nx
 have hs : (st == st) = true := beq_self_eq_true st
 go_wp2
 go_ret
 exact ⟨rfl, HB2.out⟩
end Go.Proofs.Ytipaebflkebdjaa
namespace Go.Proofs.Ytipaebflkebdjaa
open Go.RowKit
open Go.FoMath
open Go.ProdMath
open Go.BatMath hiding AllB getD_lt take_all
set_option linter.unusedVariables false

/-- It belongs to one of those that were aborted. -/
def hitB (g : Gt) (d : Dr) : Bool := decide (g.prod ≠ -1 ∧ d.prod = g.prod ∧ d.first ≤ g.off ∧ g.off ≤ d.last)
def deliverD (l : List Gt) (ds : List Dr) : List Gt := l.filter fun g => !(ds.any (hitB g))
theorem deliver_take {l : List Gt} {ds : List Dr} {j : Nat} {g : Gt} (h : l[j]? = some g) : deliverD (l.take (j + 1)) ds = deliverD (l.take j) ds ++ (if ds.any (hitB g) = true then [] else [g]) := by
 unfold deliverD
 rw [List.take_add_one, h, List.filter_append]
 congr 1
 cases hh : ds.any (hitB g) <;> simp [hh]
theorem any_take {ds : List Dr} {p : Dr → Bool} {i : Nat} {d : Dr} (h : ds[i]? = some d) : (ds.take (i + 1)).any p = ((ds.take i).any p || p d) := by
 rw [List.take_add_one, h, List.any_append]
 simp
set_option maxRecDepth 100000 in
set_option maxHeartbeats 8000000 in
theorem refDeliver_any (w : World) (f : Fd) (v : Value) (h : FdAt w v f) (hl : f.recs.length ≤ 100000) (hd : f.drs.length ≤ 140737488355328) :
 Calls Try.prog 16 #[v] w (GivesGots w (deliverD f.recs f.drs)) := by
 obtain ⟨ra, rn, rc, da, dn, dc, rfl, hr1, hd1⟩ := h
 obtain ⟨rs, ds, nx, st⟩ := f
 simp only at hr1 hd1 hl hd
 simp only
 have HR := Lib.hid hr1
 have HD := Lib.hid hd1
 have hrl : rs.length = rn := hr1.length
 have hdl : ds.length = dn := hd1.length
 have hrb : rn ≤ 100000 := by omega
 have hdb : dn ≤ 140737488355328 := by omega
 have HRL := Lib.hid hrl
 have HDL := Lib.hid hdl
 clear hr1 hd1 hl hd hrl hdl
 go_enter Try.func16, Try.ntmps16
 go_upto_region 1 with fail
 obtain ⟨W0, hW0⟩ : ∃ z, z = w.alloc (.cells #[.slice ra rn rc, .slice da dn dc, .int .i64 nx, .int .i64 st] 34) := ⟨_, rfl⟩
 obtain ⟨F, hF⟩ : ∃ z, z = w.heap.size := ⟨_, rfl⟩
 have HX0 : Hid (FBox W0 F (.slice ra rn rc) (.slice da dn dc) nx st) := by show FBox _ _ _ _ _ _; rw [hW0, hF]; exact fbox_new w _ _ _ _
 have HB0 : Hid (Below w.heap.size w W0) := by show Below _ _ _; rw [hW0]; exact (Below.refl _ _).alloc (Nat.le_refl _) _
 have HWF : Hid (w.heap.size ≤ F) := by show _ ≤ _; rw [hF]; exact Nat.le_refl _
 (try rw [← hW0, ← hF])
 clear hW0 hF
 have x0 := HX0.out.c0
 go_wp2
 clear x0
 go_loopw [3, 12] (fun v3 v12 wr => ∃ (j : Nat) (u : Value), u = v3 ∧ v12 = .int .i64 (j : Int) ∧ j ≤ rn ∧ Hid (OwnRow gtK wr w.heap.size u (deliverD (rs.take j) ds)) ∧ Hid (∀ q, u.ownBlock = some q → q ≠ F) ∧ Hid (FBox wr F (.slice ra rn rc) (.slice da dn dc) nx st) ∧ Hid (Below w.heap.size w wr)) (fun _ v12 _ => rn - (intOf v12).toNat)
 case atStart => exact ⟨0, _, rfl, rfl, Nat.zero_le _, ownRow_nil _ _ _, (fun q hq => by cases hq), HX0.out, HB0.out⟩
 case round =>
  obtain ⟨j, u, rfl, rfl, hj, HO, HNF, HX, HB⟩ := hrel
  clear HX0 HB0
  obtain ⟨wo, hwo⟩ : ∃ wo : World, wo = wr := ⟨_, rfl⟩
  subst hwo
  by_cases hlt : j < rn
  · have hdj : decide (j < rn) = true := decide_eq_true hlt
    have hjl : (j : Int) < (rn : Int) := by omega
    obtain ⟨bk, off, g, el, hbk, hg, hga⟩ := gt_get (HR.out.keep HB.out) hlt
    subst el
    have HT := Lib.hid (deliver_take (ds := ds) hg)
    have HLEN : Hid ((deliverD (rs.take j) ds).length ≤ 100000) := by
     show _ ≤ _
     have h1 := List.length_filter_le (fun g => !(ds.any (hitB g))) (rs.take j)
     rw [List.length_take] at h1
     unfold deliverD
     omega
    obtain ⟨go0, gp, gk, gv⟩ := g
    have k0 := hga.c0
    have k1 := hga.c1
    have k2 := hga.c2
    have k3 := hga.c3
    simp only at k0 k1 k2 k3
    clear hg hga hbk
    go_upto_region 5 with fail
    obtain ⟨W1, hW1⟩ : ∃ y, y = wo.alloc (.cells #[.int .i64 go0, .int .i64 gp, .string gk, .string gv] 61) := ⟨_, rfl⟩
    obtain ⟨G, hG⟩ : ∃ y, y = wo.heap.size := ⟨_, rfl⟩
    have hb1 : Below wo.heap.size wo W1 := by rw [hW1]; exact (Below.refl _ _).alloc (Nat.le_refl _) _
    have HG1 : Hid (W1.heap[G]? = some (.cells #[.int .i64 go0, .int .i64 gp, .string gk, .string gv] 61 (0, 0))) := by show _ = _; rw [hW1, hG]; exact heap_alloc_new wo _
    have HX1 := Lib.hid (HX.out.on hb1)
    have HO1 := Lib.hid (HO.out.on hb1)
    have HB1 := Lib.hid (HB.out.trans (hb1.mono HB.out.size))
    have HGW : Hid (w.heap.size ≤ G) := by show _ ≤ _; rw [hG]; exact HB.out.size
    have HGU : Hid (∀ q, u.ownBlock = some q → q < G) := fun q hq => by rw [hG]; exact (HO.out.lt q hq).2
    (try rw [← hW1, ← hG])
    clear hW1 hG hb1 HX HO HB k0 k1 k2 k3
    have x1 := HX1.out.c1
    go_wp2
    clear x1
    go_loopw [6, 19] (fun v6 v19 wr => ∃ (i : Nat) (b : Bool), v6 = .bool b ∧ v19 = .int .i64 (i : Int) ∧ i ≤ dn ∧ Hid ((ds.take i).any (hitB ⟨go0, gp, gk, gv⟩) = b) ∧ Hid (Below W1.heap.size W1 wr)) (fun _ v19 _ => dn - (intOf v19).toNat)
    case atStart => exact ⟨0, false, rfl, rfl, Nat.zero_le _, rfl, Below.refl _ _⟩
    case round =>
     obtain ⟨i, b, rfl, rfl, hi, HAN, HBB⟩ := hrel
     obtain ⟨wi, hwi⟩ : ∃ wi : World, wi = wr := ⟨_, rfl⟩
     subst hwi
     by_cases hit : i < dn
     · have hdi : decide (i < dn) = true := decide_eq_true hit
       have hil : (i : Int) < (dn : Int) := by omega
       obtain ⟨db, doff, d, el, hdbk, hds, p0, p1, p2⟩ := dr_get (HD.out.keep (HB1.out.trans (HBB.out.mono HB1.out.size))) hit
       subst el
       have HAT := Lib.hid (any_take (p := hitB ⟨go0, gp, gk, gv⟩) hds)
       obtain ⟨d0, d1, d2⟩ := d
       simp only at p0 p1 p2
       clear hds hdbk
       go_upto_region 9 with fail
       obtain ⟨W2, hW2⟩ : ∃ y, y = wi.alloc (.cells #[.int .i64 d0, .int .i64 d1, .int .i64 d2] 79) := ⟨_, rfl⟩
       obtain ⟨D, hD⟩ : ∃ y, y = wi.heap.size := ⟨_, rfl⟩
       have hb2 : Below wi.heap.size wi W2 := by rw [hW2]; exact (Below.refl _ _).alloc (Nat.le_refl _) _
       have HD2 : Hid (DBox W2 D ⟨d0, d1, d2⟩) := by show DBox _ _ _; rw [hW2, hD]; exact dbox_new wi ⟨d0, d1, d2⟩
       have HB2 : Hid (Below W1.heap.size W1 W2) := HBB.out.trans (hb2.mono HBB.out.size)
       (try rw [← hW2, ← hD])
       clear hW2 hD hb2 p0 p1 p2 HBB
       have hgb : W2.heap[G]? = some (.cells #[.int .i64 go0, .int .i64 gp, .string gk, .string gv] 61 (0, 0)) := by rw [HB2.out.block G (lt_of_block HG1.out)]; exact HG1.out
       have e0 : W2.cell? ⟨G, 0, none⟩ = some (.int .i64 go0) := by rw [cell_of_row _ _ 0 _ _ _ hgb]; rfl
       have e1 : W2.cell? ⟨G, 1, none⟩ = some (.int .i64 gp) := by rw [cell_of_row _ _ 1 _ _ _ hgb]; rfl
       have q0 := HD2.out.c0
       have q1 := HD2.out.c1
       have q2 := HD2.out.c2
       clear hgb
       cases b with
       | true =>
         have HN : Hid ((ds.take (i + 1)).any (hitB ⟨go0, gp, gk, gv⟩) = true) := by show _ = _; rw [HAT.out, HAN.out]; rfl
         clear HAT HAN
         go_wp2
         go_roundw
         case rel => exact ⟨i + 1, true, rfl, rfl, hit, HN.out, HB2.out⟩
         case measure => simp [intOf]; omega
       | false =>
         have hcs : gp = -1 ∨ (gp ≠ -1 ∧ d0 ≠ gp) ∨ (gp ≠ -1 ∧ d0 = gp ∧ ¬ d1 ≤ go0) ∨ (gp ≠ -1 ∧ d0 = gp ∧ d1 ≤ go0 ∧ ¬ go0 ≤ d2) ∨ (gp ≠ -1 ∧ d0 = gp ∧ d1 ≤ go0 ∧ go0 ≤ d2) := by omega
         rcases hcs with h1 | ⟨h1, h2⟩ | ⟨h1, h2, h3⟩ | ⟨h1, h2, h3, h4⟩ | ⟨h1, h2, h3, h4⟩
         · have t1 : (gp == -1) = true := by rw [h1]; rfl
           have t1n : (gp != -1) = false := by rw [h1]; rfl
           have HN : Hid ((ds.take (i + 1)).any (hitB ⟨go0, gp, gk, gv⟩) = false) := by show _ = _; rw [HAT.out, HAN.out]; exact decide_eq_false (fun h => h.1 h1)
           clear HAT HAN h1
           go_wp2
           go_roundw
           case rel => exact ⟨i + 1, false, rfl, rfl, hit, HN.out, HB2.out⟩
           case measure => simp [intOf]; omega
         · have t1 : (gp == -1) = false := beq_false_of_ne h1
           have t1n : (gp != -1) = true := by simp [h1]
           have t2 : (d0 == gp) = false := beq_false_of_ne h2
           have HN : Hid ((ds.take (i + 1)).any (hitB ⟨go0, gp, gk, gv⟩) = false) := by show _ = _; rw [HAT.out, HAN.out]; exact decide_eq_false (fun h => h2 h.2.1)
           clear HAT HAN h1 h2
           go_wp2
           go_roundw
           case rel => exact ⟨i + 1, false, rfl, rfl, hit, HN.out, HB2.out⟩
           case measure => simp [intOf]; omega
         · have t1 : (gp == -1) = false := beq_false_of_ne h1
           have t1n : (gp != -1) = true := by simp [h1]
           have t2 : (d0 == gp) = true := by rw [h2]; exact beq_self_eq_true gp
           have t3 : decide (d1 ≤ go0) = false := decide_eq_false h3
           have HN : Hid ((ds.take (i + 1)).any (hitB ⟨go0, gp, gk, gv⟩) = false) := by show _ = _; rw [HAT.out, HAN.out]; exact decide_eq_false (fun h => h3 h.2.2.1)
           clear HAT HAN h1 h2 h3
           go_wp2
           go_roundw
           case rel => exact ⟨i + 1, false, rfl, rfl, hit, HN.out, HB2.out⟩
           case measure => simp [intOf]; omega
         · have t1 : (gp == -1) = false := beq_false_of_ne h1
           have t1n : (gp != -1) = true := by simp [h1]
           have t2 : (d0 == gp) = true := by rw [h2]; exact beq_self_eq_true gp
           have t3 : decide (d1 ≤ go0) = true := decide_eq_true h3
           have t4 : decide (go0 ≤ d2) = false := decide_eq_false h4
           have HN : Hid ((ds.take (i + 1)).any (hitB ⟨go0, gp, gk, gv⟩) = false) := by show _ = _; rw [HAT.out, HAN.out]; exact decide_eq_false (fun h => h4 h.2.2.2)
           clear HAT HAN h1 h2 h3 h4
           go_wp2
           go_roundw
           case rel => exact ⟨i + 1, false, rfl, rfl, hit, HN.out, HB2.out⟩
           case measure => simp [intOf]; omega
         · have t1 : (gp == -1) = false := beq_false_of_ne h1
           have t1n : (gp != -1) = true := by simp [h1]
           have t2 : (d0 == gp) = true := by rw [h2]; exact beq_self_eq_true gp
           have t3 : decide (d1 ≤ go0) = true := decide_eq_true h3
           have t4 : decide (go0 ≤ d2) = true := decide_eq_true h4
           have HN : Hid ((ds.take (i + 1)).any (hitB ⟨go0, gp, gk, gv⟩) = true) := by show _ = _; rw [HAT.out, HAN.out]; exact decide_eq_true ⟨h1, h2, h3, h4⟩
           clear HAT HAN h1 h2 h3 h4
           go_wp2
           go_roundw
           case rel => exact ⟨i + 1, true, rfl, rfl, hit, HN.out, HB2.out⟩
           case measure => simp [intOf]; omega
     · have hdi : decide (i < dn) = false := decide_eq_false hit
       have hin : i = dn := by omega
       have HALL : Hid (ds.any (hitB ⟨go0, gp, gk, gv⟩) = b) := by
        have h1 := HAN.out
        rw [hin, ← HDL.out, List.take_length] at h1
        exact h1
       have HO2 := Lib.hid (HO1.out.on HBB.out)
       have HX2 := Lib.hid (HX1.out.on HBB.out)
       have HB2 := Lib.hid (HB1.out.trans (HBB.out.mono HB1.out.size))
       have hgb : wi.heap[G]? = some (.cells #[.int .i64 go0, .int .i64 gp, .string gk, .string gv] 61 (0, 0)) := by rw [HBB.out.block G (lt_of_block HG1.out)]; exact HG1.out
       have e0 : wi.cell? ⟨G, 0, none⟩ = some (.int .i64 go0) := by rw [cell_of_row _ _ 0 _ _ _ hgb]; rfl
       have e1 : wi.cell? ⟨G, 1, none⟩ = some (.int .i64 gp) := by rw [cell_of_row _ _ 1 _ _ _ hgb]; rfl
       have e2 : wi.cell? ⟨G, 2, none⟩ = some (.string gk) := by rw [cell_of_row _ _ 2 _ _ _ hgb]; rfl
       have e3 : wi.cell? ⟨G, 3, none⟩ = some (.string gv) := by rw [cell_of_row _ _ 3 _ _ _ hgb]; rfl
       clear hgb hin HAN HBB HO1 HX1 HB1
       cases b with
       | true =>
         have HO3 : Hid (OwnRow gtK wi w.heap.size u (deliverD (rs.take (j + 1)) ds)) := by show OwnRow _ _ _ _ _; rw [HT.out, if_pos HALL.out, List.append_nil]; exact HO2.out
         clear HO2 HT HALL
         go_wp2
         go_roundw
         case rel => exact ⟨j + 1, u, rfl, rfl, hlt, HO3.out, HNF.out, HX2.out, HB2.out⟩
         case measure => simp [intOf]; omega
       | false =>
         have HT2 : Hid (deliverD (rs.take (j + 1)) ds = deliverD (rs.take j) ds ++ [⟨go0, gp, gk, gv⟩]) := by show _ = _; rw [HT.out, if_neg (by rw [HALL.out]; decide)]
         clear HT HALL
         obtain ⟨W3, hW3⟩ : ∃ y, y = wi.alloc (.cells #[.int .i64 go0, .int .i64 gp, .string gk, .string gv] 61) := ⟨_, rfl⟩
         have hb3 : Below wi.heap.size wi W3 := by rw [hW3]; exact (Below.refl _ _).alloc (Nat.le_refl _) _
         have HLIT : Hid (RowAt gtK W3 (some ⟨wi.heap.size, 0, none⟩) 1 1 [⟨go0, gp, ⟨gk, gv⟩⟩]) := by
          show RowAt _ _ _ _ _ _
          rw [hW3]
          exact rowAt_lit gtK_ok wi [⟨go0, gp, ⟨gk, gv⟩⟩] (by simp) _ rfl 1 rfl
         have HX3 := Lib.hid (HX2.out.on hb3)
         have HO3 := Lib.hid (HO2.out.on hb3)
         have HB3 := Lib.hid (HB2.out.trans (hb3.mono HB2.out.size))
         have HW3 := Lib.hid hW3
         clear hb3 hW3
         go_wp2_with (at_builtin; rw [← HW3.out]; refine list_row (by rfl) gtK_ok (.tmp 53) (.tmp 55) rfl w.heap.size (deliverD (rs.take j) ds) [⟨go0, gp, ⟨gk, gv⟩⟩] u rfl HO3.out HB3.out.size (some ⟨wi.heap.size, 0, none⟩) 1 1 rfl HLIT.out (by have := HLEN.out; omega) ?_)
         intro v4 w4 hap
         have HO4 : Hid (OwnRow gtK w4 w.heap.size v4 (deliverD (rs.take (j + 1)) ds)) := by show OwnRow _ _ _ _ _; rw [HT2.out]; exact hap.1
         have HX4 : Hid (FBox w4 F (.slice (some ⟨bk, off, none⟩) rn rc) (.slice da dn dc) nx st) := (hap.2.1.block F HX3.out.lt (fun e => HNF.out F e.symm rfl)).trans HX3.out
         have HN4 : Hid (∀ q, v4.ownBlock = some q → q ≠ F) := fun q hq => by
          rcases hap.2.2.2 q hq with h1 | h1
          · exact HNF.out q h1
          · have := HX3.out.lt; omega
         have HB4 : Hid (Below w.heap.size w w4) := HB3.out.grown hap.2.1 HB3.out.size (fun q hq => (HO3.out.lt q hq).1)
         clear hap HO3 HX3 HB3 HLIT HW3 HO2 HX2 HB2 e0 e1 e2 e3 HT2
         go_wp2
         go_roundw
         case rel => exact ⟨j + 1, v4, rfl, rfl, hlt, HO4.out, HN4.out, HX4.out, HB4.out⟩
         case measure => simp [intOf]; omega
  · have hdj : decide (j < rn) = false := decide_eq_false hlt
    have hjn : j = rn := by omega
    have HFIN : Hid (OwnRow gtK wo w.heap.size u (deliverD rs ds)) := by
     have h1 := HO.out
     rw [hjn, ← HRL.out, List.take_length] at h1
     exact h1
    clear hjn
    go_wp2
    go_ret
    obtain ⟨ad, cap, hv, hr, hk⟩ := OwnRow.at gtK_ok HFIN.out
    exact ⟨ad, _, cap, congrArg Ending.returned hv, hr, hk, HB.out⟩
end Go.Proofs.Ytipaebflkebdjaa
namespace Go.Proofs.Ytipaebflkebdjaa
open Go.RowKit
open Go.FoMath
open Go.ProdMath
open Go.BatMath hiding AllB getD_lt take_all
set_option linter.unusedVariables false

def GivesB (w : World) (b : Bool) (e : Ending) (w' : World) : Prop := e = .returned (.bool b) ∧ Below w.heap.size w w'
set_option maxRecDepth 100000 in
set_option maxHeartbeats 4000000 in
theorem fcDropped_any (w : World) (g : Gt) (da : Option Addr) (dn dc : Nat) (ds : List Dr) (h : RowAt drK w da dn dc ds) (hdb : dn ≤ 140737488355328) :
 Calls Try.prog 34 #[.agg #[.int .i64 g.off, .int .i64 g.prod, .string g.rc.key, .string g.rc.val], .slice da dn dc] w (GivesB w (ds.any (hitB g))) := by
 obtain ⟨go0, gp, gk, gv⟩ := g
 simp only
 have HD := Lib.hid h
 have HDL := Lib.hid h.length
 clear h
 go_enter Try.func34, Try.ntmps34
 go_upto_region 1 with fail
 obtain ⟨W1, hW1⟩ : ∃ y, y = w.alloc (.cells #[.int .i64 go0, .int .i64 gp, .string gk, .string gv] 61) := ⟨_, rfl⟩
 obtain ⟨G, hG⟩ : ∃ y, y = w.heap.size := ⟨_, rfl⟩
 have HB1 : Hid (Below w.heap.size w W1) := by show Below _ _ _; rw [hW1]; exact (Below.refl _ _).alloc (Nat.le_refl _) _
 have HG1 : Hid (W1.heap[G]? = some (.cells #[.int .i64 go0, .int .i64 gp, .string gk, .string gv] 61 (0, 0))) := by show _ = _; rw [hW1, hG]; exact heap_alloc_new w _
 (try rw [← hW1, ← hG])
 clear hW1 hG
 have e1 : W1.cell? ⟨G, 1, none⟩ = some (.int .i64 gp) := by rw [cell_of_row _ _ 1 _ _ _ HG1.out]; rfl
 by_cases h1 : gp = -1
 · have t1 : (gp == -1) = true := by rw [h1]; rfl
   have HN : Hid (ds.any (hitB ⟨go0, gp, gk, gv⟩) = false) := by
    show _ = _
    rw [List.any_eq_false]
    intro d hd hh
    exact (of_decide_eq_true hh).1 h1
   clear h1
   go_wp2
   go_ret
   exact ⟨by rw [HN.out]; rfl, HB1.out⟩
 · have t1 : (gp == -1) = false := beq_false_of_ne h1
   have HNE := Lib.hid h1
   clear h1
   go_wp2
   clear e1 t1
   go_loopw [12] (fun v12 wr => ∃ (i : Nat), v12 = .int .i64 (i : Int) ∧ i ≤ dn ∧ Hid ((ds.take i).any (hitB ⟨go0, gp, gk, gv⟩) = false) ∧ Hid (Below W1.heap.size W1 wr)) (fun v12 _ => dn - (intOf v12).toNat)
   case atStart => exact ⟨0, rfl, Nat.zero_le _, rfl, Below.refl _ _⟩
   case round =>
    obtain ⟨i, rfl, hi, HAN, HBB⟩ := hrel
    obtain ⟨wi, hwi⟩ : ∃ wi : World, wi = wr := ⟨_, rfl⟩
    subst hwi
    by_cases hit : i < dn
    · have hdi : decide (i < dn) = true := decide_eq_true hit
      have hil : (i : Int) < (dn : Int) := by omega
      obtain ⟨db, doff, d, el, hdbk, hds, p0, p1, p2⟩ := dr_get (HD.out.keep (HB1.out.trans (HBB.out.mono HB1.out.size))) hit
      subst el
      have HAT := Lib.hid (any_take (p := hitB ⟨go0, gp, gk, gv⟩) hds)
      have HMEM := Lib.hid (List.mem_of_getElem? hds)
      obtain ⟨d0, d1, d2⟩ := d
      simp only at p0 p1 p2
      clear hds hdbk
      go_upto_region 6 with fail
      obtain ⟨W2, hW2⟩ : ∃ y, y = wi.alloc (.cells #[.int .i64 d0, .int .i64 d1, .int .i64 d2] 79) := ⟨_, rfl⟩
      obtain ⟨D, hD⟩ : ∃ y, y = wi.heap.size := ⟨_, rfl⟩
      have hb2 : Below wi.heap.size wi W2 := by rw [hW2]; exact (Below.refl _ _).alloc (Nat.le_refl _) _
      have HD2 : Hid (DBox W2 D ⟨d0, d1, d2⟩) := by show DBox _ _ _; rw [hW2, hD]; exact dbox_new wi ⟨d0, d1, d2⟩
      have HB2 : Hid (Below W1.heap.size W1 W2) := HBB.out.trans (hb2.mono HBB.out.size)
      (try rw [← hW2, ← hD])
      clear hW2 hD hb2 p0 p1 p2 HBB
      have hgb : W2.heap[G]? = some (.cells #[.int .i64 go0, .int .i64 gp, .string gk, .string gv] 61 (0, 0)) := by rw [HB2.out.block G (lt_of_block HG1.out)]; exact HG1.out
      have e0 : W2.cell? ⟨G, 0, none⟩ = some (.int .i64 go0) := by rw [cell_of_row _ _ 0 _ _ _ hgb]; rfl
      have e1 : W2.cell? ⟨G, 1, none⟩ = some (.int .i64 gp) := by rw [cell_of_row _ _ 1 _ _ _ hgb]; rfl
      have q0 := HD2.out.c0
      have q1 := HD2.out.c1
      have q2 := HD2.out.c2
      clear hgb
      have hcs : (d0 ≠ gp) ∨ (d0 = gp ∧ ¬ d1 ≤ go0) ∨ (d0 = gp ∧ d1 ≤ go0 ∧ ¬ go0 ≤ d2) ∨ (d0 = gp ∧ d1 ≤ go0 ∧ go0 ≤ d2) := by omega
      rcases hcs with h2 | ⟨h2, h3⟩ | ⟨h2, h3, h4⟩ | ⟨h2, h3, h4⟩
      · have t2 : (d0 == gp) = false := beq_false_of_ne h2
        have HN : Hid ((ds.take (i + 1)).any (hitB ⟨go0, gp, gk, gv⟩) = false) := by show _ = _; rw [HAT.out, HAN.out]; exact decide_eq_false (fun h => h2 h.2.1)
        clear HAT HAN h2
        go_wp2
        go_roundw
        case rel => exact ⟨i + 1, rfl, hit, HN.out, HB2.out⟩
        case measure => simp [intOf]; omega
      · have t2 : (d0 == gp) = true := by rw [h2]; exact beq_self_eq_true gp
        have t3 : decide (d1 ≤ go0) = false := decide_eq_false h3
        have HN : Hid ((ds.take (i + 1)).any (hitB ⟨go0, gp, gk, gv⟩) = false) := by show _ = _; rw [HAT.out, HAN.out]; exact decide_eq_false (fun h => h3 h.2.2.1)
        clear HAT HAN h2 h3
        go_wp2
        go_roundw
        case rel => exact ⟨i + 1, rfl, hit, HN.out, HB2.out⟩
        case measure => simp [intOf]; omega
      · have t2 : (d0 == gp) = true := by rw [h2]; exact beq_self_eq_true gp
        have t3 : decide (d1 ≤ go0) = true := decide_eq_true h3
        have t4 : decide (go0 ≤ d2) = false := decide_eq_false h4
        have HN : Hid ((ds.take (i + 1)).any (hitB ⟨go0, gp, gk, gv⟩) = false) := by show _ = _; rw [HAT.out, HAN.out]; exact decide_eq_false (fun h => h4 h.2.2.2)
        clear HAT HAN h2 h3 h4
        go_wp2
        go_roundw
        case rel => exact ⟨i + 1, rfl, hit, HN.out, HB2.out⟩
        case measure => simp [intOf]; omega
      · have t2 : (d0 == gp) = true := by rw [h2]; exact beq_self_eq_true gp
        have t3 : decide (d1 ≤ go0) = true := decide_eq_true h3
        have t4 : decide (go0 ≤ d2) = true := decide_eq_true h4
        have HN : Hid (ds.any (hitB ⟨go0, gp, gk, gv⟩) = true) := by
         show _ = _
         rw [List.any_eq_true]
         exact ⟨⟨d0, d1, d2⟩, HMEM.out, decide_eq_true ⟨HNE.out, h2, h3, h4⟩⟩
        clear HAT HAN h2 h3 h4
        go_wp2
        go_ret
        exact ⟨by rw [HN.out]; rfl, HB1.out.trans (HB2.out.mono HB1.out.size)⟩
    · have hdi : decide (i < dn) = false := decide_eq_false hit
      have hin : i = dn := by omega
      have HALL : Hid (ds.any (hitB ⟨go0, gp, gk, gv⟩) = false) := by
       have h1 := HAN.out
       rw [hin, ← HDL.out, List.take_length] at h1
       exact h1
      clear hin HAN
      go_wp2
      go_ret
      exact ⟨by rw [HALL.out]; rfl, HB1.out.trans (HBB.out.mono HB1.out.size)⟩
set_option maxRecDepth 100000 in
set_option maxHeartbeats 8000000 in
theorem fcDeliver_any (w : World) (f : Fd) (v : Value) (h : FdAt w v f) (hl : f.recs.length ≤ 100000) (hd : f.drs.length ≤ 140737488355328) :
 Calls Try.prog 15 #[v] w (GivesGots w (deliverD f.recs f.drs)) := by
 obtain ⟨ra, rn, rc, da, dn, dc, rfl, hr1, hd1⟩ := h
 obtain ⟨rs, ds, nx, st⟩ := f
 simp only at hr1 hd1 hl hd
 simp only
 have HR := Lib.hid hr1
 have HD := Lib.hid hd1
 have hrl : rs.length = rn := hr1.length
 have hdl : ds.length = dn := hd1.length
 have hrb : rn ≤ 100000 := by omega
 have hdb : dn ≤ 140737488355328 := by omega
 have HRL := Lib.hid hrl
 have HDL := Lib.hid hdl
 clear hr1 hd1 hl hd hrl hdl
 go_enter Try.func15, Try.ntmps15
 go_upto_region 1 with fail
 obtain ⟨W0, hW0⟩ : ∃ z, z = w.alloc (.cells #[.slice ra rn rc, .slice da dn dc, .int .i64 nx, .int .i64 st] 34) := ⟨_, rfl⟩
 obtain ⟨F, hF⟩ : ∃ z, z = w.heap.size := ⟨_, rfl⟩
 have HX0 : Hid (FBox W0 F (.slice ra rn rc) (.slice da dn dc) nx st) := by show FBox _ _ _ _ _ _; rw [hW0, hF]; exact fbox_new w _ _ _ _
 have HB0 : Hid (Below w.heap.size w W0) := by show Below _ _ _; rw [hW0]; exact (Below.refl _ _).alloc (Nat.le_refl _) _
 have HWF : Hid (w.heap.size ≤ F) := by show _ ≤ _; rw [hF]; exact Nat.le_refl _
 (try rw [← hW0, ← hF])
 clear hW0 hF
 have x0 := HX0.out.c0
 go_wp2
 clear x0
 go_loopw [3, 9] (fun v3 v9 wr => ∃ (j : Nat) (u : Value), u = v3 ∧ v9 = .int .i64 (j : Int) ∧ j ≤ rn ∧ Hid (OwnRow gtK wr w.heap.size u (deliverD (rs.take j) ds)) ∧ Hid (∀ q, u.ownBlock = some q → q ≠ F) ∧ Hid (FBox wr F (.slice ra rn rc) (.slice da dn dc) nx st) ∧ Hid (Below w.heap.size w wr)) (fun _ v9 _ => rn - (intOf v9).toNat)
 case atStart => exact ⟨0, _, rfl, rfl, Nat.zero_le _, ownRow_nil _ _ _, (fun q hq => by cases hq), HX0.out, HB0.out⟩
 case round =>
  obtain ⟨j, u, rfl, rfl, hj, HO, HNF, HX, HB⟩ := hrel
  clear HX0 HB0
  obtain ⟨wo, hwo⟩ : ∃ wo : World, wo = wr := ⟨_, rfl⟩
  subst hwo
  by_cases hlt : j < rn
  · have hdj : decide (j < rn) = true := decide_eq_true hlt
    have hjl : (j : Int) < (rn : Int) := by omega
    obtain ⟨bk, off, g, el, hbk, hg, hga⟩ := gt_get (HR.out.keep HB.out) hlt
    subst el
    have HT := Lib.hid (deliver_take (ds := ds) hg)
    have HLEN : Hid ((deliverD (rs.take j) ds).length ≤ 100000) := by
     show _ ≤ _
     have h1 := List.length_filter_le (fun g => !(ds.any (hitB g))) (rs.take j)
     rw [List.length_take] at h1
     unfold deliverD
     omega
    obtain ⟨go0, gp, gk, gv⟩ := g
    have k0 := hga.c0
    have k1 := hga.c1
    have k2 := hga.c2
    have k3 := hga.c3
    simp only at k0 k1 k2 k3
    clear hg hga hbk
    go_upto_region 5 with fail
    obtain ⟨W1, hW1⟩ : ∃ y, y = wo.alloc (.cells #[.int .i64 go0, .int .i64 gp, .string gk, .string gv] 61) := ⟨_, rfl⟩
    obtain ⟨G, hG⟩ : ∃ y, y = wo.heap.size := ⟨_, rfl⟩
    have hb1 : Below wo.heap.size wo W1 := by rw [hW1]; exact (Below.refl _ _).alloc (Nat.le_refl _) _
    have HG1 : Hid (W1.heap[G]? = some (.cells #[.int .i64 go0, .int .i64 gp, .string gk, .string gv] 61 (0, 0))) := by show _ = _; rw [hW1, hG]; exact heap_alloc_new wo _
    have HX1 := Lib.hid (HX.out.on hb1)
    have HO1 := Lib.hid (HO.out.on hb1)
    have HB1 := Lib.hid (HB.out.trans (hb1.mono HB.out.size))
    have HGW : Hid (w.heap.size ≤ G) := by show _ ≤ _; rw [hG]; exact HB.out.size
    have HGU : Hid (∀ q, u.ownBlock = some q → q < G) := fun q hq => by rw [hG]; exact (HO.out.lt q hq).2
    (try rw [← hW1, ← hG])
    clear hW1 hG hb1 HX HO HB k0 k1 k2 k3
    have x1 := HX1.out.c1
    have e0 : W1.cell? ⟨G, 0, none⟩ = some (.int .i64 go0) := by rw [cell_of_row _ _ 0 _ _ _ HG1.out]; rfl
    have e1 : W1.cell? ⟨G, 1, none⟩ = some (.int .i64 gp) := by rw [cell_of_row _ _ 1 _ _ _ HG1.out]; rfl
    have e2 : W1.cell? ⟨G, 2, none⟩ = some (.string gk) := by rw [cell_of_row _ _ 2 _ _ _ HG1.out]; rfl
    have e3 : W1.cell? ⟨G, 3, none⟩ = some (.string gv) := by rw [cell_of_row _ _ 3 _ _ _ HG1.out]; rfl
    go_wp2_with fail
    clear x1 e0 e1 e2 e3
    refine (fcDropped_any W1 ⟨go0, gp, ⟨gk, gv⟩⟩ da dn dc ds (HD.out.keep HB1.out) hdb).mono ?_
    rintro e wi ⟨rfl, hb⟩
    have HBB := Lib.hid hb
    have HO2 := Lib.hid (HO1.out.on HBB.out)
    have HX2 := Lib.hid (HX1.out.on HBB.out)
    have HB2 := Lib.hid (HB1.out.trans (HBB.out.mono HB1.out.size))
    have hgb : wi.heap[G]? = some (.cells #[.int .i64 go0, .int .i64 gp, .string gk, .string gv] 61 (0, 0)) := by rw [HBB.out.block G (lt_of_block HG1.out)]; exact HG1.out
    have e0 : wi.cell? ⟨G, 0, none⟩ = some (.int .i64 go0) := by rw [cell_of_row _ _ 0 _ _ _ hgb]; rfl
    have e1 : wi.cell? ⟨G, 1, none⟩ = some (.int .i64 gp) := by rw [cell_of_row _ _ 1 _ _ _ hgb]; rfl
    have e2 : wi.cell? ⟨G, 2, none⟩ = some (.string gk) := by rw [cell_of_row _ _ 2 _ _ _ hgb]; rfl
    have e3 : wi.cell? ⟨G, 3, none⟩ = some (.string gv) := by rw [cell_of_row _ _ 3 _ _ _ hgb]; rfl
    obtain ⟨b, hbv⟩ : ∃ b, ds.any (hitB ⟨go0, gp, ⟨gk, gv⟩⟩) = b := ⟨_, rfl⟩
    rw [hbv]
    have HALL := Lib.hid hbv
    clear hgb hb hbv HBB HO1 HX1 HB1
    cases b with
    | true =>
      have HO3 : Hid (OwnRow gtK wi w.heap.size u (deliverD (rs.take (j + 1)) ds)) := by show OwnRow _ _ _ _ _; rw [HT.out, if_pos HALL.out, List.append_nil]; exact HO2.out
      clear HO2 HT HALL
      go_wp2
      go_roundw
      case rel => exact ⟨j + 1, u, rfl, rfl, hlt, HO3.out, HNF.out, HX2.out, HB2.out⟩
      case measure => simp [intOf]; omega
    | false =>
      have HT2 : Hid (deliverD (rs.take (j + 1)) ds = deliverD (rs.take j) ds ++ [⟨go0, gp, gk, gv⟩]) := by show _ = _; rw [HT.out, if_neg (by rw [HALL.out]; decide)]
      clear HT HALL
      obtain ⟨W3, hW3⟩ : ∃ y, y = wi.alloc (.cells #[.int .i64 go0, .int .i64 gp, .string gk, .string gv] 61) := ⟨_, rfl⟩
      have hb3 : Below wi.heap.size wi W3 := by rw [hW3]; exact (Below.refl _ _).alloc (Nat.le_refl _) _
      have HLIT : Hid (RowAt gtK W3 (some ⟨wi.heap.size, 0, none⟩) 1 1 [⟨go0, gp, ⟨gk, gv⟩⟩]) := by
       show RowAt _ _ _ _ _ _
       rw [hW3]
       exact rowAt_lit gtK_ok wi [⟨go0, gp, ⟨gk, gv⟩⟩] (by simp) _ rfl 1 rfl
      have HX3 := Lib.hid (HX2.out.on hb3)
      have HO3 := Lib.hid (HO2.out.on hb3)
      have HB3 := Lib.hid (HB2.out.trans (hb3.mono HB2.out.size))
      have HW3 := Lib.hid hW3
      clear hb3 hW3
      go_wp2_with (at_builtin; rw [← HW3.out]; refine list_row (by rfl) gtK_ok (.tmp 18) (.tmp 20) rfl w.heap.size (deliverD (rs.take j) ds) [⟨go0, gp, ⟨gk, gv⟩⟩] u rfl HO3.out HB3.out.size (some ⟨wi.heap.size, 0, none⟩) 1 1 rfl HLIT.out (by have := HLEN.out; omega) ?_)
      intro v4 w4 hap
      have HO4 : Hid (OwnRow gtK w4 w.heap.size v4 (deliverD (rs.take (j + 1)) ds)) := by show OwnRow _ _ _ _ _; rw [HT2.out]; exact hap.1
      have HX4 : Hid (FBox w4 F (.slice (some ⟨bk, off, none⟩) rn rc) (.slice da dn dc) nx st) := (hap.2.1.block F HX3.out.lt (fun e => HNF.out F e.symm rfl)).trans HX3.out
      have HN4 : Hid (∀ q, v4.ownBlock = some q → q ≠ F) := fun q hq => by
       rcases hap.2.2.2 q hq with h1 | h1
       · exact HNF.out q h1
       · have := HX3.out.lt; omega
      have HB4 : Hid (Below w.heap.size w w4) := HB3.out.grown hap.2.1 HB3.out.size (fun q hq => (HO3.out.lt q hq).1)
      clear hap HO3 HX3 HB3 HLIT HW3 HO2 HX2 HB2 e0 e1 e2 e3 HT2
      go_wp2
      go_roundw
      case rel => exact ⟨j + 1, v4, rfl, rfl, hlt, HO4.out, HN4.out, HX4.out, HB4.out⟩
      case measure => simp [intOf]; omega
  · have hdj : decide (j < rn) = false := decide_eq_false hlt
    have hjn : j = rn := by omega
    have HFIN : Hid (OwnRow gtK wo w.heap.size u (deliverD rs ds)) := by
     have h1 := HO.out
     rw [hjn, ← HRL.out, List.take_length] at h1
     exact h1
    clear hjn
    go_wp2
    go_ret
    obtain ⟨ad, cap, hv, hr, hk⟩ := OwnRow.at gtK_ok HFIN.out
    exact ⟨ad, _, cap, congrArg Ending.returned hv, hr, hk, HB.out⟩
set_option maxRecDepth 100000 in
set_option maxHeartbeats 4000000 in
theorem fcClone_any (w : World) (ad : Option Addr) (len cap : Nat) (l : List Gt) (hr : RowAt gtK w ad len cap l) (hl : len ≤ 1000000) : Calls Try.prog 41 #[.slice ad len cap] w (GivesGots w l) := by
 have hroom := hr.room
 have hlen := hr.length
 have HR := Lib.hid hr
 clear hr
 cases ad with
 | none =>
   have hc := hroom rfl
   have hfits := HR.out.fits
   have h0 : len = 0 := by omega
   subst hc
   subst h0
   obtain rfl : l = [] := List.eq_nil_of_length_eq_zero hlen
   have hnil : ∀ W, (binOp .eql 31 (.slice none 0 0) (.slice none 0 0)).run Try.prog W = .ok (.bool true) W := fun W => Lib.run_eql_slice_nil (P := Try.prog) W 31 61 none 0 0 0 0 Try.underlying31
   go_enter Try.func41, Try.ntmps41
   go_wp2
   go_ret
   exact ⟨none, 0, 0, rfl, rowAt_nil _, (fun a ha => by cases ha), Below.refl _ _⟩
 | some a =>
   have hnil : ∀ W, (binOp .eql 31 (.slice (some a) len cap) (.slice none 0 0)).run Try.prog W = .ok (.bool false) W := fun W => Lib.run_eql_slice_nil (P := Try.prog) W 31 61 (some a) len cap 0 0 Try.underlying31
   have HL := Lib.hid hlen
   clear hroom hlen
   go_enter Try.func41, Try.ntmps41
   go_wp2_with (at_builtin; refine list_row (by rfl) gtK_ok (.tmp 5) (.tmp 6) rfl w.heap.size [] l _ rfl (ownRow_lit gtK_ok w w.heap.size [] (Nat.le_refl _) (by simp) _ rfl 0 rfl) (by simp) (some a) len cap rfl (HR.out.keep ((Below.refl _ w).alloc (Nat.le_refl _) _)) (by rw [List.length_nil]; omega) ?_)
   rintro v' w' hap
   have HAP := Lib.hid hap
   clear hap
   go_wp2
   go_ret
   have h1 := HAP.out
   obtain ⟨ad', cap', rfl, hr', hk'⟩ := OwnRow.row gtK_ok h1.1 rfl
   refine ⟨ad', _, cap', rfl, hr', hk', ?_⟩
   exact appended_below h1 (ownRow_lit gtK_ok w w.heap.size [] (Nat.le_refl _) (by simp) _ rfl 0 rfl) ((Below.refl _ w).alloc (Nat.le_refl _) _) (Nat.le_refl _) (by simp)
end Go.Proofs.Ytipaebflkebdjaa
namespace Go.AbMath
open Go.ProdMath
open Go.SnapMath
open Go.BatMath (In64)
open Go.VarMath (encN AllB)
set_option linter.unusedVariables false

def drS (d : Dr) : List Nat := encN d.prod ++ (encN d.first ++ encN d.last)
def drsS : List Dr → List Nat
 | [] => []
 | d :: l => drS d ++ drsS l
def bodyA (l : List Dr) : List Nat := encN (l.length : Int) ++ drsS l
def bytesA (l : List Dr) : List Nat := CrcMath.sealB (bodyA l)
def DrIn (d : Dr) : Prop := In64 d.prod ∧ In64 d.first ∧ In64 d.last
theorem drS_len {d : Dr} (h : DrIn d) : 3 ≤ (drS d).length ∧ (drS d).length ≤ 30 := by
 have h1 := encN_len h.1
 have h2 := encN_len h.2.1
 have h3 := encN_len h.2.2
 unfold drS
 simp only [List.length_append]
 omega
theorem drsS_len : ∀ {l : List Dr} (h : ∀ d ∈ l, DrIn d), 3 * l.length ≤ (drsS l).length ∧ (drsS l).length ≤ 30 * l.length
 | [], _ => ⟨Nat.le_refl _, Nat.le_refl _⟩
 | d :: l, h => by
   have h1 := drS_len (h d (by simp))
   have h2 := drsS_len (l := l) fun y hy => h y (by simp [hy])
   show 3 * (l.length + 1) ≤ (drS d ++ drsS l).length ∧ _ ≤ 30 * (l.length + 1)
   rw [show drsS (d :: l) = drS d ++ drsS l from rfl, List.length_append]
   omega
theorem drS_all {d : Dr} (h : DrIn d) : AllB (drS d) := fun y hy => by
 unfold drS at hy
 rcases List.mem_append.1 hy with hy | hy
 · exact encN_all h.1 y hy
 · rcases List.mem_append.1 hy with hy | hy
   · exact encN_all h.2.1 y hy
   · exact encN_all h.2.2 y hy
theorem drsS_all : ∀ {l : List Dr} (h : ∀ d ∈ l, DrIn d), AllB (drsS l)
 | [], _, y, hy => by cases hy
 | d :: l, h, y, hy => by
   rcases List.mem_append.1 (show y ∈ drS d ++ drsS l from hy) with hy | hy
   · exact drS_all (h d (by simp)) y hy
   · exact drsS_all (fun z hz => h z (by simp [hz])) y hy
theorem DrsOk.isIn {l : List Dr} (h : DrsOk l) (hi : ∀ d ∈ l, In64 d.prod) : ∀ d ∈ l, DrIn d := fun d hd => by
 have h1 := h.each d hd
 unfold DrOk at h1
 exact ⟨hi d hd, ⟨by omega, by omega⟩, ⟨by omega, by omega⟩⟩
theorem bodyA_all {l : List Dr} (h : ∀ d ∈ l, DrIn d) (hl : l.length ≤ 1000000) : AllB (bodyA l) := fun y hy => by
 unfold bodyA at hy
 rcases List.mem_append.1 hy with hy | hy
 · exact encN_all (in_nat hl) y hy
 · exact drsS_all h y hy
/-- Three numbers. -/
def rdDr (bs : List Nat) (f : Bool) : Dr × List Nat × Bool :=
 (⟨(rdTr bs f).1.f, (rdTr bs f).1.l, (rdTr bs f).1.b⟩, (rdTr bs f).2)
theorem rdDr_enc {d : Dr} (h : DrIn d) (r : List Nat) : rdDr (drS d ++ r) false = (d, r, false) := by
 have h1 := rdTr_enc (x := ⟨d.prod, d.first, d.last⟩) h r
 unfold rdDr
 rw [show drS d = trS ⟨d.prod, d.first, d.last⟩ from rfl, h1]
/-- What the law reads: so many, while no number falls and each may be added: what there is, what is left, whether a number fell, whether all was added. -/
def rdDs : Nat → List Dr → List Nat → Bool → List Dr × List Nat × Bool × Bool
 | 0, acc, bs, f => (acc, bs, f, true)
 | n + 1, acc, bs, f => if f = true then (acc, bs, f, true) else if okD (lastD acc) (rdDr bs f).1 then rdDs n (acc ++ [(rdDr bs f).1]) (rdDr bs f).2.1 (rdDr bs f).2.2 else (acc, (rdDr bs f).2.1, (rdDr bs f).2.2, false)
theorem rdDs_yes {n : Nat} {acc : List Dr} {bs b : List Nat} {d : Dr} {f : Bool} (h : rdDr bs false = (d, b, f)) (hd : okD (lastD acc) d) : rdDs (n + 1) acc bs false = rdDs n (acc ++ [d]) b f := by
 show (if false = true then _ else _) = _
 rw [if_neg (by decide), h, if_pos hd]
theorem rdDs_enc : ∀ (l acc : List Dr) (h : ∀ d ∈ l, DrIn d) (ha : DrsOk (acc ++ l)) (r : List Nat), rdDs l.length acc (drsS l ++ r) false = (acc ++ l, r, false, true)
 | [], acc, _, _, r => by rw [List.append_nil]; rfl
 | d :: l, acc, h, ha, r => by
   have h1 : rdDr (drS d ++ drsS l ++ r) false = (d, drsS l ++ r, false) := by
    rw [List.append_assoc]
    exact rdDr_enc (h d (by simp)) _
   have e : acc ++ d :: l = (acc ++ [d]) ++ l := by rw [List.append_assoc]; rfl
   have hacc : DrsOk acc := ⟨fun x hx => ha.each x (by simp [hx]), (List.pairwise_append.1 ha.asc).1⟩
   have hd : okD (lastD acc) d := ⟨ha.each d (by simp), by
    have h2 := ha.each d (by simp)
    exact (lastD_lt hacc (by unfold DrOk at h2; omega)).2 fun x hx => (List.pairwise_append.1 ha.asc).2.2 x hx d (by simp)⟩
   show rdDs (l.length + 1) acc (drS d ++ drsS l ++ r) false = _
   rw [rdDs_yes h1 hd]
   rw [e] at ha ⊢
   exact rdDs_enc l _ (fun q hq => h q (by simp [hq])) ha r
/-- Bytes that are a list's. -/
def IsAb (bs : List Nat) (l : List Dr) : Prop := DrsOk l ∧ (∀ d ∈ l, In64 d.prod) ∧ bs = bytesA l
def rdAb (bs : List Nat) : List Dr × List Nat × Bool × Bool :=
 rdDs (rdN (openS bs).1 (openS bs).2).1.toNat [] (rdN (openS bs).1 (openS bs).2).2.1 (rdN (openS bs).1 (openS bs).2).2.2
theorem IsAb.few {bs : List Nat} {l : List Dr} (h : IsAb bs l) : 3 * l.length ≤ bs.length := by
 have h1 := (drsS_len (h.1.isIn h.2.1)).1
 rw [h.2.2]
 unfold bytesA bodyA
 rw [CrcMath.length_sealB, List.length_append]
 omega
theorem IsAb.rd {bs : List Nat} {l : List Dr} (h : IsAb bs l) (hL : bs.length ≤ 1048600) : rdAb bs = (l, [], false, true) := by
 have hf := h.few
 obtain ⟨ha, hi, e⟩ := h
 have hin := ha.isIn hi
 have hok : CrcMath.okB bs = true := by
  rw [e]
  exact CrcMath.okB_seal (bodyA_all hin (by omega))
 have ho : openS bs = (bodyA l, false) := by
  unfold openS
  rw [if_pos hok, e]
  unfold bytesA
  rw [CrcMath.drop_sealB]
 have h1 : rdN (bodyA l) false = ((l.length : Int), drsS l, false) := rdN_enc (in_nat (by omega)) _
 unfold rdAb
 rw [ho, h1]
 simp only [Int.toNat_natCast]
 have h3 := rdDs_enc l [] hin ha []
 rw [List.append_nil] at h3
 exact h3
theorem IsAb.one {bs : List Nat} {l m : List Dr} (h : IsAb bs l) (h' : IsAb bs m) (hL : bs.length ≤ 1048600) : l = m := by
 have h1 := h.rd hL
 rw [h'.rd hL] at h1
 cases h1
 rfl
end Go.AbMath
namespace Go.Proofs.Ytipaebflkebdjaa
open Go.RowKit
open Go.SnapMath
open Go.ProdMath
open Go.BatMath hiding AllB getD_lt take_all
set_option linter.unusedVariables false

/-- The producers read so far: the call's own row, each with its batches in a row of its own. -/
structure AccAt (w : World) (base : Nat) (v : Value) (ms : List PM) : Prop where
 own : OwnRow pdK w base v ms
 ins : LastsAt w ms
 sep : ∀ m ∈ ms, ∀ a, m.ad = some a → base ≤ a.block ∧ a.block < w.heap.size ∧ v.ownBlock ≠ some a.block
theorem AccAt.nil (w : World) (base : Nat) : AccAt w base (.slice none 0 0) [] := ⟨ownRow_nil pdK w base, fun m h => (by cases h), fun m h => (by cases h)⟩
/-- The row itself, as it reads. -/
theorem AccAt.row {w : World} {base n cap : Nat} {ad : Option Addr} {ms : List PM} (h : AccAt w base (.slice ad n cap) ms) : PdsAt w ad n cap ms ∧ ms.length = n := by
 obtain ⟨ad2, cap2, e, hr, _⟩ := OwnRow.row pdK_ok h.own (n := ms.length) rfl
 injection e with e1 e2 e3
 subst e1 e2 e3
 exact ⟨⟨hr, h.ins⟩, rfl⟩
theorem AccAt.grown {w w' : World} {base k : Nat} {v : Value} {ms : List PM} (h : AccAt w base v ms) (hg : w.grownBy w' (some k)) (hk : k < base) : AccAt w' base v ms := by
 refine ⟨h.own.grown hg fun j hj e => ?_, h.ins.grown hg fun m hm a ha e => ?_, fun m hm a ha => ?_⟩
 · have := (h.own.lt j hj).1
   cases e
   omega
 · have := (h.sep m hm a ha).1
   omega
 · obtain ⟨h1, h2, h3⟩ := h.sep m hm a ha
   exact ⟨h1, Nat.lt_of_lt_of_le h2 hg.size, h3⟩
theorem AccAt.on {w w' : World} {base : Nat} {v : Value} {ms : List PM} (h : AccAt w base v ms) (hb : Below w.heap.size w w') : AccAt w' base v ms :=
 ⟨h.own.on hb, h.ins.keep hb, fun m hm a ha => by obtain ⟨h1, h2, h3⟩ := h.sep m hm a ha; exact ⟨h1, Nat.lt_of_lt_of_le h2 hb.size, h3⟩⟩
/-- One more behind them. -/
theorem AccAt.snoc {w w' : World} {base : Nat} {v v' : Value} {ms : List PM} {m : PM} (h : AccAt w base v ms) (hm : LastAt w m) (ha : ∀ a, m.ad = some a → base ≤ a.block ∧ a.block < w.heap.size ∧ v.ownBlock ≠ some a.block) (hap : Appended pdK w base v (ms ++ [m]) v' w') : AccAt w' base v' (ms ++ [m]) := by
 have hall : ∀ q ∈ ms ++ [m], LastAt w q ∧ ∀ a, q.ad = some a → base ≤ a.block ∧ a.block < w.heap.size ∧ v.ownBlock ≠ some a.block := fun q hq => by
  rcases List.mem_append.1 hq with hq | hq
  · exact ⟨h.ins q hq, h.sep q hq⟩
  · rw [List.mem_singleton] at hq
    rw [hq]
    exact ⟨hm, ha⟩
 refine ⟨hap.1, fun q hq => (hall q hq).1.grown hap.2.1 fun a hqa e => ((hall q hq).2 a hqa).2.2 e.symm, fun q hq a hqa => ?_⟩
 obtain ⟨h1, h2, h3⟩ := (hall q hq).2 a hqa
 refine ⟨h1, Nat.lt_of_lt_of_le h2 hap.2.1.size, fun e => ?_⟩
 rcases hap.2.2.2 _ e with h4 | h4
 · exact h3 h4
 · omega
end Go.Proofs.Ytipaebflkebdjaa
