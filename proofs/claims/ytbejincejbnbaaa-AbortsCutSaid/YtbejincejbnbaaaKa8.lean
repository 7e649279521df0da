/- Parts of a proof, merged: AbAdd, AbMath2, SnBytes, AbBytes. -/
import Derived.Test.YtbejincejbnbaaaKa1
import Derived.Test.YtbejincejbnbaaaKa7
import Derived.Test.YtbejincejbnbaaaKa2
import Derived.Test.YtbejincejbnbaaaKa6
import Derived.Test.YtbejincejbnbaaaKa3
import Derived.Test.YtbejincejbnbaaaKa4
namespace Go.Proofs.Ytbejincejbnbaaa
open Go.RowKit
open Go.AbMath
open Go.ProdMath
open Go.BatMath hiding AllB getD_lt take_all
set_option linter.unusedVariables false
section
variable {P : Program} {ops : Array Oper} {Q : Exit → Act → World → Prop} {md : Region.Mode} {S : World → Prop} {Z : List Nat}
theorem zcl {C : Act → World → Prop} {fuel : Nat} {l l2 : Array Bool} {a a2 : Act} {w : World}
 (hC : Shut (∀ a w, (ZFree Z l → S w) → ((ZFree Z l → S w) → wpAnyZ P md ops Q Z S fuel l a w) → C a w)) (hS : S w) (h : wpAnyZ P md ops Q Z S fuel l2 a2 w)
 (hl : l = l2 := by (try simp only [List.setIfInBounds_toArray, List.set_cons_zero, List.set_cons_succ]); exact rfl)
 (ha : a = a2 := by (try simp only [Act.put, List.setIfInBounds_toArray, List.set_cons_zero, List.set_cons_succ]); exact rfl) : C a w := by
 subst hl ha
 exact hC.out _ _ (fun _ => hS) (fun _ => h)
end

/-- A block that is the law's own list. -/
def LBox (w : World) (k : Nat) (v : Value) (z : Int) : Prop := w.heap[k]? = some (.cells #[v, .int .i64 z] 36 (0, 0))
section
variable {w w' : World} {k : Nat} {v : Value} {z : Int}
theorem LBox.c0 (h : LBox w k v z) : w.cell? ⟨k, 0, none⟩ = some v := by rw [cell_of_row _ _ 0 _ _ _ h]; rfl
theorem LBox.c1 (h : LBox w k v z) : w.cell? ⟨k, 1, none⟩ = some (.int .i64 z) := by rw [cell_of_row _ _ 1 _ _ _ h]; rfl
theorem LBox.free (h : LBox w k v z) (j : Nat) : w.frozen? ⟨k, j, none⟩ = false := frozen_of_row w k j _ _ h
theorem LBox.lt (h : LBox w k v z) : k < w.heap.size := lt_of_block h
theorem LBox.on (h : LBox w k v z) (hb : Below w.heap.size w w') : LBox w' k v z := by
 have hlt := h.lt
 unfold LBox at *
 rw [hb.block k hlt]
 exact h
theorem LBox.grown {r : Option Nat} (h : LBox w k v z) (hg : w.grownBy w' r) (hr : r ≠ some k) : LBox w' k v z := by
 have hlt := h.lt
 unfold LBox at *
 rw [hg.block k hlt (fun e => hr e.symm)]
 exact h
theorem LBox.s0 (h : LBox w k v z) (u : Value) : LBox (w.setCell ⟨k, 0, none⟩ u) k u z := box_set h 0 _
theorem LBox.s1 (h : LBox w k v z) (n : Int) : LBox (w.setCell ⟨k, 1, none⟩ (.int .i64 n)) k v n := box_set h 1 _
theorem LBox.off (h : LBox w k v z) {j i : Nat} (hj : j ≠ k) (u : Value) : LBox (w.setCell ⟨j, i, none⟩ u) k v z := box_off h hj u
theorem lbox_new (w : World) (v : Value) (z : Int) : LBox (w.alloc (.cells #[v, .int .i64 z] 36)) w.heap.size v z := heap_alloc_new w _
end
/-- The law's own list at k: its elements in a row of their own, which lies elsewhere, in a block that is P. -/
def LAtP (P : Nat → Prop) (w : World) (k : Nat) (l : List Dr) (z : Int) : Prop := ∃ ad n cap, LBox w k (.slice ad n cap) z ∧ RowAt drK w ad n cap l ∧ ∀ a, ad = some a → a.block ≠ k ∧ P a.block ∧ a.block < w.heap.size
section
variable {P : Nat → Prop} {w w' : World} {k j : Nat} {l : List Dr} {z : Int}
theorem LAtP.on (h : LAtP P w k l z) (hb : Below w.heap.size w w') : LAtP P w' k l z := by
 obtain ⟨ad, n, cap, h1, h2, h3⟩ := h
 exact ⟨ad, n, cap, h1.on hb, h2.keep hb, fun a ha => ⟨(h3 a ha).1, (h3 a ha).2.1, Nat.lt_of_lt_of_le (h3 a ha).2.2 hb.size⟩⟩
theorem LAtP.grown (h : LAtP P w k l z) (hg : w.grownBy w' (some j)) (hj : ¬ P j) (hk : j ≠ k) : LAtP P w' k l z := by
 obtain ⟨ad, n, cap, h1, h2, h3⟩ := h
 exact ⟨ad, n, cap, h1.grown hg (fun e => hk (Option.some.inj e)), h2.grown hg (fun a ha e => by have := (h3 a ha).2.1; cases e; exact absurd this hj), fun a ha => ⟨(h3 a ha).1, (h3 a ha).2.1, Nat.lt_of_lt_of_le (h3 a ha).2.2 hg.size⟩⟩
theorem LAtP.lt (h : LAtP P w k l z) : k < w.heap.size := by
 obtain ⟨ad, n, cap, h1, h2, h3⟩ := h
 exact h1.lt
theorem LAtP.to {Q : Nat → Prop} (h : LAtP P w k l z) (hq : ∀ b, b < w.heap.size → P b → Q b) : LAtP Q w k l z := by
 obtain ⟨ad, n, cap, h1, h2, h3⟩ := h
 exact ⟨ad, n, cap, h1, h2, fun a ha => ⟨(h3 a ha).1, hq _ (h3 a ha).2.2 (h3 a ha).2.1, (h3 a ha).2.2⟩⟩
end
def LAt (B : Nat) (w : World) (k : Nat) (l : List Dr) (z : Int) : Prop := LAtP (fun b => B ≤ b) w k l z
theorem LAt.on {B : Nat} {w w' : World} {k : Nat} {l : List Dr} {z : Int} (h : LAt B w k l z) (hb : Below w.heap.size w w') : LAt B w' k l z := LAtP.on h hb
theorem LAt.grown {B j : Nat} {w w' : World} {k : Nat} {l : List Dr} {z : Int} (h : LAt B w k l z) (hg : w.grownBy w' (some j)) (hj : j < B) (hk : j ≠ k) : LAt B w' k l z := LAtP.grown h hg (Nat.not_le.2 hj) hk
theorem LAt.lt {B : Nat} {w : World} {k : Nat} {l : List Dr} {z : Int} (h : LAt B w k l z) : k < w.heap.size := LAtP.lt h
def GivesLAddP (P : Nat → Prop) (w : World) (k : Nat) (l : List Dr) (z : Int) (d : Dr) (e : Ending) (w' : World) : Prop :=
 e = .returned (.bool (decide (okD z d))) ∧ LAtP P w' k (if okD z d then l ++ [d] else l) (if okD z d then d.last else z) ∧ w.grownBy w' (some k)
def GivesLAdd (B : Nat) (w : World) (k : Nat) (l : List Dr) (z : Int) (d : Dr) (e : Ending) (w' : World) : Prop :=
 e = .returned (.bool (decide (okD z d))) ∧ LAt B w' k (if okD z d then l ++ [d] else l) (if okD z d then d.last else z) ∧ w.grownBy w' (some k)
set_option maxRecDepth 100000 in
set_option maxHeartbeats 8000000 in
theorem lAddP_any (P : Nat → Prop) (w : World) (k : Nat) (l : List Dr) (z : Int) (d : Dr) (h : LAtP P w k l z) (hL : l.length ≤ 1000000) (hBw : ∀ b, w.heap.size ≤ b → P b) :
 Calls Try.prog 11 #[.pointer (some ⟨k, 0, none⟩), .agg #[.int .i64 d.prod, .int .i64 d.first, .int .i64 d.last]] w (GivesLAddP P w k l z d) := by
 obtain ⟨pa, pn, pc, hbox, hrow, hsep⟩ := h
 obtain ⟨d0, d1, d2⟩ := d
 simp only
 have hpn : l.length = pn := hrow.length
 have HPN := Lib.hid hpn
 have HLL : Hid (l.length ≤ 1000000) := hL
 go_enter Try.func11, Try.ntmps11
 go_upto_region 1 with fail
 obtain ⟨W, hW⟩ : ∃ z, z = w.alloc (.cells #[.int .i64 d0, .int .i64 d1, .int .i64 d2] 29) := ⟨_, rfl⟩
 obtain ⟨D, hD⟩ : ∃ z, z = w.heap.size := ⟨_, rfl⟩
 have hb : Below w.heap.size w W := by rw [hW]; exact (Below.refl _ _).alloc (Nat.le_refl _) _
 have HD : Hid (DBox W D ⟨d0, d1, d2⟩) := by show DBox _ _ _; rw [hW, hD]; exact dbox_new w ⟨d0, d1, d2⟩
 have HX := Lib.hid (hbox.on hb)
 have HR := Lib.hid (hrow.keep hb)
 have HB : Hid (w.grownBy W (some k)) := grow_below (grow_refl _ _) hb
 have HSP : Hid (∀ a, pa = some a → a.block ≠ k ∧ P a.block ∧ a.block < w.heap.size) := hsep
 have HBW : Hid (∀ b, w.heap.size ≤ b → P b) := hBw
 have HKW : Hid (k < w.heap.size) := hbox.lt
 have HDK : Hid (D ≠ k) := by show D ≠ k; rw [hD]; exact Nat.ne_of_gt hbox.lt
 (try rw [← hW, ← hD])
 clear hW hD hb hbox hrow hsep hL hpn hBw
 have KS : Hid (∀ V, Below W.heap.size W V → (fun (V : World) => V.cell? ⟨D, 0, none⟩ = some (.int .i64 d0) ∧ V.cell? ⟨D, 1, none⟩ = some (.int .i64 d1) ∧ V.cell? ⟨D, 2, none⟩ = some (.int .i64 d2) ∧ V.cell? ⟨k, 0, none⟩ = some (.slice pa pn pc) ∧ V.cell? ⟨k, 1, none⟩ = some (.int .i64 z)) V) := fun V hV => ⟨(HD.out.on hV).c0, (HD.out.on hV).c1, (HD.out.on hV).c2, (HX.out.on hV).c0, (HX.out.on hV).c1⟩
 have hdrw : Below W.heap.size W W.drew := (Below.refl _ W).drew
 have hcs : (d0 < 0 ∧ ¬ okD z ⟨d0, d1, d2⟩) ∨ (¬ d0 < 0 ∧ d1 < 0 ∧ ¬ okD z ⟨d0, d1, d2⟩) ∨ (¬ d0 < 0 ∧ ¬ d1 < 0 ∧ d2 ≤ d1 ∧ ¬ okD z ⟨d0, d1, d2⟩) ∨ (¬ d0 < 0 ∧ ¬ d1 < 0 ∧ ¬ d2 ≤ d1 ∧ d2 ≤ z ∧ ¬ okD z ⟨d0, d1, d2⟩) ∨ (¬ d0 < 0 ∧ ¬ d1 < 0 ∧ ¬ d2 ≤ d1 ∧ ¬ d2 ≤ z ∧ 1099511627776 < d2 ∧ ¬ okD z ⟨d0, d1, d2⟩) ∨ (¬ d0 < 0 ∧ ¬ d1 < 0 ∧ ¬ d2 ≤ d1 ∧ ¬ d2 ≤ z ∧ ¬ 1099511627776 < d2 ∧ okD z ⟨d0, d1, d2⟩) := by
  unfold okD DrOk
  simp only
  omega
 rcases hcs with ⟨h1, hno⟩ | ⟨h1, h2, hno⟩ | ⟨h1, h2, h3, hno⟩ | ⟨h1, h2, h3, h4, hno⟩ | ⟨h1, h2, h3, h4, h5, hno⟩ | ⟨h1, h2, h3, h4, h5, hyes⟩
 · skip
   have t1 : decide (d0 < 0) = true := decide_eq_true h1
   have HNO := Lib.hid hno
   clear hno
   refine wp_region_noPanic ?_
   refine wp_region_z [] (fun (V : World) => V.cell? ⟨D, 0, none⟩ = some (.int .i64 d0) ∧ V.cell? ⟨D, 1, none⟩ = some (.int .i64 d1) ∧ V.cell? ⟨D, 2, none⟩ = some (.int .i64 d2) ∧ V.cell? ⟨k, 0, none⟩ = some (.slice pa pn pc) ∧ V.cell? ⟨k, 1, none⟩ = some (.int .i64 z)) (by kernel_rfl) ?_
   have hHeld := KS.out _ hdrw
   obtain ⟨ua_0, hu⟩ : ∃ u, u = W.drew := ⟨_, rfl⟩
   rw [← hu] at hHeld hdrw
   rw [← hu]
   clear hu
   have HU := Lib.hid hdrw
   clear hdrw
   refine zt 0 ?_
   refine zt 1 ?_
   refine zt 2 ?_
   refine zt 3 ?_
   refine zt 4 ?_
   refine zt 5 ?_
   refine zt 6 ?_
   refine zt 7 ?_
   refine zt 8 ?_
   refine zt 9 ?_
   refine zt 10 ?_
   refine zt 11 ?_
   refine zt 12 ?_
   refine zt 13 ?_
   refine zt 14 ?_
   refine zt 15 ?_
   refine zt 16 ?_
   refine zt 17 ?_
   refine zt 18 ?_
   refine zt 19 ?_
   refine zt 20 ?_
   refine zt 21 ?_
   refine zt 22 ?_
   refine zt 23 ?_
   refine zt 24 ?_
   refine zt 25 ?_
   refine zt 26 ?_
   refine zt 27 ?_
   refine zt 28 ?_
   refine wpAnyZ_done (by kernel_rfl) ?_ _
   refine NoPanic.normal ?_
   clear hHeld
   have HXE := Lib.hid (HX.out.on HU.out)
   have HRE := Lib.hid (HR.out.keep HU.out)
   have HGE : Hid (w.grownBy ua_0 (some k)) := grow_below HB.out HU.out
   clear KS HU HX HR HB HD
   go_wp2
   go_ret
   refine ⟨by rw [decide_eq_false HNO.out]; rfl, ?_, HGE.out⟩
   rw [if_neg HNO.out, if_neg HNO.out]
   exact ⟨pa, pn, pc, HXE.out, HRE.out, fun a ha => ⟨(HSP.out a ha).1, (HSP.out a ha).2.1, Nat.lt_of_lt_of_le (HSP.out a ha).2.2 HGE.out.size⟩⟩
 · skip
   have t1 : decide (d0 < 0) = false := decide_eq_false h1
   have t2 : decide (d1 < 0) = true := decide_eq_true h2
   have HNO := Lib.hid hno
   clear hno
   refine wp_region_noPanic ?_
   refine wp_region_z [] (fun (V : World) => V.cell? ⟨D, 0, none⟩ = some (.int .i64 d0) ∧ V.cell? ⟨D, 1, none⟩ = some (.int .i64 d1) ∧ V.cell? ⟨D, 2, none⟩ = some (.int .i64 d2) ∧ V.cell? ⟨k, 0, none⟩ = some (.slice pa pn pc) ∧ V.cell? ⟨k, 1, none⟩ = some (.int .i64 z)) (by kernel_rfl) ?_
   have hHeld := KS.out _ hdrw
   obtain ⟨ua_0, hu⟩ : ∃ u, u = W.drew := ⟨_, rfl⟩
   rw [← hu] at hHeld hdrw
   rw [← hu]
   clear hu
   have HU := Lib.hid hdrw
   clear hdrw
   refine zt 0 ?_
   refine zt 1 ?_
   refine zt 2 ?_
   refine zt 3 ?_
   refine zt 4 ?_
   refine zt 5 ?_
   refine zt 6 ?_
   refine zt 7 ?_
   refine zt 8 ?_
   refine zt 9 ?_
   refine zt 10 ?_
   refine zt 11 ?_
   refine zt 12 ?_
   refine zt 13 ?_
   refine zt 14 ?_
   refine zt 15 ?_
   refine zt 16 ?_
   refine zt 17 ?_
   refine zt 18 ?_
   refine zt 19 ?_
   refine zt 20 ?_
   refine zt 21 ?_
   refine zt 22 ?_
   refine zt 23 ?_
   refine zt 24 ?_
   refine zt 25 ?_
   refine zt 26 ?_
   refine zt 27 ?_
   refine zt 28 ?_
   refine wpAnyZ_done (by kernel_rfl) ?_ _
   refine NoPanic.normal ?_
   clear hHeld
   have HXE := Lib.hid (HX.out.on HU.out)
   have HRE := Lib.hid (HR.out.keep HU.out)
   have HGE : Hid (w.grownBy ua_0 (some k)) := grow_below HB.out HU.out
   clear KS HU HX HR HB HD
   go_wp2
   go_ret
   refine ⟨by rw [decide_eq_false HNO.out]; rfl, ?_, HGE.out⟩
   rw [if_neg HNO.out, if_neg HNO.out]
   exact ⟨pa, pn, pc, HXE.out, HRE.out, fun a ha => ⟨(HSP.out a ha).1, (HSP.out a ha).2.1, Nat.lt_of_lt_of_le (HSP.out a ha).2.2 HGE.out.size⟩⟩
 · skip
   have t1 : decide (d0 < 0) = false := decide_eq_false h1
   have t2 : decide (d1 < 0) = false := decide_eq_false h2
   have t3 : decide (d2 ≤ d1) = true := decide_eq_true h3
   have HNO := Lib.hid hno
   clear hno
   refine wp_region_noPanic ?_
   refine wp_region_z [] (fun (V : World) => V.cell? ⟨D, 0, none⟩ = some (.int .i64 d0) ∧ V.cell? ⟨D, 1, none⟩ = some (.int .i64 d1) ∧ V.cell? ⟨D, 2, none⟩ = some (.int .i64 d2) ∧ V.cell? ⟨k, 0, none⟩ = some (.slice pa pn pc) ∧ V.cell? ⟨k, 1, none⟩ = some (.int .i64 z)) (by kernel_rfl) ?_
   have hHeld := KS.out _ hdrw
   obtain ⟨ua_0, hu⟩ : ∃ u, u = W.drew := ⟨_, rfl⟩
   rw [← hu] at hHeld hdrw
   rw [← hu]
   clear hu
   have HU := Lib.hid hdrw
   clear hdrw
   refine zt 0 ?_
   refine zt 1 ?_
   refine zt 2 ?_
   refine zt 3 ?_
   refine zt 4 ?_
   refine zt 5 ?_
   refine zt 6 ?_
   refine zt 7 ?_
   refine zt 8 ?_
   refine zt 9 ?_
   refine zt 10 ?_
   refine zt 11 ?_
   refine zt 12 ?_
   refine zt 13 ?_
   refine zt 14 ?_
   refine zt 15 ?_
   refine zt 16 ?_
   refine zt 17 ?_
   refine zt 18 ?_
   refine zt 19 ?_
   refine zt 20 ?_
   refine zt 21 ?_
   refine zt 22 ?_
   refine zt 23 ?_
   refine zt 24 ?_
   refine zt 25 ?_
   refine zt 26 ?_
   refine zt 27 ?_
   refine zt 28 ?_
   refine wpAnyZ_done (by kernel_rfl) ?_ _
   refine NoPanic.normal ?_
   clear hHeld
   have HXE := Lib.hid (HX.out.on HU.out)
   have HRE := Lib.hid (HR.out.keep HU.out)
   have HGE : Hid (w.grownBy ua_0 (some k)) := grow_below HB.out HU.out
   clear KS HU HX HR HB HD
   go_wp2
   go_ret
   refine ⟨by rw [decide_eq_false HNO.out]; rfl, ?_, HGE.out⟩
   rw [if_neg HNO.out, if_neg HNO.out]
   exact ⟨pa, pn, pc, HXE.out, HRE.out, fun a ha => ⟨(HSP.out a ha).1, (HSP.out a ha).2.1, Nat.lt_of_lt_of_le (HSP.out a ha).2.2 HGE.out.size⟩⟩
 · skip
   have t1 : decide (d0 < 0) = false := decide_eq_false h1
   have t2 : decide (d1 < 0) = false := decide_eq_false h2
   have t3 : decide (d2 ≤ d1) = false := decide_eq_false h3
   have t4 : decide (d2 ≤ z) = true := decide_eq_true h4
   have HNO := Lib.hid hno
   clear hno
   refine wp_region_noPanic ?_
   refine wp_region_z [] (fun (V : World) => V.cell? ⟨D, 0, none⟩ = some (.int .i64 d0) ∧ V.cell? ⟨D, 1, none⟩ = some (.int .i64 d1) ∧ V.cell? ⟨D, 2, none⟩ = some (.int .i64 d2) ∧ V.cell? ⟨k, 0, none⟩ = some (.slice pa pn pc) ∧ V.cell? ⟨k, 1, none⟩ = some (.int .i64 z)) (by kernel_rfl) ?_
   have hHeld := KS.out _ hdrw
   obtain ⟨ua_0, hu⟩ : ∃ u, u = W.drew := ⟨_, rfl⟩
   rw [← hu] at hHeld hdrw
   rw [← hu]
   clear hu
   have HU := Lib.hid hdrw
   clear hdrw
   refine zt 0 ?_
   refine zt 1 ?_
   refine zt 2 ?_
   refine zt 3 ?_
   refine zt 4 ?_
   refine zt 5 ?_
   refine zt 6 ?_
   refine zt 7 ?_
   refine zt 8 ?_
   refine zt 9 ?_
   refine zt 10 ?_
   refine zt 11 ?_
   refine zt 12 ?_
   refine zt 13 ?_
   refine zt 14 ?_
   refine zt 15 ?_
   refine zt 16 ?_
   refine zt 17 ?_
   refine zt 18 ?_
   refine zt 19 ?_
   refine zt 20 ?_
   refine zt 21 ?_
   refine zt 22 ?_
   refine zt 23 ?_
   refine zt 24 ?_
   refine zt 25 ?_
   refine zt 26 ?_
   refine zt 27 ?_
   refine zt 28 ?_
   refine wpAnyZ_done (by kernel_rfl) ?_ _
   refine NoPanic.normal ?_
   clear hHeld
   have HXE := Lib.hid (HX.out.on HU.out)
   have HRE := Lib.hid (HR.out.keep HU.out)
   have HGE : Hid (w.grownBy ua_0 (some k)) := grow_below HB.out HU.out
   clear KS HU HX HR HB HD
   go_wp2
   go_ret
   refine ⟨by rw [decide_eq_false HNO.out]; rfl, ?_, HGE.out⟩
   rw [if_neg HNO.out, if_neg HNO.out]
   exact ⟨pa, pn, pc, HXE.out, HRE.out, fun a ha => ⟨(HSP.out a ha).1, (HSP.out a ha).2.1, Nat.lt_of_lt_of_le (HSP.out a ha).2.2 HGE.out.size⟩⟩
 · skip
   have t1 : decide (d0 < 0) = false := decide_eq_false h1
   have t2 : decide (d1 < 0) = false := decide_eq_false h2
   have t3 : decide (d2 ≤ d1) = false := decide_eq_false h3
   have t4 : decide (d2 ≤ z) = false := decide_eq_false h4
   have t5 : decide (1099511627776 < d2) = true := decide_eq_true h5
   have HNO := Lib.hid hno
   clear hno
   refine wp_region_noPanic ?_
   refine wp_region_z [] (fun (V : World) => V.cell? ⟨D, 0, none⟩ = some (.int .i64 d0) ∧ V.cell? ⟨D, 1, none⟩ = some (.int .i64 d1) ∧ V.cell? ⟨D, 2, none⟩ = some (.int .i64 d2) ∧ V.cell? ⟨k, 0, none⟩ = some (.slice pa pn pc) ∧ V.cell? ⟨k, 1, none⟩ = some (.int .i64 z)) (by kernel_rfl) ?_
   have hHeld := KS.out _ hdrw
   obtain ⟨ua_0, hu⟩ : ∃ u, u = W.drew := ⟨_, rfl⟩
   rw [← hu] at hHeld hdrw
   rw [← hu]
   clear hu
   have HU := Lib.hid hdrw
   clear hdrw
   refine zt 0 ?_
   refine zt 1 ?_
   refine zt 2 ?_
   refine zt 3 ?_
   refine zt 4 ?_
   refine zt 5 ?_
   refine zt 6 ?_
   refine zt 7 ?_
   refine zt 8 ?_
   refine zt 9 ?_
   refine zt 10 ?_
   refine zt 11 ?_
   refine zt 12 ?_
   refine zt 13 ?_
   refine zt 14 ?_
   refine zt 15 ?_
   refine zt 16 ?_
   refine zt 17 ?_
   refine zt 18 ?_
   refine zt 19 ?_
   refine zt 20 ?_
   refine zt 21 ?_
   refine zt 22 ?_
   refine zt 23 ?_
   refine zt 24 ?_
   refine zt 25 ?_
   refine zt 26 ?_
   refine zt 27 ?_
   refine zt 28 ?_
   refine wpAnyZ_done (by kernel_rfl) ?_ _
   refine NoPanic.normal ?_
   clear hHeld
   have HXE := Lib.hid (HX.out.on HU.out)
   have HRE := Lib.hid (HR.out.keep HU.out)
   have HGE : Hid (w.grownBy ua_0 (some k)) := grow_below HB.out HU.out
   clear KS HU HX HR HB HD
   go_wp2
   go_ret
   refine ⟨by rw [decide_eq_false HNO.out]; rfl, ?_, HGE.out⟩
   rw [if_neg HNO.out, if_neg HNO.out]
   exact ⟨pa, pn, pc, HXE.out, HRE.out, fun a ha => ⟨(HSP.out a ha).1, (HSP.out a ha).2.1, Nat.lt_of_lt_of_le (HSP.out a ha).2.2 HGE.out.size⟩⟩
 · skip
   have t1 : decide (d0 < 0) = false := decide_eq_false h1
   have t2 : decide (d1 < 0) = false := decide_eq_false h2
   have t3 : decide (d2 ≤ d1) = false := decide_eq_false h3
   have t4 : decide (d2 ≤ z) = false := decide_eq_false h4
   have t5 : decide (1099511627776 < d2) = false := decide_eq_false h5
   have HYES := Lib.hid hyes
   clear hyes
   refine wp_region_noPanic ?_
   refine wp_region_z [] (fun (V : World) => V.cell? ⟨D, 0, none⟩ = some (.int .i64 d0) ∧ V.cell? ⟨D, 1, none⟩ = some (.int .i64 d1) ∧ V.cell? ⟨D, 2, none⟩ = some (.int .i64 d2) ∧ V.cell? ⟨k, 0, none⟩ = some (.slice pa pn pc) ∧ V.cell? ⟨k, 1, none⟩ = some (.int .i64 z)) (by kernel_rfl) ?_
   have hHeld := KS.out _ hdrw
   obtain ⟨ua_0, hu⟩ : ∃ u, u = W.drew := ⟨_, rfl⟩
   rw [← hu] at hHeld hdrw
   rw [← hu]
   clear hu
   have HU := Lib.hid hdrw
   clear hdrw
   refine zt 0 ?_
   refine zt 1 ?_
   refine zt 2 ?_
   refine zt 3 ?_
   refine zt 4 ?_
   refine zt 5 ?_
   refine zt 6 ?_
   refine zt 7 ?_
   refine zt 8 ?_
   refine zt 9 ?_
   refine zt 10 ?_
   refine zt 11 ?_
   refine zt 12 ?_
   refine zt 13 ?_
   refine zt 14 ?_
   refine zt 15 ?_
   refine zt 16 ?_
   refine zt 17 ?_
   refine zt 18 ?_
   refine zt 19 ?_
   refine zt 20 ?_
   refine zt 21 ?_
   refine zt 22 ?_
   refine zt 23 ?_
   refine zt 24 ?_
   refine zt 25 ?_
   refine zt 26 ?_
   refine zt 27 ?_
   refine zt 28 ?_
   refine wpAnyZ_done (by kernel_rfl) ?_ _
   refine NoPanic.normal ?_
   clear hHeld
   replace HX := Lib.hid (HX.out.on HU.out)
   replace HR := Lib.hid (HR.out.keep HU.out)
   replace HD := Lib.hid (HD.out.on HU.out)
   replace HB : Hid (w.grownBy ua_0 (some k)) := grow_below HB.out HU.out
   clear KS HU
   have KS : Hid (∀ V, Below ua_0.heap.size ua_0 V → (fun (V : World) => V.cell? ⟨D, 0, none⟩ = some (.int .i64 d0) ∧ V.cell? ⟨D, 1, none⟩ = some (.int .i64 d1) ∧ V.cell? ⟨D, 2, none⟩ = some (.int .i64 d2)) V) := fun V hV => ⟨(HD.out.on hV).c0, (HD.out.on hV).c1, (HD.out.on hV).c2⟩
   have hdrw : Below ua_0.heap.size ua_0 ua_0.drew := (Below.refl _ ua_0).drew
   go_upto_region 3 with fail
   refine wp_region_noPanic ?_
   refine wp_region_z [] (fun (V : World) => V.cell? ⟨D, 0, none⟩ = some (.int .i64 d0) ∧ V.cell? ⟨D, 1, none⟩ = some (.int .i64 d1) ∧ V.cell? ⟨D, 2, none⟩ = some (.int .i64 d2)) (by kernel_rfl) ?_
   have hHeld := KS.out _ hdrw
   obtain ⟨u0, hu⟩ : ∃ u, u = ua_0.drew := ⟨_, rfl⟩
   rw [← hu] at hHeld hdrw
   rw [← hu]
   clear hu
   have HU := Lib.hid hdrw
   clear hdrw
   refine zt 0 ?_
   refine zt 1 ?_
   refine zt 3 ?_
   refine zt 4 ?_
   refine zt 5 ?_
   refine zt 8 ?_
   refine zt 11 ?_
   refine zt 12 ?_
   refine wpAnyZ_ready (rs := [2, 6, 9]) (by kernel_rfl) (by simp) ?_
   refine AllReadyZ.cons (o := ⟨_, _, _, _, _, _⟩) rfl (fun C hC => ?_) (AllReadyZ.cons (o := ⟨_, _, _, _, _, _⟩) rfl (fun C hC => ?_) (AllReadyZ.cons (o := ⟨_, _, _, _, _, _⟩) rfl (fun C hC => ?_) AllReadyZ.nil))
   · skip
     go_simp
     obtain ⟨u1, hu⟩ : ∃ z, z = u0.alloc (.cells #[] 29) := ⟨_, rfl⟩
     have hbb : Below u0.heap.size u0 u1 := by rw [hu]; exact (Below.refl _ _).alloc (Nat.le_refl _) _
     obtain ⟨ga, hg⟩ : ∃ z, z = u0.heap.size := ⟨_, rfl⟩
     have HO : Hid (OwnRow drK u1 ua_0.heap.size (.slice (some ⟨ga, 0, none⟩) 0 0) []) := by show OwnRow _ _ _ _ _; rw [hu, hg]; exact ownRow_lit drK_ok u0 _ [] HU.out.size (by simp) _ rfl 0 rfl
     replace HU := Lib.hid (HU.out.trans (hbb.mono HU.out.size))
     rw [← hu, ← hg]
     clear hu hg hbb
     have hHeld := KS.out _ HU.out
     refine zcl hC hHeld ?_
     clear hC C
     refine wpAnyZ_ready (rs := [6, 9]) (by kernel_rfl) (by simp) ?_
     refine AllReadyZ.cons (o := ⟨_, _, _, _, _, _⟩) rfl (fun C hC => ?_) (AllReadyZ.cons (o := ⟨_, _, _, _, _, _⟩) rfl (fun C hC => ?_) AllReadyZ.nil)
     · skip
       have r0 := (HX.out.on HU.out).c0
       go_simp
       clear r0
       have hHeld := KS.out _ HU.out
       refine zcl hC hHeld ?_
       clear hC C
       refine wpAnyZ_ready (rs := [7, 9]) (by kernel_rfl) (by simp) ?_
       refine AllReadyZ.cons (o := ⟨_, _, _, _, _, _⟩) rfl (fun C hC => ?_) (AllReadyZ.cons (o := ⟨_, _, _, _, _, _⟩) rfl (fun C hC => ?_) AllReadyZ.nil)
       · skip
         refine held_row (by rfl) drK_ok (.tmp 36) (.tmp 40) rfl ua_0.heap.size [] l _ rfl HO.out HU.out.size pa pn pc rfl (HR.out.keep HU.out) (by have := HLL.out; have := HPN.out; simp only [List.length_nil]; omega) ?_
         rintro v2 u2 hap
         replace HU := Lib.hid (HU.out.grown hap.2.1 HU.out.size (fun q hq => (HO.out.lt q hq).1))
         replace HO := Lib.hid hap.1
         (try rw [List.nil_append] at HO)
         clear hap
         have hHeld := KS.out _ HU.out
         refine zcl hC hHeld ?_
         clear hC C
         refine zr 9 (fun C hC => ?_)
         go_simp
         obtain ⟨u3, hu⟩ : ∃ z, z = u2.alloc (.cells #[.int .i64 d0, .int .i64 d1, .int .i64 d2] 29) := ⟨_, rfl⟩
         have hbb : Below u2.heap.size u2 u3 := by rw [hu]; exact (Below.refl _ _).alloc (Nat.le_refl _) _
         obtain ⟨gx, hg⟩ : ∃ z, z = u2.heap.size := ⟨_, rfl⟩
         have HXR : Hid (RowAt drK u3 (some ⟨gx, 0, none⟩) 1 1 [⟨d0, d1, d2⟩]) := by show RowAt _ _ _ _ _ _; rw [hu, hg]; exact rowAt_lit drK_ok u2 [⟨d0, d1, d2⟩] (by simp) _ rfl 1 rfl
         have HGX : Hid (gx < u3.heap.size) := by show _ < _; rw [hu, hg]; simp
         have HNE : Hid (∀ q, (v2 : Value).ownBlock = some q → q ≠ gx) := fun q hq => by have := (HO.out.lt q hq).2; omega
         replace HO := Lib.hid (HO.out.on hbb)
         replace HU := Lib.hid (HU.out.trans (hbb.mono HU.out.size))
         rw [← hu, ← hg]
         clear hu hg hbb
         have hHeld := KS.out _ HU.out
         refine zcl hC hHeld ?_
         clear hC C
         refine zr 10 (fun C hC => ?_)
         refine held_row (by rfl) drK_ok (.tmp 41) (.tmp 43) rfl ua_0.heap.size l [⟨d0, d1, d2⟩] _ rfl HO.out HU.out.size (some ⟨gx, 0, none⟩) 1 1 rfl HXR.out (by have := HLL.out; omega) ?_
         rintro v4 u4 hap
         obtain ⟨n2, hn2⟩ : ∃ n, (l ++ [(⟨d0, d1, d2⟩ : Dr)]).length = n := ⟨_, rfl⟩
         obtain ⟨za, zc, hz, hzr, hzk⟩ := OwnRow.row drK_ok hap.1 hn2
         subst hz
         replace HU := Lib.hid (HU.out.grown hap.2.1 HU.out.size (fun q hq => (HO.out.lt q hq).1))
         have HZR := Lib.hid hzr
         have HZK : Hid (∀ a, za = some a → ua_0.heap.size ≤ a.block) := fun a ha => (hzk a ha).1
         clear hap hzr hzk hn2
         have HXE := Lib.hid (HX.out.on HU.out)
         have HGE : Hid (w.grownBy u4 (some k)) := grow_below HB.out HU.out
         have r0 := HXE.out.c0
         have r1 := HXE.out.c1
         have f0 := HXE.out.free 0
         have f1 := HXE.out.free 1
         have hHeld := KS.out _ HU.out
         refine zcl hC hHeld ?_
         clear hC C
         refine zt 13 ?_
         refine zt 14 ?_
         refine zr 15 (fun C hC => ?_)
         go_simp
         obtain ⟨y1, hy1⟩ : ∃ y, y = u4.setCell ⟨k, 0, none⟩ (.slice za n2 zc) := ⟨_, rfl⟩
         have HX1 : Hid (LBox y1 k (.slice za n2 zc) z) := by show LBox _ _ _ _; rw [hy1]; exact HXE.out.s0 _
         have hne : ∀ a, za = some a → a.block ≠ k := fun a ha e => by have := HZK.out a ha; have := HX.out.lt; omega
         have HZ1 : Hid (RowAt drK y1 za n2 zc (l ++ [⟨d0, d1, d2⟩])) := by show RowAt _ _ _ _ _ _; rw [hy1]; exact HZR.out.off hne _ _
         have HG1 : Hid (w.grownBy y1 (some k)) := by show World.grownBy _ _ _; rw [hy1]; exact grow_set HGE.out 0 _
         have HD1 : Hid (DBox y1 D ⟨d0, d1, d2⟩) := by show DBox _ _ _; rw [hy1]; exact box_off (HD.out.on HU.out) HDK.out.symm _
         (try rw [← hy1])
         clear hy1 r0 r1 f0 f1
         have r1 := HX1.out.c1
         have f1 := HX1.out.free 1
         have hHeld : (fun (V : World) => V.cell? ⟨D, 0, none⟩ = some (.int .i64 d0) ∧ V.cell? ⟨D, 1, none⟩ = some (.int .i64 d1) ∧ V.cell? ⟨D, 2, none⟩ = some (.int .i64 d2)) y1 := ⟨HD1.out.c0, HD1.out.c1, HD1.out.c2⟩
         refine zcl hC hHeld ?_
         clear hC C
         refine zt 16 ?_
         refine zt 17 ?_
         refine zr 18 (fun C hC => ?_)
         go_simp
         obtain ⟨y2, hy2⟩ : ∃ y, y = y1.setCell ⟨k, 1, none⟩ (.int .i64 d2) := ⟨_, rfl⟩
         have HX2 : Hid (LBox y2 k (.slice za n2 zc) d2) := by show LBox _ _ _ _; rw [hy2]; exact HX1.out.s1 _
         have HZ2 : Hid (RowAt drK y2 za n2 zc (l ++ [⟨d0, d1, d2⟩])) := by show RowAt _ _ _ _ _ _; rw [hy2]; exact HZ1.out.off hne _ _
         have HG2 : Hid (w.grownBy y2 (some k)) := by show World.grownBy _ _ _; rw [hy2]; exact grow_set HG1.out 1 _
         have HD2 : Hid (DBox y2 D ⟨d0, d1, d2⟩) := by show DBox _ _ _; rw [hy2]; exact box_off HD1.out HDK.out.symm _
         (try rw [← hy2])
         clear hy2 r1 f1
         have hHeld : (fun (V : World) => V.cell? ⟨D, 0, none⟩ = some (.int .i64 d0) ∧ V.cell? ⟨D, 1, none⟩ = some (.int .i64 d1) ∧ V.cell? ⟨D, 2, none⟩ = some (.int .i64 d2)) y2 := ⟨HD2.out.c0, HD2.out.c1, HD2.out.c2⟩
         refine zcl hC hHeld ?_
         clear hC C
         refine wpAnyZ_done (by kernel_rfl) ?_ _
         refine NoPanic.normal ?_
         clear hHeld
         go_wp2
         go_ret
         refine ⟨by rw [decide_eq_true HYES.out]; rfl, ?_, HG2.out⟩
         rw [if_pos HYES.out, if_pos HYES.out]
         exact ⟨za, n2, zc, HX2.out, HZ2.out, fun a ha => ⟨hne a ha, HBW.out _ (Nat.le_trans HB.out.size (HZK.out a ha)), by
          have h0 := HZ2.out.length
          rw [List.length_append, List.length_singleton] at h0
          obtain ⟨b, off, x, e, hlt, _⟩ := dr_get HZ2.out (i := 0) (by omega)
          rw [e] at ha
          cases ha
          exact hlt⟩⟩
       · skip
         go_simp
         obtain ⟨u2, hu⟩ : ∃ z, z = u1.alloc (.cells #[.int .i64 d0, .int .i64 d1, .int .i64 d2] 29) := ⟨_, rfl⟩
         have hbb : Below u1.heap.size u1 u2 := by rw [hu]; exact (Below.refl _ _).alloc (Nat.le_refl _) _
         obtain ⟨gx, hg⟩ : ∃ z, z = u1.heap.size := ⟨_, rfl⟩
         have HXR : Hid (RowAt drK u2 (some ⟨gx, 0, none⟩) 1 1 [⟨d0, d1, d2⟩]) := by show RowAt _ _ _ _ _ _; rw [hu, hg]; exact rowAt_lit drK_ok u1 [⟨d0, d1, d2⟩] (by simp) _ rfl 1 rfl
         have HGX : Hid (gx < u2.heap.size) := by show _ < _; rw [hu, hg]; simp
         have HNE : Hid (∀ q, (Value.slice (some ⟨ga, 0, none⟩) 0 0 : Value).ownBlock = some q → q ≠ gx) := fun q hq => by have := (HO.out.lt q hq).2; omega
         replace HO := Lib.hid (HO.out.on hbb)
         replace HU := Lib.hid (HU.out.trans (hbb.mono HU.out.size))
         rw [← hu, ← hg]
         clear hu hg hbb
         have hHeld := KS.out _ HU.out
         refine zcl hC hHeld ?_
         clear hC C
         refine zr 7 (fun C hC => ?_)
         refine held_row (by rfl) drK_ok (.tmp 36) (.tmp 40) rfl ua_0.heap.size [] l _ rfl HO.out HU.out.size pa pn pc rfl (HR.out.keep HU.out) (by have := HLL.out; have := HPN.out; simp only [List.length_nil]; omega) ?_
         rintro v3 u3 hap
         replace HXR := Lib.hid (HXR.out.grown hap.2.1 (fun a ha e => by cases ha; exact HNE.out _ e.symm rfl))
         replace HNE : Hid (∀ q, (v3 : Value).ownBlock = some q → q ≠ gx) := fun q hq => by
          rcases hap.2.2.2 q hq with h | h
          · exact HNE.out q h
          · have := HGX.out; omega
         replace HGX : Hid (gx < u3.heap.size) := Nat.lt_of_lt_of_le HGX.out hap.2.1.size
         replace HU := Lib.hid (HU.out.grown hap.2.1 HU.out.size (fun q hq => (HO.out.lt q hq).1))
         replace HO := Lib.hid hap.1
         (try rw [List.nil_append] at HO)
         clear hap
         have hHeld := KS.out _ HU.out
         refine zcl hC hHeld ?_
         clear hC C
         refine zr 10 (fun C hC => ?_)
         refine held_row (by rfl) drK_ok (.tmp 41) (.tmp 43) rfl ua_0.heap.size l [⟨d0, d1, d2⟩] _ rfl HO.out HU.out.size (some ⟨gx, 0, none⟩) 1 1 rfl HXR.out (by have := HLL.out; omega) ?_
         rintro v4 u4 hap
         obtain ⟨n2, hn2⟩ : ∃ n, (l ++ [(⟨d0, d1, d2⟩ : Dr)]).length = n := ⟨_, rfl⟩
         obtain ⟨za, zc, hz, hzr, hzk⟩ := OwnRow.row drK_ok hap.1 hn2
         subst hz
         replace HU := Lib.hid (HU.out.grown hap.2.1 HU.out.size (fun q hq => (HO.out.lt q hq).1))
         have HZR := Lib.hid hzr
         have HZK : Hid (∀ a, za = some a → ua_0.heap.size ≤ a.block) := fun a ha => (hzk a ha).1
         clear hap hzr hzk hn2
         have HXE := Lib.hid (HX.out.on HU.out)
         have HGE : Hid (w.grownBy u4 (some k)) := grow_below HB.out HU.out
         have r0 := HXE.out.c0
         have r1 := HXE.out.c1
         have f0 := HXE.out.free 0
         have f1 := HXE.out.free 1
         have hHeld := KS.out _ HU.out
         refine zcl hC hHeld ?_
         clear hC C
         refine zt 13 ?_
         refine zt 14 ?_
         refine zr 15 (fun C hC => ?_)
         go_simp
         obtain ⟨y1, hy1⟩ : ∃ y, y = u4.setCell ⟨k, 0, none⟩ (.slice za n2 zc) := ⟨_, rfl⟩
         have HX1 : Hid (LBox y1 k (.slice za n2 zc) z) := by show LBox _ _ _ _; rw [hy1]; exact HXE.out.s0 _
         have hne : ∀ a, za = some a → a.block ≠ k := fun a ha e => by have := HZK.out a ha; have := HX.out.lt; omega
         have HZ1 : Hid (RowAt drK y1 za n2 zc (l ++ [⟨d0, d1, d2⟩])) := by show RowAt _ _ _ _ _ _; rw [hy1]; exact HZR.out.off hne _ _
         have HG1 : Hid (w.grownBy y1 (some k)) := by show World.grownBy _ _ _; rw [hy1]; exact grow_set HGE.out 0 _
         have HD1 : Hid (DBox y1 D ⟨d0, d1, d2⟩) := by show DBox _ _ _; rw [hy1]; exact box_off (HD.out.on HU.out) HDK.out.symm _
         (try rw [← hy1])
         clear hy1 r0 r1 f0 f1
         have r1 := HX1.out.c1
         have f1 := HX1.out.free 1
         have hHeld : (fun (V : World) => V.cell? ⟨D, 0, none⟩ = some (.int .i64 d0) ∧ V.cell? ⟨D, 1, none⟩ = some (.int .i64 d1) ∧ V.cell? ⟨D, 2, none⟩ = some (.int .i64 d2)) y1 := ⟨HD1.out.c0, HD1.out.c1, HD1.out.c2⟩
         refine zcl hC hHeld ?_
         clear hC C
         refine zt 16 ?_
         refine zt 17 ?_
         refine zr 18 (fun C hC => ?_)
         go_simp
         obtain ⟨y2, hy2⟩ : ∃ y, y = y1.setCell ⟨k, 1, none⟩ (.int .i64 d2) := ⟨_, rfl⟩
         have HX2 : Hid (LBox y2 k (.slice za n2 zc) d2) := by show LBox _ _ _ _; rw [hy2]; exact HX1.out.s1 _
         have HZ2 : Hid (RowAt drK y2 za n2 zc (l ++ [⟨d0, d1, d2⟩])) := by show RowAt _ _ _ _ _ _; rw [hy2]; exact HZ1.out.off hne _ _
         have HG2 : Hid (w.grownBy y2 (some k)) := by show World.grownBy _ _ _; rw [hy2]; exact grow_set HG1.out 1 _
         have HD2 : Hid (DBox y2 D ⟨d0, d1, d2⟩) := by show DBox _ _ _; rw [hy2]; exact box_off HD1.out HDK.out.symm _
         (try rw [← hy2])
         clear hy2 r1 f1
         have hHeld : (fun (V : World) => V.cell? ⟨D, 0, none⟩ = some (.int .i64 d0) ∧ V.cell? ⟨D, 1, none⟩ = some (.int .i64 d1) ∧ V.cell? ⟨D, 2, none⟩ = some (.int .i64 d2)) y2 := ⟨HD2.out.c0, HD2.out.c1, HD2.out.c2⟩
         refine zcl hC hHeld ?_
         clear hC C
         refine wpAnyZ_done (by kernel_rfl) ?_ _
         refine NoPanic.normal ?_
         clear hHeld
         go_wp2
         go_ret
         refine ⟨by rw [decide_eq_true HYES.out]; rfl, ?_, HG2.out⟩
         rw [if_pos HYES.out, if_pos HYES.out]
         exact ⟨za, n2, zc, HX2.out, HZ2.out, fun a ha => ⟨hne a ha, HBW.out _ (Nat.le_trans HB.out.size (HZK.out a ha)), by
          have h0 := HZ2.out.length
          rw [List.length_append, List.length_singleton] at h0
          obtain ⟨b, off, x, e, hlt, _⟩ := dr_get HZ2.out (i := 0) (by omega)
          rw [e] at ha
          cases ha
          exact hlt⟩⟩
     · skip
       go_simp
       obtain ⟨u2, hu⟩ : ∃ z, z = u1.alloc (.cells #[.int .i64 d0, .int .i64 d1, .int .i64 d2] 29) := ⟨_, rfl⟩
       have hbb : Below u1.heap.size u1 u2 := by rw [hu]; exact (Below.refl _ _).alloc (Nat.le_refl _) _
       obtain ⟨gx, hg⟩ : ∃ z, z = u1.heap.size := ⟨_, rfl⟩
       have HXR : Hid (RowAt drK u2 (some ⟨gx, 0, none⟩) 1 1 [⟨d0, d1, d2⟩]) := by show RowAt _ _ _ _ _ _; rw [hu, hg]; exact rowAt_lit drK_ok u1 [⟨d0, d1, d2⟩] (by simp) _ rfl 1 rfl
       have HGX : Hid (gx < u2.heap.size) := by show _ < _; rw [hu, hg]; simp
       have HNE : Hid (∀ q, (Value.slice (some ⟨ga, 0, none⟩) 0 0 : Value).ownBlock = some q → q ≠ gx) := fun q hq => by have := (HO.out.lt q hq).2; omega
       replace HO := Lib.hid (HO.out.on hbb)
       replace HU := Lib.hid (HU.out.trans (hbb.mono HU.out.size))
       rw [← hu, ← hg]
       clear hu hg hbb
       have hHeld := KS.out _ HU.out
       refine zcl hC hHeld ?_
       clear hC C
       refine zr 6 (fun C hC => ?_)
       have r0 := (HX.out.on HU.out).c0
       go_simp
       clear r0
       have hHeld := KS.out _ HU.out
       refine zcl hC hHeld ?_
       clear hC C
       refine zr 7 (fun C hC => ?_)
       refine held_row (by rfl) drK_ok (.tmp 36) (.tmp 40) rfl ua_0.heap.size [] l _ rfl HO.out HU.out.size pa pn pc rfl (HR.out.keep HU.out) (by have := HLL.out; have := HPN.out; simp only [List.length_nil]; omega) ?_
       rintro v3 u3 hap
       replace HXR := Lib.hid (HXR.out.grown hap.2.1 (fun a ha e => by cases ha; exact HNE.out _ e.symm rfl))
       replace HNE : Hid (∀ q, (v3 : Value).ownBlock = some q → q ≠ gx) := fun q hq => by
        rcases hap.2.2.2 q hq with h | h
        · exact HNE.out q h
        · have := HGX.out; omega
       replace HGX : Hid (gx < u3.heap.size) := Nat.lt_of_lt_of_le HGX.out hap.2.1.size
       replace HU := Lib.hid (HU.out.grown hap.2.1 HU.out.size (fun q hq => (HO.out.lt q hq).1))
       replace HO := Lib.hid hap.1
       (try rw [List.nil_append] at HO)
       clear hap
       have hHeld := KS.out _ HU.out
       refine zcl hC hHeld ?_
       clear hC C
       refine zr 10 (fun C hC => ?_)
       refine held_row (by rfl) drK_ok (.tmp 41) (.tmp 43) rfl ua_0.heap.size l [⟨d0, d1, d2⟩] _ rfl HO.out HU.out.size (some ⟨gx, 0, none⟩) 1 1 rfl HXR.out (by have := HLL.out; omega) ?_
       rintro v4 u4 hap
       obtain ⟨n2, hn2⟩ : ∃ n, (l ++ [(⟨d0, d1, d2⟩ : Dr)]).length = n := ⟨_, rfl⟩
       obtain ⟨za, zc, hz, hzr, hzk⟩ := OwnRow.row drK_ok hap.1 hn2
       subst hz
       replace HU := Lib.hid (HU.out.grown hap.2.1 HU.out.size (fun q hq => (HO.out.lt q hq).1))
       have HZR := Lib.hid hzr
       have HZK : Hid (∀ a, za = some a → ua_0.heap.size ≤ a.block) := fun a ha => (hzk a ha).1
       clear hap hzr hzk hn2
       have HXE := Lib.hid (HX.out.on HU.out)
       have HGE : Hid (w.grownBy u4 (some k)) := grow_below HB.out HU.out
       have r0 := HXE.out.c0
       have r1 := HXE.out.c1
       have f0 := HXE.out.free 0
       have f1 := HXE.out.free 1
       have hHeld := KS.out _ HU.out
       refine zcl hC hHeld ?_
       clear hC C
       refine zt 13 ?_
       refine zt 14 ?_
       refine zr 15 (fun C hC => ?_)
       go_simp
       obtain ⟨y1, hy1⟩ : ∃ y, y = u4.setCell ⟨k, 0, none⟩ (.slice za n2 zc) := ⟨_, rfl⟩
       have HX1 : Hid (LBox y1 k (.slice za n2 zc) z) := by show LBox _ _ _ _; rw [hy1]; exact HXE.out.s0 _
       have hne : ∀ a, za = some a → a.block ≠ k := fun a ha e => by have := HZK.out a ha; have := HX.out.lt; omega
       have HZ1 : Hid (RowAt drK y1 za n2 zc (l ++ [⟨d0, d1, d2⟩])) := by show RowAt _ _ _ _ _ _; rw [hy1]; exact HZR.out.off hne _ _
       have HG1 : Hid (w.grownBy y1 (some k)) := by show World.grownBy _ _ _; rw [hy1]; exact grow_set HGE.out 0 _
       have HD1 : Hid (DBox y1 D ⟨d0, d1, d2⟩) := by show DBox _ _ _; rw [hy1]; exact box_off (HD.out.on HU.out) HDK.out.symm _
       (try rw [← hy1])
       clear hy1 r0 r1 f0 f1
       have r1 := HX1.out.c1
       have f1 := HX1.out.free 1
       have hHeld : (fun (V : World) => V.cell? ⟨D, 0, none⟩ = some (.int .i64 d0) ∧ V.cell? ⟨D, 1, none⟩ = some (.int .i64 d1) ∧ V.cell? ⟨D, 2, none⟩ = some (.int .i64 d2)) y1 := ⟨HD1.out.c0, HD1.out.c1, HD1.out.c2⟩
       refine zcl hC hHeld ?_
       clear hC C
       refine zt 16 ?_
       refine zt 17 ?_
       refine zr 18 (fun C hC => ?_)
       go_simp
       obtain ⟨y2, hy2⟩ : ∃ y, y = y1.setCell ⟨k, 1, none⟩ (.int .i64 d2) := ⟨_, rfl⟩
       have HX2 : Hid (LBox y2 k (.slice za n2 zc) d2) := by show LBox _ _ _ _; rw [hy2]; exact HX1.out.s1 _
       have HZ2 : Hid (RowAt drK y2 za n2 zc (l ++ [⟨d0, d1, d2⟩])) := by show RowAt _ _ _ _ _ _; rw [hy2]; exact HZ1.out.off hne _ _
       have HG2 : Hid (w.grownBy y2 (some k)) := by show World.grownBy _ _ _; rw [hy2]; exact grow_set HG1.out 1 _
       have HD2 : Hid (DBox y2 D ⟨d0, d1, d2⟩) := by show DBox _ _ _; rw [hy2]; exact box_off HD1.out HDK.out.symm _
       (try rw [← hy2])
       clear hy2 r1 f1
       have hHeld : (fun (V : World) => V.cell? ⟨D, 0, none⟩ = some (.int .i64 d0) ∧ V.cell? ⟨D, 1, none⟩ = some (.int .i64 d1) ∧ V.cell? ⟨D, 2, none⟩ = some (.int .i64 d2)) y2 := ⟨HD2.out.c0, HD2.out.c1, HD2.out.c2⟩
       refine zcl hC hHeld ?_
       clear hC C
       refine wpAnyZ_done (by kernel_rfl) ?_ _
       refine NoPanic.normal ?_
       clear hHeld
       go_wp2
       go_ret
       refine ⟨by rw [decide_eq_true HYES.out]; rfl, ?_, HG2.out⟩
       rw [if_pos HYES.out, if_pos HYES.out]
       exact ⟨za, n2, zc, HX2.out, HZ2.out, fun a ha => ⟨hne a ha, HBW.out _ (Nat.le_trans HB.out.size (HZK.out a ha)), by
        have h0 := HZ2.out.length
        rw [List.length_append, List.length_singleton] at h0
        obtain ⟨b, off, x, e, hlt, _⟩ := dr_get HZ2.out (i := 0) (by omega)
        rw [e] at ha
        cases ha
        exact hlt⟩⟩
   · skip
     have r0 := (HX.out.on HU.out).c0
     go_simp
     clear r0
     have hHeld := KS.out _ HU.out
     refine zcl hC hHeld ?_
     clear hC C
     refine wpAnyZ_ready (rs := [2, 9]) (by kernel_rfl) (by simp) ?_
     refine AllReadyZ.cons (o := ⟨_, _, _, _, _, _⟩) rfl (fun C hC => ?_) (AllReadyZ.cons (o := ⟨_, _, _, _, _, _⟩) rfl (fun C hC => ?_) AllReadyZ.nil)
     · skip
       go_simp
       obtain ⟨u1, hu⟩ : ∃ z, z = u0.alloc (.cells #[] 29) := ⟨_, rfl⟩
       have hbb : Below u0.heap.size u0 u1 := by rw [hu]; exact (Below.refl _ _).alloc (Nat.le_refl _) _
       obtain ⟨ga, hg⟩ : ∃ z, z = u0.heap.size := ⟨_, rfl⟩
       have HO : Hid (OwnRow drK u1 ua_0.heap.size (.slice (some ⟨ga, 0, none⟩) 0 0) []) := by show OwnRow _ _ _ _ _; rw [hu, hg]; exact ownRow_lit drK_ok u0 _ [] HU.out.size (by simp) _ rfl 0 rfl
       replace HU := Lib.hid (HU.out.trans (hbb.mono HU.out.size))
       rw [← hu, ← hg]
       clear hu hg hbb
       have hHeld := KS.out _ HU.out
       refine zcl hC hHeld ?_
       clear hC C
       refine wpAnyZ_ready (rs := [7, 9]) (by kernel_rfl) (by simp) ?_
       refine AllReadyZ.cons (o := ⟨_, _, _, _, _, _⟩) rfl (fun C hC => ?_) (AllReadyZ.cons (o := ⟨_, _, _, _, _, _⟩) rfl (fun C hC => ?_) AllReadyZ.nil)
       · skip
         refine held_row (by rfl) drK_ok (.tmp 36) (.tmp 40) rfl ua_0.heap.size [] l _ rfl HO.out HU.out.size pa pn pc rfl (HR.out.keep HU.out) (by have := HLL.out; have := HPN.out; simp only [List.length_nil]; omega) ?_
         rintro v2 u2 hap
         replace HU := Lib.hid (HU.out.grown hap.2.1 HU.out.size (fun q hq => (HO.out.lt q hq).1))
         replace HO := Lib.hid hap.1
         (try rw [List.nil_append] at HO)
         clear hap
         have hHeld := KS.out _ HU.out
         refine zcl hC hHeld ?_
         clear hC C
         refine zr 9 (fun C hC => ?_)
         go_simp
         obtain ⟨u3, hu⟩ : ∃ z, z = u2.alloc (.cells #[.int .i64 d0, .int .i64 d1, .int .i64 d2] 29) := ⟨_, rfl⟩
         have hbb : Below u2.heap.size u2 u3 := by rw [hu]; exact (Below.refl _ _).alloc (Nat.le_refl _) _
         obtain ⟨gx, hg⟩ : ∃ z, z = u2.heap.size := ⟨_, rfl⟩
         have HXR : Hid (RowAt drK u3 (some ⟨gx, 0, none⟩) 1 1 [⟨d0, d1, d2⟩]) := by show RowAt _ _ _ _ _ _; rw [hu, hg]; exact rowAt_lit drK_ok u2 [⟨d0, d1, d2⟩] (by simp) _ rfl 1 rfl
         have HGX : Hid (gx < u3.heap.size) := by show _ < _; rw [hu, hg]; simp
         have HNE : Hid (∀ q, (v2 : Value).ownBlock = some q → q ≠ gx) := fun q hq => by have := (HO.out.lt q hq).2; omega
         replace HO := Lib.hid (HO.out.on hbb)
         replace HU := Lib.hid (HU.out.trans (hbb.mono HU.out.size))
         rw [← hu, ← hg]
         clear hu hg hbb
         have hHeld := KS.out _ HU.out
         refine zcl hC hHeld ?_
         clear hC C
         refine zr 10 (fun C hC => ?_)
         refine held_row (by rfl) drK_ok (.tmp 41) (.tmp 43) rfl ua_0.heap.size l [⟨d0, d1, d2⟩] _ rfl HO.out HU.out.size (some ⟨gx, 0, none⟩) 1 1 rfl HXR.out (by have := HLL.out; omega) ?_
         rintro v4 u4 hap
         obtain ⟨n2, hn2⟩ : ∃ n, (l ++ [(⟨d0, d1, d2⟩ : Dr)]).length = n := ⟨_, rfl⟩
         obtain ⟨za, zc, hz, hzr, hzk⟩ := OwnRow.row drK_ok hap.1 hn2
         subst hz
         replace HU := Lib.hid (HU.out.grown hap.2.1 HU.out.size (fun q hq => (HO.out.lt q hq).1))
         have HZR := Lib.hid hzr
         have HZK : Hid (∀ a, za = some a → ua_0.heap.size ≤ a.block) := fun a ha => (hzk a ha).1
         clear hap hzr hzk hn2
         have HXE := Lib.hid (HX.out.on HU.out)
         have HGE : Hid (w.grownBy u4 (some k)) := grow_below HB.out HU.out
         have r0 := HXE.out.c0
         have r1 := HXE.out.c1
         have f0 := HXE.out.free 0
         have f1 := HXE.out.free 1
         have hHeld := KS.out _ HU.out
         refine zcl hC hHeld ?_
         clear hC C
         refine zt 13 ?_
         refine zt 14 ?_
         refine zr 15 (fun C hC => ?_)
         go_simp
         obtain ⟨y1, hy1⟩ : ∃ y, y = u4.setCell ⟨k, 0, none⟩ (.slice za n2 zc) := ⟨_, rfl⟩
         have HX1 : Hid (LBox y1 k (.slice za n2 zc) z) := by show LBox _ _ _ _; rw [hy1]; exact HXE.out.s0 _
         have hne : ∀ a, za = some a → a.block ≠ k := fun a ha e => by have := HZK.out a ha; have := HX.out.lt; omega
         have HZ1 : Hid (RowAt drK y1 za n2 zc (l ++ [⟨d0, d1, d2⟩])) := by show RowAt _ _ _ _ _ _; rw [hy1]; exact HZR.out.off hne _ _
         have HG1 : Hid (w.grownBy y1 (some k)) := by show World.grownBy _ _ _; rw [hy1]; exact grow_set HGE.out 0 _
         have HD1 : Hid (DBox y1 D ⟨d0, d1, d2⟩) := by show DBox _ _ _; rw [hy1]; exact box_off (HD.out.on HU.out) HDK.out.symm _
         (try rw [← hy1])
         clear hy1 r0 r1 f0 f1
         have r1 := HX1.out.c1
         have f1 := HX1.out.free 1
         have hHeld : (fun (V : World) => V.cell? ⟨D, 0, none⟩ = some (.int .i64 d0) ∧ V.cell? ⟨D, 1, none⟩ = some (.int .i64 d1) ∧ V.cell? ⟨D, 2, none⟩ = some (.int .i64 d2)) y1 := ⟨HD1.out.c0, HD1.out.c1, HD1.out.c2⟩
         refine zcl hC hHeld ?_
         clear hC C
         refine zt 16 ?_
         refine zt 17 ?_
         refine zr 18 (fun C hC => ?_)
         go_simp
         obtain ⟨y2, hy2⟩ : ∃ y, y = y1.setCell ⟨k, 1, none⟩ (.int .i64 d2) := ⟨_, rfl⟩
         have HX2 : Hid (LBox y2 k (.slice za n2 zc) d2) := by show LBox _ _ _ _; rw [hy2]; exact HX1.out.s1 _
         have HZ2 : Hid (RowAt drK y2 za n2 zc (l ++ [⟨d0, d1, d2⟩])) := by show RowAt _ _ _ _ _ _; rw [hy2]; exact HZ1.out.off hne _ _
         have HG2 : Hid (w.grownBy y2 (some k)) := by show World.grownBy _ _ _; rw [hy2]; exact grow_set HG1.out 1 _
         have HD2 : Hid (DBox y2 D ⟨d0, d1, d2⟩) := by show DBox _ _ _; rw [hy2]; exact box_off HD1.out HDK.out.symm _
         (try rw [← hy2])
         clear hy2 r1 f1
         have hHeld : (fun (V : World) => V.cell? ⟨D, 0, none⟩ = some (.int .i64 d0) ∧ V.cell? ⟨D, 1, none⟩ = some (.int .i64 d1) ∧ V.cell? ⟨D, 2, none⟩ = some (.int .i64 d2)) y2 := ⟨HD2.out.c0, HD2.out.c1, HD2.out.c2⟩
         refine zcl hC hHeld ?_
         clear hC C
         refine wpAnyZ_done (by kernel_rfl) ?_ _
         refine NoPanic.normal ?_
         clear hHeld
         go_wp2
         go_ret
         refine ⟨by rw [decide_eq_true HYES.out]; rfl, ?_, HG2.out⟩
         rw [if_pos HYES.out, if_pos HYES.out]
         exact ⟨za, n2, zc, HX2.out, HZ2.out, fun a ha => ⟨hne a ha, HBW.out _ (Nat.le_trans HB.out.size (HZK.out a ha)), by
          have h0 := HZ2.out.length
          rw [List.length_append, List.length_singleton] at h0
          obtain ⟨b, off, x, e, hlt, _⟩ := dr_get HZ2.out (i := 0) (by omega)
          rw [e] at ha
          cases ha
          exact hlt⟩⟩
       · skip
         go_simp
         obtain ⟨u2, hu⟩ : ∃ z, z = u1.alloc (.cells #[.int .i64 d0, .int .i64 d1, .int .i64 d2] 29) := ⟨_, rfl⟩
         have hbb : Below u1.heap.size u1 u2 := by rw [hu]; exact (Below.refl _ _).alloc (Nat.le_refl _) _
         obtain ⟨gx, hg⟩ : ∃ z, z = u1.heap.size := ⟨_, rfl⟩
         have HXR : Hid (RowAt drK u2 (some ⟨gx, 0, none⟩) 1 1 [⟨d0, d1, d2⟩]) := by show RowAt _ _ _ _ _ _; rw [hu, hg]; exact rowAt_lit drK_ok u1 [⟨d0, d1, d2⟩] (by simp) _ rfl 1 rfl
         have HGX : Hid (gx < u2.heap.size) := by show _ < _; rw [hu, hg]; simp
         have HNE : Hid (∀ q, (Value.slice (some ⟨ga, 0, none⟩) 0 0 : Value).ownBlock = some q → q ≠ gx) := fun q hq => by have := (HO.out.lt q hq).2; omega
         replace HO := Lib.hid (HO.out.on hbb)
         replace HU := Lib.hid (HU.out.trans (hbb.mono HU.out.size))
         rw [← hu, ← hg]
         clear hu hg hbb
         have hHeld := KS.out _ HU.out
         refine zcl hC hHeld ?_
         clear hC C
         refine zr 7 (fun C hC => ?_)
         refine held_row (by rfl) drK_ok (.tmp 36) (.tmp 40) rfl ua_0.heap.size [] l _ rfl HO.out HU.out.size pa pn pc rfl (HR.out.keep HU.out) (by have := HLL.out; have := HPN.out; simp only [List.length_nil]; omega) ?_
         rintro v3 u3 hap
         replace HXR := Lib.hid (HXR.out.grown hap.2.1 (fun a ha e => by cases ha; exact HNE.out _ e.symm rfl))
         replace HNE : Hid (∀ q, (v3 : Value).ownBlock = some q → q ≠ gx) := fun q hq => by
          rcases hap.2.2.2 q hq with h | h
          · exact HNE.out q h
          · have := HGX.out; omega
         replace HGX : Hid (gx < u3.heap.size) := Nat.lt_of_lt_of_le HGX.out hap.2.1.size
         replace HU := Lib.hid (HU.out.grown hap.2.1 HU.out.size (fun q hq => (HO.out.lt q hq).1))
         replace HO := Lib.hid hap.1
         (try rw [List.nil_append] at HO)
         clear hap
         have hHeld := KS.out _ HU.out
         refine zcl hC hHeld ?_
         clear hC C
         refine zr 10 (fun C hC => ?_)
         refine held_row (by rfl) drK_ok (.tmp 41) (.tmp 43) rfl ua_0.heap.size l [⟨d0, d1, d2⟩] _ rfl HO.out HU.out.size (some ⟨gx, 0, none⟩) 1 1 rfl HXR.out (by have := HLL.out; omega) ?_
         rintro v4 u4 hap
         obtain ⟨n2, hn2⟩ : ∃ n, (l ++ [(⟨d0, d1, d2⟩ : Dr)]).length = n := ⟨_, rfl⟩
         obtain ⟨za, zc, hz, hzr, hzk⟩ := OwnRow.row drK_ok hap.1 hn2
         subst hz
         replace HU := Lib.hid (HU.out.grown hap.2.1 HU.out.size (fun q hq => (HO.out.lt q hq).1))
         have HZR := Lib.hid hzr
         have HZK : Hid (∀ a, za = some a → ua_0.heap.size ≤ a.block) := fun a ha => (hzk a ha).1
         clear hap hzr hzk hn2
         have HXE := Lib.hid (HX.out.on HU.out)
         have HGE : Hid (w.grownBy u4 (some k)) := grow_below HB.out HU.out
         have r0 := HXE.out.c0
         have r1 := HXE.out.c1
         have f0 := HXE.out.free 0
         have f1 := HXE.out.free 1
         have hHeld := KS.out _ HU.out
         refine zcl hC hHeld ?_
         clear hC C
         refine zt 13 ?_
         refine zt 14 ?_
         refine zr 15 (fun C hC => ?_)
         go_simp
         obtain ⟨y1, hy1⟩ : ∃ y, y = u4.setCell ⟨k, 0, none⟩ (.slice za n2 zc) := ⟨_, rfl⟩
         have HX1 : Hid (LBox y1 k (.slice za n2 zc) z) := by show LBox _ _ _ _; rw [hy1]; exact HXE.out.s0 _
         have hne : ∀ a, za = some a → a.block ≠ k := fun a ha e => by have := HZK.out a ha; have := HX.out.lt; omega
         have HZ1 : Hid (RowAt drK y1 za n2 zc (l ++ [⟨d0, d1, d2⟩])) := by show RowAt _ _ _ _ _ _; rw [hy1]; exact HZR.out.off hne _ _
         have HG1 : Hid (w.grownBy y1 (some k)) := by show World.grownBy _ _ _; rw [hy1]; exact grow_set HGE.out 0 _
         have HD1 : Hid (DBox y1 D ⟨d0, d1, d2⟩) := by show DBox _ _ _; rw [hy1]; exact box_off (HD.out.on HU.out) HDK.out.symm _
         (try rw [← hy1])
         clear hy1 r0 r1 f0 f1
         have r1 := HX1.out.c1
         have f1 := HX1.out.free 1
         have hHeld : (fun (V : World) => V.cell? ⟨D, 0, none⟩ = some (.int .i64 d0) ∧ V.cell? ⟨D, 1, none⟩ = some (.int .i64 d1) ∧ V.cell? ⟨D, 2, none⟩ = some (.int .i64 d2)) y1 := ⟨HD1.out.c0, HD1.out.c1, HD1.out.c2⟩
         refine zcl hC hHeld ?_
         clear hC C
         refine zt 16 ?_
         refine zt 17 ?_
         refine zr 18 (fun C hC => ?_)
         go_simp
         obtain ⟨y2, hy2⟩ : ∃ y, y = y1.setCell ⟨k, 1, none⟩ (.int .i64 d2) := ⟨_, rfl⟩
         have HX2 : Hid (LBox y2 k (.slice za n2 zc) d2) := by show LBox _ _ _ _; rw [hy2]; exact HX1.out.s1 _
         have HZ2 : Hid (RowAt drK y2 za n2 zc (l ++ [⟨d0, d1, d2⟩])) := by show RowAt _ _ _ _ _ _; rw [hy2]; exact HZ1.out.off hne _ _
         have HG2 : Hid (w.grownBy y2 (some k)) := by show World.grownBy _ _ _; rw [hy2]; exact grow_set HG1.out 1 _
         have HD2 : Hid (DBox y2 D ⟨d0, d1, d2⟩) := by show DBox _ _ _; rw [hy2]; exact box_off HD1.out HDK.out.symm _
         (try rw [← hy2])
         clear hy2 r1 f1
         have hHeld : (fun (V : World) => V.cell? ⟨D, 0, none⟩ = some (.int .i64 d0) ∧ V.cell? ⟨D, 1, none⟩ = some (.int .i64 d1) ∧ V.cell? ⟨D, 2, none⟩ = some (.int .i64 d2)) y2 := ⟨HD2.out.c0, HD2.out.c1, HD2.out.c2⟩
         refine zcl hC hHeld ?_
         clear hC C
         refine wpAnyZ_done (by kernel_rfl) ?_ _
         refine NoPanic.normal ?_
         clear hHeld
         go_wp2
         go_ret
         refine ⟨by rw [decide_eq_true HYES.out]; rfl, ?_, HG2.out⟩
         rw [if_pos HYES.out, if_pos HYES.out]
         exact ⟨za, n2, zc, HX2.out, HZ2.out, fun a ha => ⟨hne a ha, HBW.out _ (Nat.le_trans HB.out.size (HZK.out a ha)), by
          have h0 := HZ2.out.length
          rw [List.length_append, List.length_singleton] at h0
          obtain ⟨b, off, x, e, hlt, _⟩ := dr_get HZ2.out (i := 0) (by omega)
          rw [e] at ha
          cases ha
          exact hlt⟩⟩
     · skip
       go_simp
       obtain ⟨u1, hu⟩ : ∃ z, z = u0.alloc (.cells #[.int .i64 d0, .int .i64 d1, .int .i64 d2] 29) := ⟨_, rfl⟩
       have hbb : Below u0.heap.size u0 u1 := by rw [hu]; exact (Below.refl _ _).alloc (Nat.le_refl _) _
       obtain ⟨gx, hg⟩ : ∃ z, z = u0.heap.size := ⟨_, rfl⟩
       have HXR : Hid (RowAt drK u1 (some ⟨gx, 0, none⟩) 1 1 [⟨d0, d1, d2⟩]) := by show RowAt _ _ _ _ _ _; rw [hu, hg]; exact rowAt_lit drK_ok u0 [⟨d0, d1, d2⟩] (by simp) _ rfl 1 rfl
       have HGX : Hid (gx < u1.heap.size) := by show _ < _; rw [hu, hg]; simp
       replace HU := Lib.hid (HU.out.trans (hbb.mono HU.out.size))
       rw [← hu, ← hg]
       clear hu hg hbb
       have hHeld := KS.out _ HU.out
       refine zcl hC hHeld ?_
       clear hC C
       refine zr 2 (fun C hC => ?_)
       go_simp
       obtain ⟨u2, hu⟩ : ∃ z, z = u1.alloc (.cells #[] 29) := ⟨_, rfl⟩
       have hbb : Below u1.heap.size u1 u2 := by rw [hu]; exact (Below.refl _ _).alloc (Nat.le_refl _) _
       obtain ⟨ga, hg⟩ : ∃ z, z = u1.heap.size := ⟨_, rfl⟩
       have HO : Hid (OwnRow drK u2 ua_0.heap.size (.slice (some ⟨ga, 0, none⟩) 0 0) []) := by show OwnRow _ _ _ _ _; rw [hu, hg]; exact ownRow_lit drK_ok u1 _ [] HU.out.size (by simp) _ rfl 0 rfl
       have HNE : Hid (∀ q, (Value.slice (some ⟨ga, 0, none⟩) 0 0).ownBlock = some q → q ≠ gx) := fun q hq => by have h1 := HGX.out; have h2 : ga = q := Option.some.inj hq; omega
       replace HXR := Lib.hid (HXR.out.keep hbb)
       replace HGX : Hid (gx < u2.heap.size) := Nat.lt_of_lt_of_le HGX.out hbb.size
       replace HU := Lib.hid (HU.out.trans (hbb.mono HU.out.size))
       rw [← hu, ← hg]
       clear hu hg hbb
       have hHeld := KS.out _ HU.out
       refine zcl hC hHeld ?_
       clear hC C
       refine zr 7 (fun C hC => ?_)
       refine held_row (by rfl) drK_ok (.tmp 36) (.tmp 40) rfl ua_0.heap.size [] l _ rfl HO.out HU.out.size pa pn pc rfl (HR.out.keep HU.out) (by have := HLL.out; have := HPN.out; simp only [List.length_nil]; omega) ?_
       rintro v3 u3 hap
       replace HXR := Lib.hid (HXR.out.grown hap.2.1 (fun a ha e => by cases ha; exact HNE.out _ e.symm rfl))
       replace HNE : Hid (∀ q, (v3 : Value).ownBlock = some q → q ≠ gx) := fun q hq => by
        rcases hap.2.2.2 q hq with h | h
        · exact HNE.out q h
        · have := HGX.out; omega
       replace HGX : Hid (gx < u3.heap.size) := Nat.lt_of_lt_of_le HGX.out hap.2.1.size
       replace HU := Lib.hid (HU.out.grown hap.2.1 HU.out.size (fun q hq => (HO.out.lt q hq).1))
       replace HO := Lib.hid hap.1
       (try rw [List.nil_append] at HO)
       clear hap
       have hHeld := KS.out _ HU.out
       refine zcl hC hHeld ?_
       clear hC C
       refine zr 10 (fun C hC => ?_)
       refine held_row (by rfl) drK_ok (.tmp 41) (.tmp 43) rfl ua_0.heap.size l [⟨d0, d1, d2⟩] _ rfl HO.out HU.out.size (some ⟨gx, 0, none⟩) 1 1 rfl HXR.out (by have := HLL.out; omega) ?_
       rintro v4 u4 hap
       obtain ⟨n2, hn2⟩ : ∃ n, (l ++ [(⟨d0, d1, d2⟩ : Dr)]).length = n := ⟨_, rfl⟩
       obtain ⟨za, zc, hz, hzr, hzk⟩ := OwnRow.row drK_ok hap.1 hn2
       subst hz
       replace HU := Lib.hid (HU.out.grown hap.2.1 HU.out.size (fun q hq => (HO.out.lt q hq).1))
       have HZR := Lib.hid hzr
       have HZK : Hid (∀ a, za = some a → ua_0.heap.size ≤ a.block) := fun a ha => (hzk a ha).1
       clear hap hzr hzk hn2
       have HXE := Lib.hid (HX.out.on HU.out)
       have HGE : Hid (w.grownBy u4 (some k)) := grow_below HB.out HU.out
       have r0 := HXE.out.c0
       have r1 := HXE.out.c1
       have f0 := HXE.out.free 0
       have f1 := HXE.out.free 1
       have hHeld := KS.out _ HU.out
       refine zcl hC hHeld ?_
       clear hC C
       refine zt 13 ?_
       refine zt 14 ?_
       refine zr 15 (fun C hC => ?_)
       go_simp
       obtain ⟨y1, hy1⟩ : ∃ y, y = u4.setCell ⟨k, 0, none⟩ (.slice za n2 zc) := ⟨_, rfl⟩
       have HX1 : Hid (LBox y1 k (.slice za n2 zc) z) := by show LBox _ _ _ _; rw [hy1]; exact HXE.out.s0 _
       have hne : ∀ a, za = some a → a.block ≠ k := fun a ha e => by have := HZK.out a ha; have := HX.out.lt; omega
       have HZ1 : Hid (RowAt drK y1 za n2 zc (l ++ [⟨d0, d1, d2⟩])) := by show RowAt _ _ _ _ _ _; rw [hy1]; exact HZR.out.off hne _ _
       have HG1 : Hid (w.grownBy y1 (some k)) := by show World.grownBy _ _ _; rw [hy1]; exact grow_set HGE.out 0 _
       have HD1 : Hid (DBox y1 D ⟨d0, d1, d2⟩) := by show DBox _ _ _; rw [hy1]; exact box_off (HD.out.on HU.out) HDK.out.symm _
       (try rw [← hy1])
       clear hy1 r0 r1 f0 f1
       have r1 := HX1.out.c1
       have f1 := HX1.out.free 1
       have hHeld : (fun (V : World) => V.cell? ⟨D, 0, none⟩ = some (.int .i64 d0) ∧ V.cell? ⟨D, 1, none⟩ = some (.int .i64 d1) ∧ V.cell? ⟨D, 2, none⟩ = some (.int .i64 d2)) y1 := ⟨HD1.out.c0, HD1.out.c1, HD1.out.c2⟩
       refine zcl hC hHeld ?_
       clear hC C
       refine zt 16 ?_
       refine zt 17 ?_
       refine zr 18 (fun C hC => ?_)
       go_simp
       obtain ⟨y2, hy2⟩ : ∃ y, y = y1.setCell ⟨k, 1, none⟩ (.int .i64 d2) := ⟨_, rfl⟩
       have HX2 : Hid (LBox y2 k (.slice za n2 zc) d2) := by show LBox _ _ _ _; rw [hy2]; exact HX1.out.s1 _
       have HZ2 : Hid (RowAt drK y2 za n2 zc (l ++ [⟨d0, d1, d2⟩])) := by show RowAt _ _ _ _ _ _; rw [hy2]; exact HZ1.out.off hne _ _
       have HG2 : Hid (w.grownBy y2 (some k)) := by show World.grownBy _ _ _; rw [hy2]; exact grow_set HG1.out 1 _
       have HD2 : Hid (DBox y2 D ⟨d0, d1, d2⟩) := by show DBox _ _ _; rw [hy2]; exact box_off HD1.out HDK.out.symm _
       (try rw [← hy2])
       clear hy2 r1 f1
       have hHeld : (fun (V : World) => V.cell? ⟨D, 0, none⟩ = some (.int .i64 d0) ∧ V.cell? ⟨D, 1, none⟩ = some (.int .i64 d1) ∧ V.cell? ⟨D, 2, none⟩ = some (.int .i64 d2)) y2 := ⟨HD2.out.c0, HD2.out.c1, HD2.out.c2⟩
       refine zcl hC hHeld ?_
       clear hC C
       refine wpAnyZ_done (by kernel_rfl) ?_ _
       refine NoPanic.normal ?_
       clear hHeld
       go_wp2
       go_ret
       refine ⟨by rw [decide_eq_true HYES.out]; rfl, ?_, HG2.out⟩
       rw [if_pos HYES.out, if_pos HYES.out]
       exact ⟨za, n2, zc, HX2.out, HZ2.out, fun a ha => ⟨hne a ha, HBW.out _ (Nat.le_trans HB.out.size (HZK.out a ha)), by
        have h0 := HZ2.out.length
        rw [List.length_append, List.length_singleton] at h0
        obtain ⟨b, off, x, e, hlt, _⟩ := dr_get HZ2.out (i := 0) (by omega)
        rw [e] at ha
        cases ha
        exact hlt⟩⟩
   · skip
     go_simp
     obtain ⟨u1, hu⟩ : ∃ z, z = u0.alloc (.cells #[.int .i64 d0, .int .i64 d1, .int .i64 d2] 29) := ⟨_, rfl⟩
     have hbb : Below u0.heap.size u0 u1 := by rw [hu]; exact (Below.refl _ _).alloc (Nat.le_refl _) _
     obtain ⟨gx, hg⟩ : ∃ z, z = u0.heap.size := ⟨_, rfl⟩
     have HXR : Hid (RowAt drK u1 (some ⟨gx, 0, none⟩) 1 1 [⟨d0, d1, d2⟩]) := by show RowAt _ _ _ _ _ _; rw [hu, hg]; exact rowAt_lit drK_ok u0 [⟨d0, d1, d2⟩] (by simp) _ rfl 1 rfl
     have HGX : Hid (gx < u1.heap.size) := by show _ < _; rw [hu, hg]; simp
     replace HU := Lib.hid (HU.out.trans (hbb.mono HU.out.size))
     rw [← hu, ← hg]
     clear hu hg hbb
     have hHeld := KS.out _ HU.out
     refine zcl hC hHeld ?_
     clear hC C
     refine wpAnyZ_ready (rs := [2, 6]) (by kernel_rfl) (by simp) ?_
     refine AllReadyZ.cons (o := ⟨_, _, _, _, _, _⟩) rfl (fun C hC => ?_) (AllReadyZ.cons (o := ⟨_, _, _, _, _, _⟩) rfl (fun C hC => ?_) AllReadyZ.nil)
     · skip
       go_simp
       obtain ⟨u2, hu⟩ : ∃ z, z = u1.alloc (.cells #[] 29) := ⟨_, rfl⟩
       have hbb : Below u1.heap.size u1 u2 := by rw [hu]; exact (Below.refl _ _).alloc (Nat.le_refl _) _
       obtain ⟨ga, hg⟩ : ∃ z, z = u1.heap.size := ⟨_, rfl⟩
       have HO : Hid (OwnRow drK u2 ua_0.heap.size (.slice (some ⟨ga, 0, none⟩) 0 0) []) := by show OwnRow _ _ _ _ _; rw [hu, hg]; exact ownRow_lit drK_ok u1 _ [] HU.out.size (by simp) _ rfl 0 rfl
       have HNE : Hid (∀ q, (Value.slice (some ⟨ga, 0, none⟩) 0 0).ownBlock = some q → q ≠ gx) := fun q hq => by have h1 := HGX.out; have h2 : ga = q := Option.some.inj hq; omega
       replace HXR := Lib.hid (HXR.out.keep hbb)
       replace HGX : Hid (gx < u2.heap.size) := Nat.lt_of_lt_of_le HGX.out hbb.size
       replace HU := Lib.hid (HU.out.trans (hbb.mono HU.out.size))
       rw [← hu, ← hg]
       clear hu hg hbb
       have hHeld := KS.out _ HU.out
       refine zcl hC hHeld ?_
       clear hC C
       refine zr 6 (fun C hC => ?_)
       have r0 := (HX.out.on HU.out).c0
       go_simp
       clear r0
       have hHeld := KS.out _ HU.out
       refine zcl hC hHeld ?_
       clear hC C
       refine zr 7 (fun C hC => ?_)
       refine held_row (by rfl) drK_ok (.tmp 36) (.tmp 40) rfl ua_0.heap.size [] l _ rfl HO.out HU.out.size pa pn pc rfl (HR.out.keep HU.out) (by have := HLL.out; have := HPN.out; simp only [List.length_nil]; omega) ?_
       rintro v3 u3 hap
       replace HXR := Lib.hid (HXR.out.grown hap.2.1 (fun a ha e => by cases ha; exact HNE.out _ e.symm rfl))
       replace HNE : Hid (∀ q, (v3 : Value).ownBlock = some q → q ≠ gx) := fun q hq => by
        rcases hap.2.2.2 q hq with h | h
        · exact HNE.out q h
        · have := HGX.out; omega
       replace HGX : Hid (gx < u3.heap.size) := Nat.lt_of_lt_of_le HGX.out hap.2.1.size
       replace HU := Lib.hid (HU.out.grown hap.2.1 HU.out.size (fun q hq => (HO.out.lt q hq).1))
       replace HO := Lib.hid hap.1
       (try rw [List.nil_append] at HO)
       clear hap
       have hHeld := KS.out _ HU.out
       refine zcl hC hHeld ?_
       clear hC C
       refine zr 10 (fun C hC => ?_)
       refine held_row (by rfl) drK_ok (.tmp 41) (.tmp 43) rfl ua_0.heap.size l [⟨d0, d1, d2⟩] _ rfl HO.out HU.out.size (some ⟨gx, 0, none⟩) 1 1 rfl HXR.out (by have := HLL.out; omega) ?_
       rintro v4 u4 hap
       obtain ⟨n2, hn2⟩ : ∃ n, (l ++ [(⟨d0, d1, d2⟩ : Dr)]).length = n := ⟨_, rfl⟩
       obtain ⟨za, zc, hz, hzr, hzk⟩ := OwnRow.row drK_ok hap.1 hn2
       subst hz
       replace HU := Lib.hid (HU.out.grown hap.2.1 HU.out.size (fun q hq => (HO.out.lt q hq).1))
       have HZR := Lib.hid hzr
       have HZK : Hid (∀ a, za = some a → ua_0.heap.size ≤ a.block) := fun a ha => (hzk a ha).1
       clear hap hzr hzk hn2
       have HXE := Lib.hid (HX.out.on HU.out)
       have HGE : Hid (w.grownBy u4 (some k)) := grow_below HB.out HU.out
       have r0 := HXE.out.c0
       have r1 := HXE.out.c1
       have f0 := HXE.out.free 0
       have f1 := HXE.out.free 1
       have hHeld := KS.out _ HU.out
       refine zcl hC hHeld ?_
       clear hC C
       refine zt 13 ?_
       refine zt 14 ?_
       refine zr 15 (fun C hC => ?_)
       go_simp
       obtain ⟨y1, hy1⟩ : ∃ y, y = u4.setCell ⟨k, 0, none⟩ (.slice za n2 zc) := ⟨_, rfl⟩
       have HX1 : Hid (LBox y1 k (.slice za n2 zc) z) := by show LBox _ _ _ _; rw [hy1]; exact HXE.out.s0 _
       have hne : ∀ a, za = some a → a.block ≠ k := fun a ha e => by have := HZK.out a ha; have := HX.out.lt; omega
       have HZ1 : Hid (RowAt drK y1 za n2 zc (l ++ [⟨d0, d1, d2⟩])) := by show RowAt _ _ _ _ _ _; rw [hy1]; exact HZR.out.off hne _ _
       have HG1 : Hid (w.grownBy y1 (some k)) := by show World.grownBy _ _ _; rw [hy1]; exact grow_set HGE.out 0 _
       have HD1 : Hid (DBox y1 D ⟨d0, d1, d2⟩) := by show DBox _ _ _; rw [hy1]; exact box_off (HD.out.on HU.out) HDK.out.symm _
       (try rw [← hy1])
       clear hy1 r0 r1 f0 f1
       have r1 := HX1.out.c1
       have f1 := HX1.out.free 1
       have hHeld : (fun (V : World) => V.cell? ⟨D, 0, none⟩ = some (.int .i64 d0) ∧ V.cell? ⟨D, 1, none⟩ = some (.int .i64 d1) ∧ V.cell? ⟨D, 2, none⟩ = some (.int .i64 d2)) y1 := ⟨HD1.out.c0, HD1.out.c1, HD1.out.c2⟩
       refine zcl hC hHeld ?_
       clear hC C
       refine zt 16 ?_
       refine zt 17 ?_
       refine zr 18 (fun C hC => ?_)
       go_simp
       obtain ⟨y2, hy2⟩ : ∃ y, y = y1.setCell ⟨k, 1, none⟩ (.int .i64 d2) := ⟨_, rfl⟩
       have HX2 : Hid (LBox y2 k (.slice za n2 zc) d2) := by show LBox _ _ _ _; rw [hy2]; exact HX1.out.s1 _
       have HZ2 : Hid (RowAt drK y2 za n2 zc (l ++ [⟨d0, d1, d2⟩])) := by show RowAt _ _ _ _ _ _; rw [hy2]; exact HZ1.out.off hne _ _
       have HG2 : Hid (w.grownBy y2 (some k)) := by show World.grownBy _ _ _; rw [hy2]; exact grow_set HG1.out 1 _
       have HD2 : Hid (DBox y2 D ⟨d0, d1, d2⟩) := by show DBox _ _ _; rw [hy2]; exact box_off HD1.out HDK.out.symm _
       (try rw [← hy2])
       clear hy2 r1 f1
       have hHeld : (fun (V : World) => V.cell? ⟨D, 0, none⟩ = some (.int .i64 d0) ∧ V.cell? ⟨D, 1, none⟩ = some (.int .i64 d1) ∧ V.cell? ⟨D, 2, none⟩ = some (.int .i64 d2)) y2 := ⟨HD2.out.c0, HD2.out.c1, HD2.out.c2⟩
       refine zcl hC hHeld ?_
       clear hC C
       refine wpAnyZ_done (by kernel_rfl) ?_ _
       refine NoPanic.normal ?_
       clear hHeld
       go_wp2
       go_ret
       refine ⟨by rw [decide_eq_true HYES.out]; rfl, ?_, HG2.out⟩
       rw [if_pos HYES.out, if_pos HYES.out]
       exact ⟨za, n2, zc, HX2.out, HZ2.out, fun a ha => ⟨hne a ha, HBW.out _ (Nat.le_trans HB.out.size (HZK.out a ha)), by
        have h0 := HZ2.out.length
        rw [List.length_append, List.length_singleton] at h0
        obtain ⟨b, off, x, e, hlt, _⟩ := dr_get HZ2.out (i := 0) (by omega)
        rw [e] at ha
        cases ha
        exact hlt⟩⟩
     · skip
       have r0 := (HX.out.on HU.out).c0
       go_simp
       clear r0
       have hHeld := KS.out _ HU.out
       refine zcl hC hHeld ?_
       clear hC C
       refine zr 2 (fun C hC => ?_)
       go_simp
       obtain ⟨u2, hu⟩ : ∃ z, z = u1.alloc (.cells #[] 29) := ⟨_, rfl⟩
       have hbb : Below u1.heap.size u1 u2 := by rw [hu]; exact (Below.refl _ _).alloc (Nat.le_refl _) _
       obtain ⟨ga, hg⟩ : ∃ z, z = u1.heap.size := ⟨_, rfl⟩
       have HO : Hid (OwnRow drK u2 ua_0.heap.size (.slice (some ⟨ga, 0, none⟩) 0 0) []) := by show OwnRow _ _ _ _ _; rw [hu, hg]; exact ownRow_lit drK_ok u1 _ [] HU.out.size (by simp) _ rfl 0 rfl
       have HNE : Hid (∀ q, (Value.slice (some ⟨ga, 0, none⟩) 0 0).ownBlock = some q → q ≠ gx) := fun q hq => by have h1 := HGX.out; have h2 : ga = q := Option.some.inj hq; omega
       replace HXR := Lib.hid (HXR.out.keep hbb)
       replace HGX : Hid (gx < u2.heap.size) := Nat.lt_of_lt_of_le HGX.out hbb.size
       replace HU := Lib.hid (HU.out.trans (hbb.mono HU.out.size))
       rw [← hu, ← hg]
       clear hu hg hbb
       have hHeld := KS.out _ HU.out
       refine zcl hC hHeld ?_
       clear hC C
       refine zr 7 (fun C hC => ?_)
       refine held_row (by rfl) drK_ok (.tmp 36) (.tmp 40) rfl ua_0.heap.size [] l _ rfl HO.out HU.out.size pa pn pc rfl (HR.out.keep HU.out) (by have := HLL.out; have := HPN.out; simp only [List.length_nil]; omega) ?_
       rintro v3 u3 hap
       replace HXR := Lib.hid (HXR.out.grown hap.2.1 (fun a ha e => by cases ha; exact HNE.out _ e.symm rfl))
       replace HNE : Hid (∀ q, (v3 : Value).ownBlock = some q → q ≠ gx) := fun q hq => by
        rcases hap.2.2.2 q hq with h | h
        · exact HNE.out q h
        · have := HGX.out; omega
       replace HGX : Hid (gx < u3.heap.size) := Nat.lt_of_lt_of_le HGX.out hap.2.1.size
       replace HU := Lib.hid (HU.out.grown hap.2.1 HU.out.size (fun q hq => (HO.out.lt q hq).1))
       replace HO := Lib.hid hap.1
       (try rw [List.nil_append] at HO)
       clear hap
       have hHeld := KS.out _ HU.out
       refine zcl hC hHeld ?_
       clear hC C
       refine zr 10 (fun C hC => ?_)
       refine held_row (by rfl) drK_ok (.tmp 41) (.tmp 43) rfl ua_0.heap.size l [⟨d0, d1, d2⟩] _ rfl HO.out HU.out.size (some ⟨gx, 0, none⟩) 1 1 rfl HXR.out (by have := HLL.out; omega) ?_
       rintro v4 u4 hap
       obtain ⟨n2, hn2⟩ : ∃ n, (l ++ [(⟨d0, d1, d2⟩ : Dr)]).length = n := ⟨_, rfl⟩
       obtain ⟨za, zc, hz, hzr, hzk⟩ := OwnRow.row drK_ok hap.1 hn2
       subst hz
       replace HU := Lib.hid (HU.out.grown hap.2.1 HU.out.size (fun q hq => (HO.out.lt q hq).1))
       have HZR := Lib.hid hzr
       have HZK : Hid (∀ a, za = some a → ua_0.heap.size ≤ a.block) := fun a ha => (hzk a ha).1
       clear hap hzr hzk hn2
       have HXE := Lib.hid (HX.out.on HU.out)
       have HGE : Hid (w.grownBy u4 (some k)) := grow_below HB.out HU.out
       have r0 := HXE.out.c0
       have r1 := HXE.out.c1
       have f0 := HXE.out.free 0
       have f1 := HXE.out.free 1
       have hHeld := KS.out _ HU.out
       refine zcl hC hHeld ?_
       clear hC C
       refine zt 13 ?_
       refine zt 14 ?_
       refine zr 15 (fun C hC => ?_)
       go_simp
       obtain ⟨y1, hy1⟩ : ∃ y, y = u4.setCell ⟨k, 0, none⟩ (.slice za n2 zc) := ⟨_, rfl⟩
       have HX1 : Hid (LBox y1 k (.slice za n2 zc) z) := by show LBox _ _ _ _; rw [hy1]; exact HXE.out.s0 _
       have hne : ∀ a, za = some a → a.block ≠ k := fun a ha e => by have := HZK.out a ha; have := HX.out.lt; omega
       have HZ1 : Hid (RowAt drK y1 za n2 zc (l ++ [⟨d0, d1, d2⟩])) := by show RowAt _ _ _ _ _ _; rw [hy1]; exact HZR.out.off hne _ _
       have HG1 : Hid (w.grownBy y1 (some k)) := by show World.grownBy _ _ _; rw [hy1]; exact grow_set HGE.out 0 _
       have HD1 : Hid (DBox y1 D ⟨d0, d1, d2⟩) := by show DBox _ _ _; rw [hy1]; exact box_off (HD.out.on HU.out) HDK.out.symm _
       (try rw [← hy1])
       clear hy1 r0 r1 f0 f1
       have r1 := HX1.out.c1
       have f1 := HX1.out.free 1
       have hHeld : (fun (V : World) => V.cell? ⟨D, 0, none⟩ = some (.int .i64 d0) ∧ V.cell? ⟨D, 1, none⟩ = some (.int .i64 d1) ∧ V.cell? ⟨D, 2, none⟩ = some (.int .i64 d2)) y1 := ⟨HD1.out.c0, HD1.out.c1, HD1.out.c2⟩
       refine zcl hC hHeld ?_
       clear hC C
       refine zt 16 ?_
       refine zt 17 ?_
       refine zr 18 (fun C hC => ?_)
       go_simp
       obtain ⟨y2, hy2⟩ : ∃ y, y = y1.setCell ⟨k, 1, none⟩ (.int .i64 d2) := ⟨_, rfl⟩
       have HX2 : Hid (LBox y2 k (.slice za n2 zc) d2) := by show LBox _ _ _ _; rw [hy2]; exact HX1.out.s1 _
       have HZ2 : Hid (RowAt drK y2 za n2 zc (l ++ [⟨d0, d1, d2⟩])) := by show RowAt _ _ _ _ _ _; rw [hy2]; exact HZ1.out.off hne _ _
       have HG2 : Hid (w.grownBy y2 (some k)) := by show World.grownBy _ _ _; rw [hy2]; exact grow_set HG1.out 1 _
       have HD2 : Hid (DBox y2 D ⟨d0, d1, d2⟩) := by show DBox _ _ _; rw [hy2]; exact box_off HD1.out HDK.out.symm _
       (try rw [← hy2])
       clear hy2 r1 f1
       have hHeld : (fun (V : World) => V.cell? ⟨D, 0, none⟩ = some (.int .i64 d0) ∧ V.cell? ⟨D, 1, none⟩ = some (.int .i64 d1) ∧ V.cell? ⟨D, 2, none⟩ = some (.int .i64 d2)) y2 := ⟨HD2.out.c0, HD2.out.c1, HD2.out.c2⟩
       refine zcl hC hHeld ?_
       clear hC C
       refine wpAnyZ_done (by kernel_rfl) ?_ _
       refine NoPanic.normal ?_
       clear hHeld
       go_wp2
       go_ret
       refine ⟨by rw [decide_eq_true HYES.out]; rfl, ?_, HG2.out⟩
       rw [if_pos HYES.out, if_pos HYES.out]
       exact ⟨za, n2, zc, HX2.out, HZ2.out, fun a ha => ⟨hne a ha, HBW.out _ (Nat.le_trans HB.out.size (HZK.out a ha)), by
        have h0 := HZ2.out.length
        rw [List.length_append, List.length_singleton] at h0
        obtain ⟨b, off, x, e, hlt, _⟩ := dr_get HZ2.out (i := 0) (by omega)
        rw [e] at ha
        cases ha
        exact hlt⟩⟩
theorem lAdd_any (B : Nat) (w : World) (k : Nat) (l : List Dr) (z : Int) (d : Dr) (h : LAt B w k l z) (hL : l.length ≤ 1000000) (hBw : B ≤ w.heap.size) :
 Calls Try.prog 11 #[.pointer (some ⟨k, 0, none⟩), .agg #[.int .i64 d.prod, .int .i64 d.first, .int .i64 d.last]] w (GivesLAdd B w k l z d) := lAddP_any (fun b => B ≤ b) w k l z d h hL (fun b hb => Nat.le_trans hBw hb)
end Go.Proofs.Ytbejincejbnbaaa
namespace Go.AbMath
open Go.ProdMath
open Go.SnapMath
open Go.BatMath (In64)
open Go.VarMath (encN AllB)
set_option linter.unusedVariables false

def drS (d : Dr) : List Nat := encN d.prod ++ (encN d.first ++ encN d.last)
def drsS : List Dr → List Nat
 | [] => []
 | d :: l => drS d ++ drsS l
def bodyA (l : List Dr) : List Nat := encN (l.length : Int) ++ drsS l
def bytesA (l : List Dr) : List Nat := CrcMath.sealB (bodyA l)
def DrIn (d : Dr) : Prop := In64 d.prod ∧ In64 d.first ∧ In64 d.last
theorem drsS_app : ∀ (a b : List Dr), drsS (a ++ b) = drsS a ++ drsS b
 | [], b => rfl
 | d :: a, b => by
   show drS d ++ drsS (a ++ b) = drS d ++ drsS a ++ drsS b
   rw [drsS_app a b, List.append_assoc]
theorem drsS_take {l : List Dr} {j : Nat} {d : Dr} (h : l[j]? = some d) : drsS (l.take (j + 1)) = drsS (l.take j) ++ drS d := by
 rw [List.take_add_one, h]
 show drsS (l.take j ++ [d]) = _
 rw [drsS_app]
 show _ ++ (drS d ++ []) = _
 rw [List.append_nil]
theorem drS_len {d : Dr} (h : DrIn d) : 3 ≤ (drS d).length ∧ (drS d).length ≤ 30 := by
 have h1 := encN_len h.1
 have h2 := encN_len h.2.1
 have h3 := encN_len h.2.2
 unfold drS
 simp only [List.length_append]
 omega
theorem drsS_len : ∀ {l : List Dr} (h : ∀ d ∈ l, DrIn d), 3 * l.length ≤ (drsS l).length ∧ (drsS l).length ≤ 30 * l.length
 | [], _ => ⟨Nat.le_refl _, Nat.le_refl _⟩
 | d :: l, h => by
   have h1 := drS_len (h d (by simp))
   have h2 := drsS_len (l := l) fun y hy => h y (by simp [hy])
   show 3 * (l.length + 1) ≤ (drS d ++ drsS l).length ∧ _ ≤ 30 * (l.length + 1)
   rw [show drsS (d :: l) = drS d ++ drsS l from rfl, List.length_append]
   omega
theorem drS_all {d : Dr} (h : DrIn d) : AllB (drS d) := fun y hy => by
 unfold drS at hy
 rcases List.mem_append.1 hy with hy | hy
 · exact encN_all h.1 y hy
 · rcases List.mem_append.1 hy with hy | hy
   · exact encN_all h.2.1 y hy
   · exact encN_all h.2.2 y hy
theorem drsS_all : ∀ {l : List Dr} (h : ∀ d ∈ l, DrIn d), AllB (drsS l)
 | [], _, y, hy => by cases hy
 | d :: l, h, y, hy => by
   rcases List.mem_append.1 (show y ∈ drS d ++ drsS l from hy) with hy | hy
   · exact drS_all (h d (by simp)) y hy
   · exact drsS_all (fun z hz => h z (by simp [hz])) y hy
theorem DrsOk.isIn {l : List Dr} (h : DrsOk l) (hi : ∀ d ∈ l, In64 d.prod) : ∀ d ∈ l, DrIn d := fun d hd => by
 have h1 := h.each d hd
 unfold DrOk at h1
 exact ⟨hi d hd, ⟨by omega, by omega⟩, ⟨by omega, by omega⟩⟩
theorem bodyA_all {l : List Dr} (h : ∀ d ∈ l, DrIn d) (hl : l.length ≤ 1000000) : AllB (bodyA l) := fun y hy => by
 unfold bodyA at hy
 rcases List.mem_append.1 hy with hy | hy
 · exact encN_all (in_nat hl) y hy
 · exact drsS_all h y hy
/-- Three numbers. -/
def rdDr (bs : List Nat) (f : Bool) : Dr × List Nat × Bool :=
 (⟨(rdTr bs f).1.f, (rdTr bs f).1.l, (rdTr bs f).1.b⟩, (rdTr bs f).2)
theorem rdDr_of {bs b1 b2 b3 : List Nat} {f f1 f2 f3 : Bool} {x y z : Int} (h1 : rdN bs f = (x, b1, f1)) (h2 : rdN b1 f1 = (y, b2, f2)) (h3 : rdN b2 f2 = (z, b3, f3)) : rdDr bs f = (⟨x, y, z⟩, b3, f3) := by
 unfold rdDr
 rw [rdTr_of h1 h2 h3]
theorem rdDr_enc {d : Dr} (h : DrIn d) (r : List Nat) : rdDr (drS d ++ r) false = (d, r, false) := by
 have h1 := rdTr_enc (x := ⟨d.prod, d.first, d.last⟩) h r
 unfold rdDr
 rw [show drS d = trS ⟨d.prod, d.first, d.last⟩ from rfl, h1]
theorem rdDr_len (bs : List Nat) (f : Bool) : (rdDr bs f).2.1.length ≤ bs.length ∧ ((rdDr bs f).2.2 = false → f = false ∧ (rdDr bs f).2.1.length + 3 ≤ bs.length) := rdTr_len bs f
theorem rdDr_in (bs : List Nat) (f : Bool) : In64 (rdDr bs f).1.prod := rdN_in bs f
/-- What the law reads: so many, while no number falls and each may be added: what there is, what is left, whether a number fell, whether all was added. -/
def rdDs : Nat → List Dr → List Nat → Bool → List Dr × List Nat × Bool × Bool
 | 0, acc, bs, f => (acc, bs, f, true)
 | n + 1, acc, bs, f => if f = true then (acc, bs, f, true) else if okD (lastD acc) (rdDr bs f).1 then rdDs n (acc ++ [(rdDr bs f).1]) (rdDr bs f).2.1 (rdDr bs f).2.2 else (acc, (rdDr bs f).2.1, (rdDr bs f).2.2, false)
theorem rdDs_fell (n : Nat) (acc : List Dr) (bs : List Nat) : rdDs n acc bs true = (acc, bs, true, true) := by
 cases n
 · rfl
 · show (if true = true then _ else _) = _
   rw [if_pos rfl]
theorem rdDs_yes {n : Nat} {acc : List Dr} {bs b : List Nat} {d : Dr} {f : Bool} (h : rdDr bs false = (d, b, f)) (hd : okD (lastD acc) d) : rdDs (n + 1) acc bs false = rdDs n (acc ++ [d]) b f := by
 show (if false = true then _ else _) = _
 rw [if_neg (by decide), h, if_pos hd]
theorem rdDs_no {n : Nat} {acc : List Dr} {bs b : List Nat} {d : Dr} {f : Bool} (h : rdDr bs false = (d, b, f)) (hd : ¬ okD (lastD acc) d) : rdDs (n + 1) acc bs false = (acc, b, f, false) := by
 show (if false = true then _ else _) = _
 rw [if_neg (by decide), h, if_neg hd]
theorem rdDs_enc : ∀ (l acc : List Dr) (h : ∀ d ∈ l, DrIn d) (ha : DrsOk (acc ++ l)) (r : List Nat), rdDs l.length acc (drsS l ++ r) false = (acc ++ l, r, false, true)
 | [], acc, _, _, r => by rw [List.append_nil]; rfl
 | d :: l, acc, h, ha, r => by
   have h1 : rdDr (drS d ++ drsS l ++ r) false = (d, drsS l ++ r, false) := by
    rw [List.append_assoc]
    exact rdDr_enc (h d (by simp)) _
   have e : acc ++ d :: l = (acc ++ [d]) ++ l := by rw [List.append_assoc]; rfl
   have hacc : DrsOk acc := ⟨fun x hx => ha.each x (by simp [hx]), (List.pairwise_append.1 ha.asc).1⟩
   have hd : okD (lastD acc) d := ⟨ha.each d (by simp), by
    have h2 := ha.each d (by simp)
    exact (lastD_lt hacc (by unfold DrOk at h2; omega)).2 fun x hx => (List.pairwise_append.1 ha.asc).2.2 x hx d (by simp)⟩
   show rdDs (l.length + 1) acc (drS d ++ drsS l ++ r) false = _
   rw [rdDs_yes h1 hd]
   rw [e] at ha ⊢
   exact rdDs_enc l _ (fun q hq => h q (by simp [hq])) ha r
theorem rdDs_ok : ∀ (n : Nat) (acc : List Dr) (bs : List Nat) (f : Bool), DrsOk acc → (∀ d ∈ acc, In64 d.prod) → DrsOk (rdDs n acc bs f).1 ∧ ∀ d ∈ (rdDs n acc bs f).1, In64 d.prod
 | 0, acc, bs, f, h, hi => ⟨h, hi⟩
 | n + 1, acc, bs, true, h, hi => by rw [rdDs_fell]; exact ⟨h, hi⟩
 | n + 1, acc, bs, false, h, hi => by
   obtain ⟨⟨d, b, f⟩, hd⟩ : ∃ q, rdDr bs false = q := ⟨_, rfl⟩
   by_cases hk : okD (lastD acc) d
   · rw [rdDs_yes hd hk]
     refine rdDs_ok n _ _ _ (h.snoc hk) fun x hx => ?_
     rcases List.mem_append.1 hx with hx | hx
     · exact hi x hx
     · rw [List.mem_singleton.1 hx]
       have := rdDr_in bs false
       rw [hd] at this
       exact this
   · rw [rdDs_no hd hk]; exact ⟨h, hi⟩
/-- Bytes that are a list's. -/
def IsAb (bs : List Nat) (l : List Dr) : Prop := DrsOk l ∧ (∀ d ∈ l, In64 d.prod) ∧ bs = bytesA l
def rdAb (bs : List Nat) : List Dr × List Nat × Bool × Bool :=
 rdDs (rdN (openS bs).1 (openS bs).2).1.toNat [] (rdN (openS bs).1 (openS bs).2).2.1 (rdN (openS bs).1 (openS bs).2).2.2
theorem IsAb.few {bs : List Nat} {l : List Dr} (h : IsAb bs l) : 3 * l.length ≤ bs.length := by
 have h1 := (drsS_len (h.1.isIn h.2.1)).1
 rw [h.2.2]
 unfold bytesA bodyA
 rw [CrcMath.length_sealB, List.length_append]
 omega
theorem IsAb.rd {bs : List Nat} {l : List Dr} (h : IsAb bs l) (hL : bs.length ≤ 1048600) : rdAb bs = (l, [], false, true) := by
 have hf := h.few
 obtain ⟨ha, hi, e⟩ := h
 have hin := ha.isIn hi
 have hok : CrcMath.okB bs = true := by
  rw [e]
  exact CrcMath.okB_seal (bodyA_all hin (by omega))
 have ho : openS bs = (bodyA l, false) := by
  unfold openS
  rw [if_pos hok, e]
  unfold bytesA
  rw [CrcMath.drop_sealB]
 have h1 : rdN (bodyA l) false = ((l.length : Int), drsS l, false) := rdN_enc (in_nat (by omega)) _
 unfold rdAb
 rw [ho, h1]
 simp only [Int.toNat_natCast]
 have h3 := rdDs_enc l [] hin ha []
 rw [List.append_nil] at h3
 exact h3
theorem ab_no {bs : List Nat} {l : List Dr} {r : List Nat} {f g : Bool} (h : rdAb bs = (l, r, f, g)) (hL : bs.length ≤ 1048600) (hb : ¬ (g = true ∧ f = false ∧ r = [] ∧ bytesA l = bs)) : ∀ m, ¬ IsAb bs m := fun m hm => by
 rw [hm.rd hL] at h
 cases h
 exact hb ⟨rfl, rfl, rfl, hm.2.2.symm⟩
theorem ab_yes {bs : List Nat} {l : List Dr} {r : List Nat} {f g : Bool} (h : rdAb bs = (l, r, f, g)) (hb : bytesA l = bs) : IsAb bs l := by
 have e := congrArg Prod.fst h
 have h1 := rdDs_ok (rdN (openS bs).1 (openS bs).2).1.toNat [] (rdN (openS bs).1 (openS bs).2).2.1 (rdN (openS bs).1 (openS bs).2).2.2 DrsOk.nil (fun d hd => by cases hd)
 rw [show rdDs (rdN (openS bs).1 (openS bs).2).1.toNat [] (rdN (openS bs).1 (openS bs).2).2.1 (rdN (openS bs).1 (openS bs).2).2.2 = rdAb bs from rfl, h] at h1
 exact ⟨h1.1, h1.2, hb.symm⟩
theorem IsAb.one {bs : List Nat} {l m : List Dr} (h : IsAb bs l) (h' : IsAb bs m) (hL : bs.length ≤ 1048600) : l = m := by
 have h1 := h.rd hL
 rw [h'.rd hL] at h1
 cases h1
 rfl
end Go.AbMath
namespace Go.Proofs.Ytbejincejbnbaaa
open Go.RowKit
open Go.SeqMath
open Go.ProdMath
open Go.SnapMath
open Go.VarMath (encN)
open Go.BatMath hiding AllB getD_lt take_all
set_option linter.unusedVariables false

theorem encL {n : Int} (h : In64 n) : 1 ≤ (encN n).length ∧ (encN n).length ≤ 10 := encN_len h.1 h.2
def GivesSnPut (w : World) (bs : List Nat) (e : Ending) (w' : World) : Prop := ∃ g m c, e = .returned (.slice (some ⟨g, 0, none⟩) m c) ∧ Row w' (some ⟨g, 0, none⟩) m c bs ∧ Below w.heap.size w w'
theorem put_row (w : World) (ad : Option Addr) (len cap : Nat) (bs : List Nat) (n : Int) (h : Row w ad len cap bs) (hL : bs.length ≤ 140737488355300) (hn : In64 n) :
 Calls Try.prog 32 #[.slice ad len cap, .int .i64 n] w (GivesSnPut w (bs ++ encN n)) := by
 refine (refPut_any w ad len cap bs n h (by have := h.len; omega) hn.1 hn.2).mono ?_
 rintro e w' ⟨g, c, rfl, ho, hb⟩
 exact ⟨g, _, c, rfl, owns_row ho (all_append h.all (encN_all hn.1 hn.2)), hb⟩
theorem made_below {w w1 w' : World} {bs : List Nat} {v : Value} (hb : Below w.heap.size w w1) (h : Made w1 bs v w') : Made w bs v w' := by
 obtain ⟨g, cap, e, h1, h2, h3, h4⟩ := h
 exact ⟨g, cap, e, h1, Nat.le_trans hb.size h2, h3, hb.trans (h4.mono hb.size)⟩
theorem rowEq {w : World} {ad : Option Addr} {len cap : Nat} {a b : List Nat} (h : Row w ad len cap a) (e : a = b) : Row w ad len cap b := e ▸ h
end Go.Proofs.Ytbejincejbnbaaa
namespace Go.Proofs.Ytbejincejbnbaaa
open Go.RowKit
open Go.AbMath
open Go.ProdMath
open Go.VarMath (encN)
open Go.SnapMath (in_nat)
open Go.BatMath hiding AllB getD_lt take_all
set_option linter.unusedVariables false

set_option maxRecDepth 100000 in
set_option maxHeartbeats 8000000 in
theorem lBytesP_any (P0 : Nat → Prop) (w : World) (k : Nat) (l : List Dr) (z : Int) (h : LAtP P0 w k l z) (hin : ∀ d ∈ l, DrIn d) (hL : l.length ≤ 1000000) :
 Calls Try.prog 12 #[.pointer (some ⟨k, 0, none⟩)] w (GivesMade w (bytesA l)) := by
 obtain ⟨ad, len, cap, hbox, hrow, hsep⟩ := h
 have hll : l.length = len := hrow.length
 have H := Lib.hid hrow
 have HX := Lib.hid hbox
 have HIN := Lib.hid hin
 have HLL := Lib.hid hll
 rw [hll] at hL
 have HTK : Hid (∀ j, (drsS (l.take j)).length ≤ 30000000) := fun j => by
  have h1 := (drsS_len (l := l.take j) (fun p hp => HIN.out p (List.mem_of_mem_take hp))).2
  rw [List.length_take] at h1
  have := HLL.out
  omega
 have c0 := hbox.c0
 clear hbox hrow hsep hin hll
 go_enter Try.func12, Try.ntmps12
 go_wp2_with fail
 refine (put_row w none 0 0 [] (len : Int) ⟨Byt.nil w, fun _ => rfl⟩ (by simp) (in_nat hL)).mono ?_
 rintro e w1 ⟨g1, n1, c1, rfl, hr1, hb1⟩
 have HR1 : Hid (Row w1 (some ⟨g1, 0, none⟩) n1 c1 (encN (len : Int) ++ drsS (l.take 0))) := by
  refine rowEq hr1 ?_
  show _ = _ ++ []
  rw [List.nil_append, List.append_nil]
 have HB1 := Lib.hid hb1
 have c0 := (HX.out.on hb1).c0
 clear hr1 hb1
 go_wp2
 go_loopw [3, 17] (fun v3 v17 wr => ∃ (j g m c : Nat), v3 = .slice (some ⟨g, 0, none⟩) m c ∧ v17 = .int .i64 (j : Int) ∧ j ≤ len ∧ Hid (Row wr (some ⟨g, 0, none⟩) m c (encN (len : Int) ++ drsS (l.take j))) ∧ Hid (Below w.heap.size w wr)) (fun _ v17 _ => len - (intOf v17).toNat)
 case atStart => exact ⟨0, g1, n1, c1, rfl, rfl, Nat.zero_le _, HR1.out, HB1.out⟩
 case round =>
  obtain ⟨j, g, mm, c, rfl, rfl, hj, HR, HB⟩ := hrel
  clear HR1 HB1 c0
  obtain ⟨wo, hwo⟩ : ∃ wo : World, wo = wr := ⟨_, rfl⟩
  subst hwo
  by_cases hlt : j < len
  · have hd : decide (j < len) = true := decide_eq_true hlt
    have hjl : (j : Int) < (len : Int) := by omega
    obtain ⟨bk, off, x, rfl, hbk, hx, p0, p1, p2⟩ := dr_get (H.out.keep HB.out) hlt
    have HPT := Lib.hid (drsS_take hx)
    have HDI := HIN.out x (List.mem_of_getElem? hx)
    obtain ⟨x0, x1, x2⟩ := x
    simp only at p0 p1 p2
    obtain ⟨i0, i1, i2⟩ := HDI
    simp only at i0 i1 i2
    obtain ⟨X, hX⟩ : ∃ X, X = encN (len : Int) ++ drsS (l.take j) := ⟨_, rfl⟩
    rw [← hX] at HR
    have HXL : Hid (X.length ≤ 30000020) := by
     show _ ≤ _
     have h1 := (encL (in_nat hL)).2
     have h2 := HTK.out j
     rw [hX, List.length_append]
     omega
    have HXE : Hid (encN (len : Int) ++ drsS (l.take (j + 1)) = X ++ drS ⟨x0, x1, x2⟩) := by
     show _ = _
     rw [HPT.out, hX, List.append_assoc]
    have HE0 := Lib.hid (encL i0)
    have HE1 := Lib.hid (encL i1)
    have HE2 := Lib.hid (encL i2)
    clear hx hX HPT
    go_upto_region 5 with fail
    obtain ⟨W1, hW1⟩ : ∃ z, z = wo.alloc (.cells #[.int .i64 x0, .int .i64 x1, .int .i64 x2] 29) := ⟨_, rfl⟩
    obtain ⟨P, hP⟩ : ∃ P, P = wo.heap.size := ⟨_, rfl⟩
    have hb : Below wo.heap.size wo W1 := by rw [hW1]; exact (Below.refl _ _).alloc (Nat.le_refl _) _
    have HP : Hid (DBox W1 P ⟨x0, x1, x2⟩) := by show DBox _ _ _; rw [hW1, hP]; exact dbox_new wo ⟨x0, x1, x2⟩
    replace HR : Hid (Row W1 (some ⟨g, 0, none⟩) mm c X) := HR.out.keep hb (Nat.le_refl _)
    replace HB := Lib.hid (HB.out.trans (hb.mono HB.out.size))
    (try rw [← hW1, ← hP])
    clear hW1 hP hb p0 p1 p2 hbk
    have KS : Hid (∀ V, Below W1.heap.size W1 V → (fun (V : World) => V.cell? ⟨P, 0, none⟩ = some (.int .i64 x0) ∧ V.cell? ⟨P, 1, none⟩ = some (.int .i64 x1) ∧ V.cell? ⟨P, 2, none⟩ = some (.int .i64 x2)) V) := fun V hV => ⟨(HP.out.on hV).c0, (HP.out.on hV).c1, (HP.out.on hV).c2⟩
    have hdrw : Below W1.heap.size W1 W1.drew := (Below.refl _ W1).drew
    refine wp_region_noPanic ?_
    refine wp_region_z [] (fun (V : World) => V.cell? ⟨P, 0, none⟩ = some (.int .i64 x0) ∧ V.cell? ⟨P, 1, none⟩ = some (.int .i64 x1) ∧ V.cell? ⟨P, 2, none⟩ = some (.int .i64 x2)) (by kernel_rfl) ?_
    have hHeld := KS.out _ hdrw
    obtain ⟨u_0, hu⟩ : ∃ u, u = W1.drew := ⟨_, rfl⟩
    rw [← hu] at hHeld hdrw
    rw [← hu]
    clear hu
    have HU := Lib.hid hdrw
    clear hdrw
    refine zt 0 ?_
    refine zt 1 ?_
    refine zt 2 ?_
    refine zt 4 ?_
    refine zt 5 ?_
    refine zt 7 ?_
    refine zt 8 ?_
    refine zr 3 (fun C hC => ?_)
    go_simp
    refine (put_row u_0 _ _ _ _ x0 (HR.out.keep HU.out (Nat.le_refl _)) (by have h0 := HXL.out; have h1 := HE0.out; have h2 := HE1.out; have h3 := HE2.out; (try simp only [List.length_append]); omega) i0).mono ?_
    rintro e u_1 ⟨ga, na, ca, rfl, hr, hb⟩
    have HQ1 := Lib.hid hr
    replace HU := Lib.hid (HU.out.trans (hb.mono HU.out.size))
    clear hr hb
    have hHeld := KS.out _ HU.out
    refine zc hC hHeld ?_
    clear hC C
    refine zr 6 (fun C hC => ?_)
    go_simp
    refine (put_row u_1 _ _ _ _ x1 HQ1.out (by have h0 := HXL.out; have h1 := HE0.out; have h2 := HE1.out; have h3 := HE2.out; (try simp only [List.length_append]); omega) i1).mono ?_
    rintro e u_2 ⟨gb, nb, cb, rfl, hr, hb⟩
    have HQ2 := Lib.hid hr
    replace HU := Lib.hid (HU.out.trans (hb.mono HU.out.size))
    clear hr hb HQ1
    have hHeld := KS.out _ HU.out
    refine zc hC hHeld ?_
    clear hC C
    refine zr 9 (fun C hC => ?_)
    go_simp
    refine (put_row u_2 _ _ _ _ x2 HQ2.out (by have h0 := HXL.out; have h1 := HE0.out; have h2 := HE1.out; have h3 := HE2.out; (try simp only [List.length_append]); omega) i2).mono ?_
    rintro e u_3 ⟨gc, nc, cc, rfl, hr, hb⟩
    have HQ3 := Lib.hid hr
    replace HU := Lib.hid (HU.out.trans (hb.mono HU.out.size))
    clear hr hb HQ2
    have hHeld := KS.out _ HU.out
    refine zc hC hHeld ?_
    clear hC C
    refine zt 10 ?_
    refine wpAnyZ_done (by kernel_rfl) ?_ _
    refine NoPanic.normal ?_
    clear hHeld
    have HR3 : Hid (Row u_3 (some ⟨gc, 0, none⟩) nc cc (encN (len : Int) ++ drsS (l.take (j + 1)))) := by
     refine rowEq HQ3.out ?_
     rw [HXE.out]
     unfold drS
     simp only [List.append_assoc]
    have HB3 := Lib.hid (HB.out.trans (HU.out.mono HB.out.size))
    clear HQ3 HU HR HB KS HP
    go_wp2
    go_roundw
    case rel => exact ⟨j + 1, gc, nc, cc, rfl, rfl, by omega, HR3.out, HB3.out⟩
    case measure => simp [intOf]; omega
  · have hd : decide (j < len) = false := decide_eq_false hlt
    have hjn : j = len := by omega
    have HFIN : Hid (Row wo (some ⟨g, 0, none⟩) mm c (bodyA l)) := by
     refine rowEq HR.out ?_
     unfold bodyA
     rw [hjn, List.take_of_length_le (by rw [HLL.out]; exact Nat.le_refl _), HLL.out]
    have hml : mm ≤ 140737488355300 := by
     have h1 := HFIN.out.len
     have h2 := (drsS_len HIN.out).2
     have h3 := (encL (in_nat hL)).2
     have h4 := HLL.out
     unfold bodyA at h1
     rw [List.length_append, h4] at h1
     omega
    clear hjn HR
    go_wp2_with fail
    refine (sealed_any wo (some ⟨g, 0, none⟩) mm c (bodyA l) HFIN.out.1 HFIN.out.2 hml).mono ?_
    rintro e w9 ⟨v9, rfl, hmade⟩
    have HM := Lib.hid (made_below HB.out hmade)
    clear hmade
    go_wp2
    go_ret
    exact ⟨_, rfl, HM.out⟩
theorem lBytes_any (B0 : Nat) (w : World) (k : Nat) (l : List Dr) (z : Int) (h : LAt B0 w k l z) (hin : ∀ d ∈ l, DrIn d) (hL : l.length ≤ 1000000) :
 Calls Try.prog 12 #[.pointer (some ⟨k, 0, none⟩)] w (GivesMade w (bytesA l)) := lBytesP_any _ w k l z h hin hL
end Go.Proofs.Ytbejincejbnbaaa
