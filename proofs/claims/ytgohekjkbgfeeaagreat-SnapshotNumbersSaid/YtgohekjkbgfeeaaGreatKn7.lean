/- Parts of a proof, merged: PrSmall, PrRight, MapAs, ProdGet. -/
import Derived.Laws.StructEq
import Derived.Maps.RangeRun
import Derived.Maps.RangeWalk
import Derived.Maps.Keyed
import Derived.Laws.ResultCell
import Derived.Test.YtgohekjkbgfeeaaGreatKn1
import Derived.Test.YtgohekjkbgfeeaaGreatKn3
import Derived.Test.YtgohekjkbgfeeaaGreatKn6
import Derived.Test.YtgohekjkbgfeeaaGreatKn2
namespace Go.Proofs.YtgohekjkbgfeeaaGreat
open Go.RowKit
open Go.SeqMath
open Go.ProdMath
open Go.BatMath hiding AllB take_all
set_option linter.unusedVariables false

theorem eq_three (a b c d e f : Int) (w : World) : (Op.equalIn 10000 79 (.agg #[.int .i64 a, .int .i64 b, .int .i64 c]) (.agg #[.int .i64 d, .int .i64 e, .int .i64 f])).run Tryz.prog w = .ok (a == d && (b == e && c == f)) w := by
 have u3 := Tryz.underlying2
 have a3 := Tryz.isAgg2
 have z3 := Tryz.sizeOf2
 rw [show (10000 : Nat) = 9999 + 1 from rfl, Op.equalIn]
 simp only [Sem.run_bind, run_underlying Tryz.underlying79, Result.andThen_ok]
 simp only [Std.Legacy.Range.forIn_eq_forIn_range', Std.Legacy.Range.size, Nat.sub_zero, Nat.add_sub_cancel, Nat.div_one, List.range'_succ, List.range'_zero, List.forIn_cons, List.forIn_nil]
 go_simp
 by_cases h1 : a = d <;> by_cases h2 : b = e <;> by_cases h3 : c = f <;> simp [h1, h2, h3]
theorem guard_three : Tryz.prog.eqGuardType Tryz.prog.depth 79 = false := by kernel_rfl
theorem neq_three (a b c d e f : Int) (r : Bool) (hr : (a == d && (b == e && c == f)) = r) (w : World) : (binOp .neq 79 (.agg #[.int .i64 a, .int .i64 b, .int .i64 c]) (.agg #[.int .i64 d, .int .i64 e, .int .i64 f])).run Tryz.prog w = .ok (.bool (!r)) w := by
 rw [run_neq_struct, eq_three, hr]; rfl
theorem prOpen_any (w : World) (id ep op : Int) (ad : Option Addr) (n cap : Nat) (r : Bool) (hr : decide (0 ≤ op) = r) :
 Calls Tryz.prog 82 #[.agg #[.int .i64 id, .int .i64 ep, .slice ad n cap, .int .i64 op]] w fun e w' => e = .returned (.bool r) ∧ Below w.heap.size w w' := by
 have HR := Lib.hid hr
 clear hr
 obtain ⟨W0, hW0⟩ : ∃ W0, W0 = (w.alloc (.cells #[.int .i64 id, .int .i64 ep, .slice ad n cap, .int .i64 op] 78)) := ⟨_, rfl⟩
 have HB0 : Hid (Below w.heap.size w W0) := by show Below _ _ _; rw [hW0]; exact (Below.refl _ _).alloc (Nat.le_refl _) _
 have HP0 : Hid (PBox W0 w.heap.size (id) (ep) (.slice ad n cap) (op)) := by
  show PBox _ w.heap.size (id) (ep) (.slice ad n cap) (op)
  rw [hW0]
  have h1 := pbox_new w (id) (ep) (.slice ad n cap) (op)
  simpa using h1
 have HW0 := Lib.hid hW0
 clear hW0
 obtain ⟨B1, hB1⟩ : ∃ B, B = w.heap.size := ⟨_, rfl⟩
 rw [← hB1] at HP0
 go_enter Tryz.func82, Tryz.ntmps82
 go_upto_region 1 with fail
 rw [← HW0.out, ← hB1]
 clear HW0 hB1
 have q3 := HP0.out.c3
 go_wp2
 go_ret
 exact ⟨by rw [← HR.out]; rfl, HB0.out⟩
theorem prOffset_any (w : World) (n : Int) (r : Bool) (hr : (decide (0 ≤ n) && decide (n ≤ 1099511627776)) = r) :
 Calls Tryz.prog 140 #[.int .i64 n] w fun e w' => e = .returned (.bool r) ∧ w = w' := by
 have HR := Lib.hid hr
 clear hr
 by_cases h0 : 0 ≤ n
 · have hd0 : decide (0 ≤ n) = true := decide_eq_true h0
   go_enter Tryz.func140, Tryz.ntmps140
   go_wp2
   go_ret
   exact ⟨by rw [← HR.out, hd0]; rfl, rfl⟩
 · have hd0 : decide (0 ≤ n) = false := decide_eq_false h0
   go_enter Tryz.func140, Tryz.ntmps140
   go_wp2
   go_ret
   exact ⟨by rw [← HR.out, hd0]; rfl, rfl⟩
set_option maxHeartbeats 1000000 in
theorem prEnd_any (w : World) (b0 b1 b2 b3 : Int) (b4 : Bool) (b5 : Int) (rd : Option Addr) (rn rc : Nat) (hm : b5 = 0) (hrn : rn ≤ 140737488355328) (v : Int) (hv : lastI b3 rn = v) :
 Calls Tryz.prog 81 #[.agg #[.int .i64 b0, .int .i64 b1, .int .i64 b2, .int .i64 b3, .bool b4, .int .i64 b5, .slice rd rn rc]] w fun e w' => e = .returned (.int .i64 v) ∧ Below w.heap.size w w' := by
 have HM := Lib.hid hm
 have HV := Lib.hid hv
 clear hm hv
 obtain ⟨W0, hW0⟩ : ∃ W0, W0 = (w.alloc (.cells #[.int .i64 b0, .int .i64 b1, .int .i64 b2, .int .i64 b3, .bool b4, .int .i64 b5, .slice rd rn rc] 56)) := ⟨_, rfl⟩
 have HB0 : Hid (Below w.heap.size w W0) := by show Below _ _ _; rw [hW0]; exact (Below.refl _ _).alloc (Nat.le_refl _) _
 have HX0 : Hid (BoxAt W0 w.heap.size b0 b1 b2 b3 b4 b5 (.slice rd rn rc)) := by
  show BoxAt _ w.heap.size b0 b1 b2 b3 b4 b5 (.slice rd rn rc)
  rw [hW0]
  have h1 := boxAt_new w b0 b1 b2 b3 b4 b5 (.slice rd rn rc)
  simpa using h1
 have HW0 := Lib.hid hW0
 clear hW0
 obtain ⟨B1, hB1⟩ : ∃ B, B = w.heap.size := ⟨_, rfl⟩
 rw [← hB1] at HX0
 go_enter Tryz.func81, Tryz.ntmps81
 go_upto_region 1 with fail
 rw [← HW0.out, ← hB1]
 clear HW0 hB1
 have KS : Hid (∀ W, Below W0.heap.size W0 W → (fun (W : World) => W.cell? ⟨B1, 0, none⟩ = some (.int .i64 b0) ∧ W.cell? ⟨B1, 1, none⟩ = some (.int .i64 b1) ∧ W.cell? ⟨B1, 2, none⟩ = some (.int .i64 b2) ∧ W.cell? ⟨B1, 3, none⟩ = some (.int .i64 b3) ∧ W.cell? ⟨B1, 4, none⟩ = some (.bool b4) ∧ W.cell? ⟨B1, 5, none⟩ = some (.int .i64 b5) ∧ W.cell? ⟨B1, 6, none⟩ = some (.slice rd rn rc) ∧ Below W0.heap.size W0 W) W) := by
  intro W hW
  have hX := HX0.out.on hW
  exact ⟨hX.c0, hX.c1, hX.c2, hX.c3, hX.c4, hX.c5, hX.c6, hW⟩
 refine wp_region_noPanic ?_
 refine wp_region_z [] (fun (W : World) => W.cell? ⟨B1, 0, none⟩ = some (.int .i64 b0) ∧ W.cell? ⟨B1, 1, none⟩ = some (.int .i64 b1) ∧ W.cell? ⟨B1, 2, none⟩ = some (.int .i64 b2) ∧ W.cell? ⟨B1, 3, none⟩ = some (.int .i64 b3) ∧ W.cell? ⟨B1, 4, none⟩ = some (.bool b4) ∧ W.cell? ⟨B1, 5, none⟩ = some (.int .i64 b5) ∧ W.cell? ⟨B1, 6, none⟩ = some (.slice rd rn rc) ∧ Below W0.heap.size W0 W) (by kernel_rfl) ?_
 have hHeld := KS.out _ (Below.refl _ W0).drew
 obtain ⟨u0, hu0⟩ : ∃ u, u = W0.drew := ⟨_, rfl⟩
 have HU0 : Hid (Below W0.heap.size W0 u0) := by show Below _ _ _; rw [hu0]; exact (Below.refl _ W0).drew
 rw [← hu0] at hHeld
 rw [← hu0]
 clear hu0
 refine zt 0 ?_
 refine zt 1 ?_
 refine zt 2 ?_
 refine zr 3 (fun C hC => ?_)
 go_simp
 refine (batCount_any u0 b0 b1 b2 b3 b4 b5 rd rn rc (rn : Int) (by rw [if_neg (fun h => h HM.out)])).mono ?_
 rintro e u1 ⟨rfl, hb1⟩
 have HU1 := Lib.hid (HU0.out.trans (hb1.mono HU0.out.size))
 clear hb1
 go_wp2_with fail
 have hHeld := KS.out _ HU1.out
 refine zc hC hHeld ?_
 clear hC C
 refine zr 4 (fun C hC => ?_)
 go_simp
 refine (seq_last b3 rn u1 v (by omega) (by omega) HV.out).mono ?_
 rintro e u2 ⟨rfl, rfl⟩
 go_wp2_with fail
 have hHeld : (fun (W : World) => W.cell? ⟨B1, 0, none⟩ = some (.int .i64 b0) ∧ W.cell? ⟨B1, 1, none⟩ = some (.int .i64 b1) ∧ W.cell? ⟨B1, 2, none⟩ = some (.int .i64 b2) ∧ W.cell? ⟨B1, 3, none⟩ = some (.int .i64 b3) ∧ W.cell? ⟨B1, 4, none⟩ = some (.bool b4) ∧ W.cell? ⟨B1, 5, none⟩ = some (.int .i64 b5) ∧ W.cell? ⟨B1, 6, none⟩ = some (.slice rd rn rc) ∧ Below W0.heap.size W0 W) _ := hHeld
 refine zc hC hHeld ?_
 clear hC C
 refine zt 5 ?_
 refine wpAnyZ_done (by kernel_rfl) ?_ _
 refine NoPanic.normal ?_
 clear hHeld
 go_wp2
 go_ret
 exact ⟨rfl, HB0.out.trans (HU1.out.mono HB0.out.size)⟩
theorem trOk_iff {x : Tr} {r : Bool} (hr : r = true ↔ TrOk x) : r = (decide (0 ≤ gapI x.f x.l) && decide (gapI x.f x.l < 16) && (decide (0 ≤ x.b) && decide (x.b ≤ 1099511627776))) := by
 rw [Bool.eq_iff_iff, hr]
 simp [TrOk, and_assoc]
theorem trNext_iff {y x : Tr} {r : Bool} (hr : r = true ↔ TrNext y x) : r = (decide (y.b < x.b) && followsB y.l x.f) := by
 rw [Bool.eq_iff_iff, hr]
 simp [TrNext]
set_option maxHeartbeats 1000000 in
theorem prElement_any (w : World) (x : Tr) (r : Bool) (hr : r = true ↔ TrOk x) :
 Calls Tryz.prog 141 #[.agg #[.int .i64 x.f, .int .i64 x.l, .int .i64 x.b]] w fun e w' => e = .returned (.bool r) ∧ Below w.heap.size w w' := by
 have HR := Lib.hid (trOk_iff hr)
 clear hr
 obtain ⟨g, hg⟩ : ∃ g, gapI x.f x.l = g := ⟨_, rfl⟩
 rw [hg] at HR
 have HG := Lib.hid hg
 clear hg
 obtain ⟨o, ho⟩ : ∃ o, (decide (0 ≤ x.b) && decide (x.b ≤ 1099511627776)) = o := ⟨_, rfl⟩
 rw [ho] at HR
 have HO := Lib.hid ho
 clear ho
 obtain ⟨W0, hW0⟩ : ∃ W0, W0 = (w.alloc (.cells #[.int .i64 x.f, .int .i64 x.l, .int .i64 x.b] 79)) := ⟨_, rfl⟩
 have HB0 : Hid (Below w.heap.size w W0) := by show Below _ _ _; rw [hW0]; exact (Below.refl _ _).alloc (Nat.le_refl _) _
 have HT0 : Hid (TBox W0 w.heap.size x) := by
  show TBox _ w.heap.size x
  rw [hW0]
  have h1 := tbox_new w x
  simpa using h1
 have HW0 := Lib.hid hW0
 clear hW0
 obtain ⟨B1, hB1⟩ : ∃ B, B = w.heap.size := ⟨_, rfl⟩
 rw [← hB1] at HT0
 go_enter Tryz.func141, Tryz.ntmps141
 go_upto_region 1 with fail
 rw [← HW0.out, ← hB1]
 clear HW0 hB1
 have t0 := HT0.out.c0
 have t1 := HT0.out.c1
 have t2 := HT0.out.c2
 by_cases h0 : 0 ≤ g
 · have hd0 : decide (0 ≤ g) = true := decide_eq_true h0
   by_cases h1 : g < 16
   · have hd1 : decide (g < 16) = true := decide_eq_true h1
     have HE : Hid (r = o) := by show r = o; rw [HR.out, hd0, hd1]; rfl
     clear HR h0 h1
     go_wp2_with fail
     refine (seq_gap x.f x.l _ g HG.out).mono ?_
     rintro e w' ⟨rfl, rfl⟩
     go_wp2_with fail
     refine (prOffset_any _ x.b o HO.out).mono ?_
     rintro e w' ⟨rfl, rfl⟩
     go_wp2
     go_ret
     exact ⟨by rw [HE.out]; rfl, HB0.out⟩
   · have hd1 : decide (g < 16) = false := decide_eq_false h1
     have HE : Hid (r = false) := by show r = _; rw [HR.out, hd0, hd1]; rfl
     clear HR h0 h1
     go_wp2_with fail
     refine (seq_gap x.f x.l _ g HG.out).mono ?_
     rintro e w' ⟨rfl, rfl⟩
     go_wp2
     go_ret
     exact ⟨by rw [HE.out]; rfl, HB0.out⟩
 · have hd0 : decide (0 ≤ g) = false := decide_eq_false h0
   have HE : Hid (r = false) := by show r = _; rw [HR.out, hd0]; rfl
   clear HR h0
   go_wp2_with fail
   refine (seq_gap x.f x.l _ g HG.out).mono ?_
   rintro e w' ⟨rfl, rfl⟩
   go_wp2
   go_ret
   exact ⟨by rw [HE.out]; rfl, HB0.out⟩
theorem prBehind_any (w : World) (y x : Tr) (r : Bool) (hr : r = true ↔ TrNext y x) :
 Calls Tryz.prog 142 #[.agg #[.int .i64 y.f, .int .i64 y.l, .int .i64 y.b], .agg #[.int .i64 x.f, .int .i64 x.l, .int .i64 x.b]] w fun e w' => e = .returned (.bool r) ∧ Below w.heap.size w w' := by
 have HR := Lib.hid (trNext_iff hr)
 clear hr
 obtain ⟨o, ho⟩ : ∃ o, followsB y.l x.f = o := ⟨_, rfl⟩
 rw [ho] at HR
 have HO := Lib.hid ho
 clear ho
 obtain ⟨W0, hW0⟩ : ∃ W0, W0 = ((w.alloc (.cells #[.int .i64 y.f, .int .i64 y.l, .int .i64 y.b] 79)).alloc (.cells #[.int .i64 x.f, .int .i64 x.l, .int .i64 x.b] 79)) := ⟨_, rfl⟩
 have HB0 : Hid (Below w.heap.size w W0) := by show Below _ _ _; rw [hW0]; exact ((Below.refl _ _).alloc (Nat.le_refl _) _).alloc (by simp) _
 have HT0 : Hid (TBox W0 w.heap.size y) := by
  show TBox _ w.heap.size y
  rw [hW0]
  have h1 := tbox_new w y
  have h2 := h1.on ((Below.refl _ _).alloc (Nat.le_refl _) (.cells #[.int .i64 x.f, .int .i64 x.l, .int .i64 x.b] 79))
  simpa using h2
 have HT1 : Hid (TBox W0 (w.heap.size + 1) x) := by
  show TBox _ (w.heap.size + 1) x
  rw [hW0]
  have h1 := tbox_new (w.alloc (.cells #[.int .i64 y.f, .int .i64 y.l, .int .i64 y.b] 79)) x
  simpa using h1
 have HW0 := Lib.hid hW0
 clear hW0
 obtain ⟨B1, hB1⟩ : ∃ B, B = w.heap.size := ⟨_, rfl⟩
 obtain ⟨B2, hB2⟩ : ∃ B, B = w.heap.size + 1 := ⟨_, rfl⟩
 rw [← hB1] at HT0
 rw [← hB2] at HT1
 go_enter Tryz.func142, Tryz.ntmps142
 go_upto_region 1 with fail
 rw [← HW0.out, ← hB2, ← hB1]
 clear HW0 hB1 hB2
 have t0 := HT0.out.c0
 have t1 := HT0.out.c1
 have t2 := HT0.out.c2
 have s0 := HT1.out.c0
 have s1 := HT1.out.c1
 have s2 := HT1.out.c2
 by_cases h0 : y.b < x.b
 · have hd0 : decide (y.b < x.b) = true := decide_eq_true h0
   have HE : Hid (r = o) := by show r = o; rw [HR.out, hd0]; rfl
   clear HR h0
   go_wp2_with fail
   refine (seq_follows y.l x.f _ o HO.out).mono ?_
   rintro e w' ⟨rfl, rfl⟩
   go_wp2
   go_ret
   exact ⟨by rw [HE.out]; rfl, HB0.out⟩
 · have hd0 : decide (y.b < x.b) = false := decide_eq_false h0
   have HE : Hid (r = false) := by show r = _; rw [HR.out, hd0]; rfl
   clear HR h0
   go_wp2
   go_ret
   exact ⟨by rw [HE.out]; rfl, HB0.out⟩
end Go.Proofs.YtgohekjkbgfeeaaGreat
namespace Go.Proofs.YtgohekjkbgfeeaaGreat
open Go.RowKit
open Go.SeqMath
open Go.ProdMath
open Go.BatMath hiding AllB take_all
set_option linter.unusedVariables false

def GivesBool (w : World) (r : Bool) (e : Ending) (w' : World) : Prop := e = .returned (.bool r) ∧ Below w.heap.size w w'
theorem gives_bool {w w' : World} {r k : Bool} (h : r = k) (hb : Below w.heap.size w w') : GivesBool w r (.returned (.bool k)) w' := ⟨by rw [h], hb⟩
set_option maxRecDepth 100000 in
set_option maxHeartbeats 4000000 in
theorem prRight_any (w : World) (id ep op : Int) (last : List Tr) (ad : Option Addr) (n cap : Nat) (hl : RowAt trK w ad n cap last) (hn : n ≤ 100000000000) (r : Bool) (hr : r = true ↔ RightP ⟨id, ep, last, op⟩) :
 Calls Tryz.prog 106 #[.agg #[.int .i64 id, .int .i64 ep, .slice ad n cap, .int .i64 op]] w (GivesBool w r) := by
 have HR := Lib.hid hr
 clear hr
 have hln := hl.length
 obtain ⟨W0, hW0⟩ : ∃ W0, W0 = (w.alloc (.cells #[.int .i64 id, .int .i64 ep, .slice ad n cap, .int .i64 op] 78)) := ⟨_, rfl⟩
 have HB0 : Hid (Below w.heap.size w W0) := by show Below _ _ _; rw [hW0]; exact (Below.refl _ _).alloc (Nat.le_refl _) _
 have HP0 : Hid (PBox W0 w.heap.size (id) (ep) (.slice ad n cap) (op)) := by
  show PBox _ w.heap.size (id) (ep) (.slice ad n cap) (op)
  rw [hW0]
  have h1 := pbox_new w (id) (ep) (.slice ad n cap) (op)
  simpa using h1
 have HW0 := Lib.hid hW0
 clear hW0
 obtain ⟨B1, hB1⟩ : ∃ B, B = w.heap.size := ⟨_, rfl⟩
 rw [← hB1] at HP0
 go_enter Tryz.func106, Tryz.ntmps106
 go_upto_region 1 with fail
 rw [← HW0.out, ← hB1]
 clear HW0 hB1
 have HL0 := Lib.hid (hl.keep HB0.out)
 have HLN : Hid (last.length = n) := hln
 clear hl hln
 have q0 := HP0.out.c0
 have q1 := HP0.out.c1
 have q2 := HP0.out.c2
 have q3 := HP0.out.c3
 by_cases h1 : id < 0
 · have hd1 : decide (id < 0) = true := decide_eq_true h1
   have HE : Hid (r = false) := right_bad HR.out (fun h => by have := h.1; dsimp at this; omega)
   clear HR h1
   go_wp2
   go_ret
   exact gives_bool HE.out HB0.out
 · have hd1 : decide (id < 0) = false := decide_eq_false h1
   by_cases h2 : ep < 0
   · have hd2 : decide (ep < 0) = true := decide_eq_true h2
     have HE : Hid (r = false) := right_bad HR.out (fun h => by have := h.2.1; dsimp at this; omega)
     clear HR h1 h2
     go_wp2
     go_ret
     exact gives_bool HE.out HB0.out
   · have hd2 : decide (ep < 0) = false := decide_eq_false h2
     by_cases h3 : 32767 < ep
     · have hd3 : decide (32767 < ep) = true := decide_eq_true h3
       have HE : Hid (r = false) := right_bad HR.out (fun h => by have := h.2.2.1; dsimp at this; omega)
       clear HR h1 h2 h3
       go_wp2
       go_ret
       exact gives_bool HE.out HB0.out
     · have hd3 : decide (32767 < ep) = false := decide_eq_false h3
       go_upto_region 3 with fail
       obtain ⟨ob, hob⟩ : ∃ ob, (op != -1) = ob := ⟨_, rfl⟩
       by_cases h4 : op = -1 ∨ (0 ≤ op ∧ op ≤ 1099511627776)
       · have HOK : Hid (-1 ≤ op ∧ op ≤ 1099511627776) := by show _ ∧ _; omega
         cases ob
         · go_upto_region 5 with fail
           clear hob h4
           by_cases h5 : 5 < n
           · have hd5 : decide ((5 : Int) < (n : Int)) = true := decide_eq_true (by omega)
             have hd5n : decide (5 < n) = true := decide_eq_true h5
             have HE : Hid (r = false) := right_bad HR.out (fun h => by have := h.2.2.2.2.2; dsimp at this; have := HLN.out; omega)
             clear HR h1 h2 h3 h5
             go_wp2
             go_ret
             exact gives_bool HE.out HB0.out
           · have hd5 : decide ((5 : Int) < (n : Int)) = false := decide_eq_false (by omega)
             have hd5n : decide (5 < n) = false := decide_eq_false h5
             have HALL : Hid ((∀ j, j < n → StepOk last j) → r = true) := fun hs => right_end HR.out ⟨by dsimp; omega, by dsimp; omega, by dsimp; omega, HOK.out.1, HOK.out.2, by dsimp; have := HLN.out; omega⟩ (fun j hj => hs j (by rw [← HLN.out]; exact hj))
             clear h1 h2 h3 h5
             go_wp2
             go_loopw [34] (fun v34 wr => ∃ j : Nat, v34 = .int .i64 (j : Int) ∧ j ≤ n ∧ (∀ i, i < j → StepOk last i) ∧ Below W0.heap.size W0 wr) (fun v34 _ => n - (intOf v34).toNat)
             case atStart => exact ⟨0, rfl, Nat.zero_le _, (fun i hi => by omega), Below.refl _ _⟩
             case round =>
              obtain ⟨j, rfl, hj, hst, hbel⟩ := hrel
              have HS := Lib.hid hst
              have HB := Lib.hid hbel
              clear hst hbel q0 q1 q2 q3
              obtain ⟨wo, hwo⟩ : ∃ wo : World, wo = wr := ⟨_, rfl⟩
              subst hwo
              by_cases hlt : j < n
              · have hd6 : decide (j < n) = true := decide_eq_true hlt
                have hjn : (j : Int) < (n : Int) := by omega
                obtain ⟨bk, off, x, rfl, hbk, hx, c0, c1, c2⟩ := tr_get (HL0.out.keep HB.out) hlt
                have HX := Lib.hid hx
                clear hx hbk
                go_upto_region 10 with fail
                obtain ⟨W1, hW1⟩ : ∃ W1, W1 = wo.alloc (.cells #[.int .i64 x.f, .int .i64 x.l, .int .i64 x.b] 79) := ⟨_, rfl⟩
                have HB1 : Hid (Below W0.heap.size W0 W1) := by show Below _ _ _; rw [hW1]; exact HB.out.alloc HB.out.size _
                obtain ⟨K, hK⟩ : ∃ K, K = wo.heap.size := ⟨_, rfl⟩
                have HT1 : Hid (TBox W1 K x) := by show TBox _ _ _; rw [hW1, hK]; exact tbox_new wo x
                have HPP := Lib.hid (HP0.out.on HB1.out)
                have HL1 := Lib.hid (HL0.out.keep HB1.out)
                rw [← hW1, ← hK]
                clear hW1 hK c0 c1 c2 HB
                have KS : Hid (∀ W, Below W1.heap.size W1 W → (fun (W : World) => W.cell? ⟨K, 0, none⟩ = some (.int .i64 x.f) ∧ W.cell? ⟨K, 1, none⟩ = some (.int .i64 x.l) ∧ W.cell? ⟨K, 2, none⟩ = some (.int .i64 x.b) ∧ W.cell? ⟨B1, 0, none⟩ = some (.int .i64 id) ∧ W.cell? ⟨B1, 1, none⟩ = some (.int .i64 ep) ∧ W.cell? ⟨B1, 2, none⟩ = some (.slice (some ⟨bk, off, none⟩) n cap) ∧ W.cell? ⟨B1, 3, none⟩ = some (.int .i64 op) ∧ Below W1.heap.size W1 W) W) := by
                 intro W hW
                 have hP := HPP.out.on hW
                 have hT := HT1.out.on hW
                 exact ⟨hT.c0, hT.c1, hT.c2, hP.c0, hP.c1, hP.c2, hP.c3, hW⟩
                have hb1d : Below W1.heap.size W1 W1.drew := (Below.refl _ W1).drew
                by_cases hok : TrOk x
                · have HOK1 : Hid (true = true ↔ TrOk x) := ⟨fun _ => hok, fun _ => rfl⟩
                  have HTO := Lib.hid hok
                  clear hok
                  by_cases hj0 : j = 0
                  · have hz : decide ((0 : Int) < (j : Int)) = false := decide_eq_false (by omega)
                    have hzn : decide (0 < j) = false := decide_eq_false (by omega)
                    have HNX : Hid (∀ i, i < j + 1 → StepOk last i) := by
                     intro i hi
                     have : i = j := by omega
                     subst this
                     exact step_of HX.out HTO.out (fun y h0 => by omega)
                    clear hj0
                    refine wp_region_noPanic ?_
                    refine wp_region_z [] (fun (W : World) => W.cell? ⟨K, 0, none⟩ = some (.int .i64 x.f) ∧ W.cell? ⟨K, 1, none⟩ = some (.int .i64 x.l) ∧ W.cell? ⟨K, 2, none⟩ = some (.int .i64 x.b) ∧ W.cell? ⟨B1, 0, none⟩ = some (.int .i64 id) ∧ W.cell? ⟨B1, 1, none⟩ = some (.int .i64 ep) ∧ W.cell? ⟨B1, 2, none⟩ = some (.slice (some ⟨bk, off, none⟩) n cap) ∧ W.cell? ⟨B1, 3, none⟩ = some (.int .i64 op) ∧ Below W1.heap.size W1 W) (by kernel_rfl) ?_
                    have hHeld := KS.out _ hb1d
                    obtain ⟨u0, hu0⟩ : ∃ u, u = W1.drew := ⟨_, rfl⟩
                    rw [← hu0] at hHeld hb1d
                    rw [← hu0]
                    clear hu0
                    have HU0 := Lib.hid hb1d
                    clear hb1d
                    refine zt 0 ?_
                    refine zr 1 (fun C hC => ?_)
                    go_simp
                    refine (prElement_any u0 x true HOK1.out).mono ?_
                    rintro e u1 ⟨rfl, hb2⟩
                    have HU := Lib.hid (HU0.out.trans (hb2.mono HU0.out.size))
                    clear hb2
                    go_wp2_with fail
                    have hHeld := KS.out _ HU.out
                    refine zc hC hHeld ?_
                    clear hC C
                    refine zt 2 ?_
                    refine zt 3 ?_
                    refine zt 4 ?_
                    refine zt 5 ?_
                    refine zt 6 ?_
                    refine zt 7 ?_
                    refine zt 8 ?_
                    refine zt 9 ?_
                    refine zt 10 ?_
                    refine zt 11 ?_
                    refine zt 12 ?_
                    refine zt 13 ?_
                    refine zt 14 ?_
                    refine zt 15 ?_
                    refine zt 16 ?_
                    refine zt 17 ?_
                    refine wpAnyZ_done (by kernel_rfl) ?_ _
                    refine NoPanic.normal ?_
                    clear hHeld
                    have HBU := Lib.hid (HB1.out.trans (HU.out.mono HB1.out.size))
                    go_wp2
                    go_roundw
                    case rel => exact ⟨j + 1, by go_num, by omega, HNX.out, HBU.out⟩
                    case measure => simp [intOf]; omega
                  · have hz : decide ((0 : Int) < (j : Int)) = true := decide_eq_true (by omega)
                    have hzn : decide (0 < j) = true := decide_eq_true (by omega)
                    have hzp : 0 < j := by omega
                    have hi1 : (1 : Int) ≤ (j : Int) := by omega
                    have hi2 : (j : Int) - 1 < (n : Int) := by omega
                    have hi3 : ((j : Int) - 1).toNat = j - 1 := by omega
                    have hi4 : IntKind.i64.wrap ((j : Int) - 1) = (j : Int) - 1 := IntWalk.i64_in _ (by omega)
                    obtain ⟨bk', off', y, e', hbk, hy, d0, d1, d2⟩ := tr_get HL1.out (i := j - 1) (by omega)
                    cases e'
                    have HY := Lib.hid hy
                    have KY : Hid (∀ W, Below W1.heap.size W1 W → (fun (W : World) => W.cell? ⟨K, 0, none⟩ = some (.int .i64 x.f) ∧ W.cell? ⟨K, 1, none⟩ = some (.int .i64 x.l) ∧ W.cell? ⟨K, 2, none⟩ = some (.int .i64 x.b) ∧ W.cell? ⟨B1, 0, none⟩ = some (.int .i64 id) ∧ W.cell? ⟨B1, 1, none⟩ = some (.int .i64 ep) ∧ W.cell? ⟨B1, 2, none⟩ = some (.slice (some ⟨bk, off, none⟩) n cap) ∧ W.cell? ⟨B1, 3, none⟩ = some (.int .i64 op) ∧ (W.cell? ⟨bk, off + (j - 1) * 3, none⟩ = some (.int .i64 y.f) ∧ W.cell? ⟨bk, off + (j - 1) * 3 + 1, none⟩ = some (.int .i64 y.l) ∧ W.cell? ⟨bk, off + (j - 1) * 3 + 2, none⟩ = some (.int .i64 y.b)) ∧ Below W1.heap.size W1 W) W) := by
                     intro W hW
                     have h := KS.out W hW
                     exact ⟨h.1, h.2.1, h.2.2.1, h.2.2.2.1, h.2.2.2.2.1, h.2.2.2.2.2.1, h.2.2.2.2.2.2.1, ⟨(hW.cell (p := ⟨bk, _, none⟩) hbk).trans d0, (hW.cell (p := ⟨bk, _, none⟩) hbk).trans d1, (hW.cell (p := ⟨bk, _, none⟩) hbk).trans d2⟩, hW⟩
                    clear hj0 hy hbk d0 d1 d2
                    by_cases hne : TrNext y x
                    · have HN1 := Lib.hid hne
                      have HNX : Hid (∀ i, i < j + 1 → StepOk last i) := by
                       intro i hi
                       by_cases h : i < j
                       · exact HS.out i h
                       · have : i = j := by omega
                         subst this
                         exact step_of HX.out HTO.out (fun y' _ hy' => by rw [HY.out] at hy'; cases hy'; exact hne)
                      clear hne
                      refine wp_region_noPanic ?_
                      refine wp_region_z [] (fun (W : World) => W.cell? ⟨K, 0, none⟩ = some (.int .i64 x.f) ∧ W.cell? ⟨K, 1, none⟩ = some (.int .i64 x.l) ∧ W.cell? ⟨K, 2, none⟩ = some (.int .i64 x.b) ∧ W.cell? ⟨B1, 0, none⟩ = some (.int .i64 id) ∧ W.cell? ⟨B1, 1, none⟩ = some (.int .i64 ep) ∧ W.cell? ⟨B1, 2, none⟩ = some (.slice (some ⟨bk, off, none⟩) n cap) ∧ W.cell? ⟨B1, 3, none⟩ = some (.int .i64 op) ∧ (W.cell? ⟨bk, off + (j - 1) * 3, none⟩ = some (.int .i64 y.f) ∧ W.cell? ⟨bk, off + (j - 1) * 3 + 1, none⟩ = some (.int .i64 y.l) ∧ W.cell? ⟨bk, off + (j - 1) * 3 + 2, none⟩ = some (.int .i64 y.b)) ∧ Below W1.heap.size W1 W) (by kernel_rfl) ?_
                      have hHeld : (fun (W : World) => W.cell? ⟨K, 0, none⟩ = some (.int .i64 x.f) ∧ W.cell? ⟨K, 1, none⟩ = some (.int .i64 x.l) ∧ W.cell? ⟨K, 2, none⟩ = some (.int .i64 x.b) ∧ W.cell? ⟨B1, 0, none⟩ = some (.int .i64 id) ∧ W.cell? ⟨B1, 1, none⟩ = some (.int .i64 ep) ∧ W.cell? ⟨B1, 2, none⟩ = some (.slice (some ⟨bk, off, none⟩) n cap) ∧ W.cell? ⟨B1, 3, none⟩ = some (.int .i64 op) ∧ (W.cell? ⟨bk, off + (j - 1) * 3, none⟩ = some (.int .i64 y.f) ∧ W.cell? ⟨bk, off + (j - 1) * 3 + 1, none⟩ = some (.int .i64 y.l) ∧ W.cell? ⟨bk, off + (j - 1) * 3 + 2, none⟩ = some (.int .i64 y.b)) ∧ Below W1.heap.size W1 W) _ := KY.out _ hb1d
                      obtain ⟨u0, hu0⟩ : ∃ u, u = W1.drew := ⟨_, rfl⟩
                      rw [← hu0] at hHeld hb1d
                      rw [← hu0]
                      clear hu0
                      have HU0 := Lib.hid hb1d
                      clear hb1d
                      refine zt 0 ?_
                      refine zr 1 (fun C hC => ?_)
                      go_simp
                      refine (prElement_any u0 x true HOK1.out).mono ?_
                      rintro e u1 ⟨rfl, hb2⟩
                      have HU1 := Lib.hid (HU0.out.trans (hb2.mono HU0.out.size))
                      clear hb2
                      go_wp2_with fail
                      have hHeld : (fun (W : World) => W.cell? ⟨K, 0, none⟩ = some (.int .i64 x.f) ∧ W.cell? ⟨K, 1, none⟩ = some (.int .i64 x.l) ∧ W.cell? ⟨K, 2, none⟩ = some (.int .i64 x.b) ∧ W.cell? ⟨B1, 0, none⟩ = some (.int .i64 id) ∧ W.cell? ⟨B1, 1, none⟩ = some (.int .i64 ep) ∧ W.cell? ⟨B1, 2, none⟩ = some (.slice (some ⟨bk, off, none⟩) n cap) ∧ W.cell? ⟨B1, 3, none⟩ = some (.int .i64 op) ∧ (W.cell? ⟨bk, off + (j - 1) * 3, none⟩ = some (.int .i64 y.f) ∧ W.cell? ⟨bk, off + (j - 1) * 3 + 1, none⟩ = some (.int .i64 y.l) ∧ W.cell? ⟨bk, off + (j - 1) * 3 + 2, none⟩ = some (.int .i64 y.b)) ∧ Below W1.heap.size W1 W) u1 := KY.out _ HU1.out
                      refine zc hC hHeld ?_
                      clear hC C
                      refine zt 2 ?_
                      refine zt 3 ?_
                      refine zt 4 ?_
                      refine zt 5 ?_
                      refine zt 6 ?_
                      refine zt 7 ?_
                      refine zt 8 ?_
                      refine zt 9 ?_
                      refine zt 10 ?_
                      refine zt 11 ?_
                      refine zt 12 ?_
                      refine zt 13 ?_
                      refine zr 14 (fun C hC => ?_)
                      go_simp
                      refine (prBehind_any u1 y x true (iff_of_true rfl HN1.out)).mono ?_
                      rintro e u2 ⟨rfl, hb2⟩
                      have HU := Lib.hid (HU1.out.trans (hb2.mono HU1.out.size))
                      clear hb2
                      go_wp2_with fail
                      have hHeld : (fun (W : World) => W.cell? ⟨K, 0, none⟩ = some (.int .i64 x.f) ∧ W.cell? ⟨K, 1, none⟩ = some (.int .i64 x.l) ∧ W.cell? ⟨K, 2, none⟩ = some (.int .i64 x.b) ∧ W.cell? ⟨B1, 0, none⟩ = some (.int .i64 id) ∧ W.cell? ⟨B1, 1, none⟩ = some (.int .i64 ep) ∧ W.cell? ⟨B1, 2, none⟩ = some (.slice (some ⟨bk, off, none⟩) n cap) ∧ W.cell? ⟨B1, 3, none⟩ = some (.int .i64 op) ∧ (W.cell? ⟨bk, off + (j - 1) * 3, none⟩ = some (.int .i64 y.f) ∧ W.cell? ⟨bk, off + (j - 1) * 3 + 1, none⟩ = some (.int .i64 y.l) ∧ W.cell? ⟨bk, off + (j - 1) * 3 + 2, none⟩ = some (.int .i64 y.b)) ∧ Below W1.heap.size W1 W) u2 := KY.out _ HU.out
                      refine zc hC hHeld ?_
                      clear hC C
                      refine zt 15 ?_
                      refine zt 16 ?_
                      refine zt 17 ?_
                      refine wpAnyZ_done (by kernel_rfl) ?_ _
                      refine NoPanic.normal ?_
                      clear hHeld
                      have HBU := Lib.hid (HB1.out.trans (HU.out.mono HB1.out.size))
                      go_wp2
                      go_roundw
                      case rel => exact ⟨j + 1, by go_num, by omega, HNX.out, HBU.out⟩
                      case measure => simp [intOf]; omega
                    · have HN1 := Lib.hid hne
                      have HE : Hid (r = false) := right_step HR.out (step_bad2 hzp HX.out HY.out hne)
                      clear hne
                      refine wp_region_noPanic ?_
                      refine wp_region_z [] (fun (W : World) => W.cell? ⟨K, 0, none⟩ = some (.int .i64 x.f) ∧ W.cell? ⟨K, 1, none⟩ = some (.int .i64 x.l) ∧ W.cell? ⟨K, 2, none⟩ = some (.int .i64 x.b) ∧ W.cell? ⟨B1, 0, none⟩ = some (.int .i64 id) ∧ W.cell? ⟨B1, 1, none⟩ = some (.int .i64 ep) ∧ W.cell? ⟨B1, 2, none⟩ = some (.slice (some ⟨bk, off, none⟩) n cap) ∧ W.cell? ⟨B1, 3, none⟩ = some (.int .i64 op) ∧ (W.cell? ⟨bk, off + (j - 1) * 3, none⟩ = some (.int .i64 y.f) ∧ W.cell? ⟨bk, off + (j - 1) * 3 + 1, none⟩ = some (.int .i64 y.l) ∧ W.cell? ⟨bk, off + (j - 1) * 3 + 2, none⟩ = some (.int .i64 y.b)) ∧ Below W1.heap.size W1 W) (by kernel_rfl) ?_
                      have hHeld : (fun (W : World) => W.cell? ⟨K, 0, none⟩ = some (.int .i64 x.f) ∧ W.cell? ⟨K, 1, none⟩ = some (.int .i64 x.l) ∧ W.cell? ⟨K, 2, none⟩ = some (.int .i64 x.b) ∧ W.cell? ⟨B1, 0, none⟩ = some (.int .i64 id) ∧ W.cell? ⟨B1, 1, none⟩ = some (.int .i64 ep) ∧ W.cell? ⟨B1, 2, none⟩ = some (.slice (some ⟨bk, off, none⟩) n cap) ∧ W.cell? ⟨B1, 3, none⟩ = some (.int .i64 op) ∧ (W.cell? ⟨bk, off + (j - 1) * 3, none⟩ = some (.int .i64 y.f) ∧ W.cell? ⟨bk, off + (j - 1) * 3 + 1, none⟩ = some (.int .i64 y.l) ∧ W.cell? ⟨bk, off + (j - 1) * 3 + 2, none⟩ = some (.int .i64 y.b)) ∧ Below W1.heap.size W1 W) _ := KY.out _ hb1d
                      obtain ⟨u0, hu0⟩ : ∃ u, u = W1.drew := ⟨_, rfl⟩
                      rw [← hu0] at hHeld hb1d
                      rw [← hu0]
                      clear hu0
                      have HU0 := Lib.hid hb1d
                      clear hb1d
                      refine zt 0 ?_
                      refine zr 1 (fun C hC => ?_)
                      go_simp
                      refine (prElement_any u0 x true HOK1.out).mono ?_
                      rintro e u1 ⟨rfl, hb2⟩
                      have HU1 := Lib.hid (HU0.out.trans (hb2.mono HU0.out.size))
                      clear hb2
                      go_wp2_with fail
                      have hHeld : (fun (W : World) => W.cell? ⟨K, 0, none⟩ = some (.int .i64 x.f) ∧ W.cell? ⟨K, 1, none⟩ = some (.int .i64 x.l) ∧ W.cell? ⟨K, 2, none⟩ = some (.int .i64 x.b) ∧ W.cell? ⟨B1, 0, none⟩ = some (.int .i64 id) ∧ W.cell? ⟨B1, 1, none⟩ = some (.int .i64 ep) ∧ W.cell? ⟨B1, 2, none⟩ = some (.slice (some ⟨bk, off, none⟩) n cap) ∧ W.cell? ⟨B1, 3, none⟩ = some (.int .i64 op) ∧ (W.cell? ⟨bk, off + (j - 1) * 3, none⟩ = some (.int .i64 y.f) ∧ W.cell? ⟨bk, off + (j - 1) * 3 + 1, none⟩ = some (.int .i64 y.l) ∧ W.cell? ⟨bk, off + (j - 1) * 3 + 2, none⟩ = some (.int .i64 y.b)) ∧ Below W1.heap.size W1 W) u1 := KY.out _ HU1.out
                      refine zc hC hHeld ?_
                      clear hC C
                      refine zt 2 ?_
                      refine zt 3 ?_
                      refine zt 4 ?_
                      refine zt 5 ?_
                      refine zt 6 ?_
                      refine zt 7 ?_
                      refine zt 8 ?_
                      refine zt 9 ?_
                      refine zt 10 ?_
                      refine zt 11 ?_
                      refine zt 12 ?_
                      refine zt 13 ?_
                      refine zr 14 (fun C hC => ?_)
                      go_simp
                      refine (prBehind_any u1 y x false (iff_of_false (by decide) HN1.out)).mono ?_
                      rintro e u2 ⟨rfl, hb2⟩
                      have HU := Lib.hid (HU1.out.trans (hb2.mono HU1.out.size))
                      clear hb2
                      go_wp2_with fail
                      have hHeld : (fun (W : World) => W.cell? ⟨K, 0, none⟩ = some (.int .i64 x.f) ∧ W.cell? ⟨K, 1, none⟩ = some (.int .i64 x.l) ∧ W.cell? ⟨K, 2, none⟩ = some (.int .i64 x.b) ∧ W.cell? ⟨B1, 0, none⟩ = some (.int .i64 id) ∧ W.cell? ⟨B1, 1, none⟩ = some (.int .i64 ep) ∧ W.cell? ⟨B1, 2, none⟩ = some (.slice (some ⟨bk, off, none⟩) n cap) ∧ W.cell? ⟨B1, 3, none⟩ = some (.int .i64 op) ∧ (W.cell? ⟨bk, off + (j - 1) * 3, none⟩ = some (.int .i64 y.f) ∧ W.cell? ⟨bk, off + (j - 1) * 3 + 1, none⟩ = some (.int .i64 y.l) ∧ W.cell? ⟨bk, off + (j - 1) * 3 + 2, none⟩ = some (.int .i64 y.b)) ∧ Below W1.heap.size W1 W) u2 := KY.out _ HU.out
                      refine zc hC hHeld ?_
                      clear hC C
                      refine zt 15 ?_
                      refine zt 16 ?_
                      refine zt 17 ?_
                      refine wpAnyZ_done (by kernel_rfl) ?_ _
                      refine NoPanic.normal ?_
                      clear hHeld
                      go_wp2
                      go_ret
                      exact gives_bool HE.out (HB0.out.trans ((HB1.out.trans (HU.out.mono HB1.out.size)).mono HB0.out.size))
                · have HOK1 : Hid (false = true ↔ TrOk x) := ⟨fun h => (by cases h), fun h => absurd h hok⟩
                  have HE : Hid (r = false) := right_step HR.out (step_bad HX.out hok)
                  clear hok
                  refine wp_region_noPanic ?_
                  refine wp_region_z [] (fun (W : World) => W.cell? ⟨K, 0, none⟩ = some (.int .i64 x.f) ∧ W.cell? ⟨K, 1, none⟩ = some (.int .i64 x.l) ∧ W.cell? ⟨K, 2, none⟩ = some (.int .i64 x.b) ∧ W.cell? ⟨B1, 0, none⟩ = some (.int .i64 id) ∧ W.cell? ⟨B1, 1, none⟩ = some (.int .i64 ep) ∧ W.cell? ⟨B1, 2, none⟩ = some (.slice (some ⟨bk, off, none⟩) n cap) ∧ W.cell? ⟨B1, 3, none⟩ = some (.int .i64 op) ∧ Below W1.heap.size W1 W) (by kernel_rfl) ?_
                  have hHeld := KS.out _ hb1d
                  obtain ⟨u0, hu0⟩ : ∃ u, u = W1.drew := ⟨_, rfl⟩
                  rw [← hu0] at hHeld hb1d
                  rw [← hu0]
                  clear hu0
                  have HU0 := Lib.hid hb1d
                  clear hb1d
                  refine zt 0 ?_
                  refine zr 1 (fun C hC => ?_)
                  go_simp
                  refine (prElement_any u0 x false HOK1.out).mono ?_
                  rintro e u1 ⟨rfl, hb2⟩
                  have HU := Lib.hid (HU0.out.trans (hb2.mono HU0.out.size))
                  clear hb2
                  go_wp2_with fail
                  have hHeld := KS.out _ HU.out
                  refine zc hC hHeld ?_
                  clear hC C
                  refine zt 2 ?_
                  refine zt 3 ?_
                  refine zt 4 ?_
                  refine zt 5 ?_
                  refine zt 6 ?_
                  refine zt 7 ?_
                  refine zt 8 ?_
                  refine zt 9 ?_
                  refine zt 10 ?_
                  refine zt 11 ?_
                  refine zt 12 ?_
                  refine zt 13 ?_
                  refine zt 14 ?_
                  refine zt 15 ?_
                  refine zt 16 ?_
                  refine zt 17 ?_
                  refine wpAnyZ_done (by kernel_rfl) ?_ _
                  refine NoPanic.normal ?_
                  clear hHeld
                  go_wp2
                  go_ret
                  exact gives_bool HE.out (HB0.out.trans ((HB1.out.trans (HU.out.mono HB1.out.size)).mono HB0.out.size))
              · have hd6 : decide (j < n) = false := decide_eq_false hlt
                have HE : Hid (r = true) := HALL.out (fun i hi => HS.out i (by omega))
                go_wp2
                go_ret
                exact gives_bool HE.out (HB0.out.trans (HB.out.mono HB0.out.size))
         · have h5 : op ≠ -1 := fun h => by rw [h] at hob; cases hob
           have HO : Hid ((decide (0 ≤ op) && decide (op ≤ 1099511627776)) = true) := by
            have h6 : 0 ≤ op ∧ op ≤ 1099511627776 := by omega
            show _ = _
            rw [decide_eq_true h6.1, decide_eq_true h6.2]; rfl
           clear h5 h4
           go_wp2_with fail
           refine (prOffset_any _ op true HO.out).mono ?_
           rintro e w2 ⟨rfl, rfl⟩
           go_upto_region 5 with fail
           clear hob
           by_cases h5 : 5 < n
           · have hd5 : decide ((5 : Int) < (n : Int)) = true := decide_eq_true (by omega)
             have hd5n : decide (5 < n) = true := decide_eq_true h5
             have HE : Hid (r = false) := right_bad HR.out (fun h => by have := h.2.2.2.2.2; dsimp at this; have := HLN.out; omega)
             clear HR h1 h2 h3 h5
             go_wp2
             go_ret
             exact gives_bool HE.out HB0.out
           · have hd5 : decide ((5 : Int) < (n : Int)) = false := decide_eq_false (by omega)
             have hd5n : decide (5 < n) = false := decide_eq_false h5
             have HALL : Hid ((∀ j, j < n → StepOk last j) → r = true) := fun hs => right_end HR.out ⟨by dsimp; omega, by dsimp; omega, by dsimp; omega, HOK.out.1, HOK.out.2, by dsimp; have := HLN.out; omega⟩ (fun j hj => hs j (by rw [← HLN.out]; exact hj))
             clear h1 h2 h3 h5
             go_wp2
             go_loopw [34] (fun v34 wr => ∃ j : Nat, v34 = .int .i64 (j : Int) ∧ j ≤ n ∧ (∀ i, i < j → StepOk last i) ∧ Below W0.heap.size W0 wr) (fun v34 _ => n - (intOf v34).toNat)
             case atStart => exact ⟨0, rfl, Nat.zero_le _, (fun i hi => by omega), Below.refl _ _⟩
             case round =>
              obtain ⟨j, rfl, hj, hst, hbel⟩ := hrel
              have HS := Lib.hid hst
              have HB := Lib.hid hbel
              clear hst hbel q0 q1 q2 q3
              obtain ⟨wo, hwo⟩ : ∃ wo : World, wo = wr := ⟨_, rfl⟩
              subst hwo
              by_cases hlt : j < n
              · have hd6 : decide (j < n) = true := decide_eq_true hlt
                have hjn : (j : Int) < (n : Int) := by omega
                obtain ⟨bk, off, x, rfl, hbk, hx, c0, c1, c2⟩ := tr_get (HL0.out.keep HB.out) hlt
                have HX := Lib.hid hx
                clear hx hbk
                go_upto_region 10 with fail
                obtain ⟨W1, hW1⟩ : ∃ W1, W1 = wo.alloc (.cells #[.int .i64 x.f, .int .i64 x.l, .int .i64 x.b] 79) := ⟨_, rfl⟩
                have HB1 : Hid (Below W0.heap.size W0 W1) := by show Below _ _ _; rw [hW1]; exact HB.out.alloc HB.out.size _
                obtain ⟨K, hK⟩ : ∃ K, K = wo.heap.size := ⟨_, rfl⟩
                have HT1 : Hid (TBox W1 K x) := by show TBox _ _ _; rw [hW1, hK]; exact tbox_new wo x
                have HPP := Lib.hid (HP0.out.on HB1.out)
                have HL1 := Lib.hid (HL0.out.keep HB1.out)
                rw [← hW1, ← hK]
                clear hW1 hK c0 c1 c2 HB
                have KS : Hid (∀ W, Below W1.heap.size W1 W → (fun (W : World) => W.cell? ⟨K, 0, none⟩ = some (.int .i64 x.f) ∧ W.cell? ⟨K, 1, none⟩ = some (.int .i64 x.l) ∧ W.cell? ⟨K, 2, none⟩ = some (.int .i64 x.b) ∧ W.cell? ⟨B1, 0, none⟩ = some (.int .i64 id) ∧ W.cell? ⟨B1, 1, none⟩ = some (.int .i64 ep) ∧ W.cell? ⟨B1, 2, none⟩ = some (.slice (some ⟨bk, off, none⟩) n cap) ∧ W.cell? ⟨B1, 3, none⟩ = some (.int .i64 op) ∧ Below W1.heap.size W1 W) W) := by
                 intro W hW
                 have hP := HPP.out.on hW
                 have hT := HT1.out.on hW
                 exact ⟨hT.c0, hT.c1, hT.c2, hP.c0, hP.c1, hP.c2, hP.c3, hW⟩
                have hb1d : Below W1.heap.size W1 W1.drew := (Below.refl _ W1).drew
                by_cases hok : TrOk x
                · have HOK1 : Hid (true = true ↔ TrOk x) := ⟨fun _ => hok, fun _ => rfl⟩
                  have HTO := Lib.hid hok
                  clear hok
                  by_cases hj0 : j = 0
                  · have hz : decide ((0 : Int) < (j : Int)) = false := decide_eq_false (by omega)
                    have hzn : decide (0 < j) = false := decide_eq_false (by omega)
                    have HNX : Hid (∀ i, i < j + 1 → StepOk last i) := by
                     intro i hi
                     have : i = j := by omega
                     subst this
                     exact step_of HX.out HTO.out (fun y h0 => by omega)
                    clear hj0
                    refine wp_region_noPanic ?_
                    refine wp_region_z [] (fun (W : World) => W.cell? ⟨K, 0, none⟩ = some (.int .i64 x.f) ∧ W.cell? ⟨K, 1, none⟩ = some (.int .i64 x.l) ∧ W.cell? ⟨K, 2, none⟩ = some (.int .i64 x.b) ∧ W.cell? ⟨B1, 0, none⟩ = some (.int .i64 id) ∧ W.cell? ⟨B1, 1, none⟩ = some (.int .i64 ep) ∧ W.cell? ⟨B1, 2, none⟩ = some (.slice (some ⟨bk, off, none⟩) n cap) ∧ W.cell? ⟨B1, 3, none⟩ = some (.int .i64 op) ∧ Below W1.heap.size W1 W) (by kernel_rfl) ?_
                    have hHeld := KS.out _ hb1d
                    obtain ⟨u0, hu0⟩ : ∃ u, u = W1.drew := ⟨_, rfl⟩
                    rw [← hu0] at hHeld hb1d
                    rw [← hu0]
                    clear hu0
                    have HU0 := Lib.hid hb1d
                    clear hb1d
                    refine zt 0 ?_
                    refine zr 1 (fun C hC => ?_)
                    go_simp
                    refine (prElement_any u0 x true HOK1.out).mono ?_
                    rintro e u1 ⟨rfl, hb2⟩
                    have HU := Lib.hid (HU0.out.trans (hb2.mono HU0.out.size))
                    clear hb2
                    go_wp2_with fail
                    have hHeld := KS.out _ HU.out
                    refine zc hC hHeld ?_
                    clear hC C
                    refine zt 2 ?_
                    refine zt 3 ?_
                    refine zt 4 ?_
                    refine zt 5 ?_
                    refine zt 6 ?_
                    refine zt 7 ?_
                    refine zt 8 ?_
                    refine zt 9 ?_
                    refine zt 10 ?_
                    refine zt 11 ?_
                    refine zt 12 ?_
                    refine zt 13 ?_
                    refine zt 14 ?_
                    refine zt 15 ?_
                    refine zt 16 ?_
                    refine zt 17 ?_
                    refine wpAnyZ_done (by kernel_rfl) ?_ _
                    refine NoPanic.normal ?_
                    clear hHeld
                    have HBU := Lib.hid (HB1.out.trans (HU.out.mono HB1.out.size))
                    go_wp2
                    go_roundw
                    case rel => exact ⟨j + 1, by go_num, by omega, HNX.out, HBU.out⟩
                    case measure => simp [intOf]; omega
                  · have hz : decide ((0 : Int) < (j : Int)) = true := decide_eq_true (by omega)
                    have hzn : decide (0 < j) = true := decide_eq_true (by omega)
                    have hzp : 0 < j := by omega
                    have hi1 : (1 : Int) ≤ (j : Int) := by omega
                    have hi2 : (j : Int) - 1 < (n : Int) := by omega
                    have hi3 : ((j : Int) - 1).toNat = j - 1 := by omega
                    have hi4 : IntKind.i64.wrap ((j : Int) - 1) = (j : Int) - 1 := IntWalk.i64_in _ (by omega)
                    obtain ⟨bk', off', y, e', hbk, hy, d0, d1, d2⟩ := tr_get HL1.out (i := j - 1) (by omega)
                    cases e'
                    have HY := Lib.hid hy
                    have KY : Hid (∀ W, Below W1.heap.size W1 W → (fun (W : World) => W.cell? ⟨K, 0, none⟩ = some (.int .i64 x.f) ∧ W.cell? ⟨K, 1, none⟩ = some (.int .i64 x.l) ∧ W.cell? ⟨K, 2, none⟩ = some (.int .i64 x.b) ∧ W.cell? ⟨B1, 0, none⟩ = some (.int .i64 id) ∧ W.cell? ⟨B1, 1, none⟩ = some (.int .i64 ep) ∧ W.cell? ⟨B1, 2, none⟩ = some (.slice (some ⟨bk, off, none⟩) n cap) ∧ W.cell? ⟨B1, 3, none⟩ = some (.int .i64 op) ∧ (W.cell? ⟨bk, off + (j - 1) * 3, none⟩ = some (.int .i64 y.f) ∧ W.cell? ⟨bk, off + (j - 1) * 3 + 1, none⟩ = some (.int .i64 y.l) ∧ W.cell? ⟨bk, off + (j - 1) * 3 + 2, none⟩ = some (.int .i64 y.b)) ∧ Below W1.heap.size W1 W) W) := by
                     intro W hW
                     have h := KS.out W hW
                     exact ⟨h.1, h.2.1, h.2.2.1, h.2.2.2.1, h.2.2.2.2.1, h.2.2.2.2.2.1, h.2.2.2.2.2.2.1, ⟨(hW.cell (p := ⟨bk, _, none⟩) hbk).trans d0, (hW.cell (p := ⟨bk, _, none⟩) hbk).trans d1, (hW.cell (p := ⟨bk, _, none⟩) hbk).trans d2⟩, hW⟩
                    clear hj0 hy hbk d0 d1 d2
                    by_cases hne : TrNext y x
                    · have HN1 := Lib.hid hne
                      have HNX : Hid (∀ i, i < j + 1 → StepOk last i) := by
                       intro i hi
                       by_cases h : i < j
                       · exact HS.out i h
                       · have : i = j := by omega
                         subst this
                         exact step_of HX.out HTO.out (fun y' _ hy' => by rw [HY.out] at hy'; cases hy'; exact hne)
                      clear hne
                      refine wp_region_noPanic ?_
                      refine wp_region_z [] (fun (W : World) => W.cell? ⟨K, 0, none⟩ = some (.int .i64 x.f) ∧ W.cell? ⟨K, 1, none⟩ = some (.int .i64 x.l) ∧ W.cell? ⟨K, 2, none⟩ = some (.int .i64 x.b) ∧ W.cell? ⟨B1, 0, none⟩ = some (.int .i64 id) ∧ W.cell? ⟨B1, 1, none⟩ = some (.int .i64 ep) ∧ W.cell? ⟨B1, 2, none⟩ = some (.slice (some ⟨bk, off, none⟩) n cap) ∧ W.cell? ⟨B1, 3, none⟩ = some (.int .i64 op) ∧ (W.cell? ⟨bk, off + (j - 1) * 3, none⟩ = some (.int .i64 y.f) ∧ W.cell? ⟨bk, off + (j - 1) * 3 + 1, none⟩ = some (.int .i64 y.l) ∧ W.cell? ⟨bk, off + (j - 1) * 3 + 2, none⟩ = some (.int .i64 y.b)) ∧ Below W1.heap.size W1 W) (by kernel_rfl) ?_
                      have hHeld : (fun (W : World) => W.cell? ⟨K, 0, none⟩ = some (.int .i64 x.f) ∧ W.cell? ⟨K, 1, none⟩ = some (.int .i64 x.l) ∧ W.cell? ⟨K, 2, none⟩ = some (.int .i64 x.b) ∧ W.cell? ⟨B1, 0, none⟩ = some (.int .i64 id) ∧ W.cell? ⟨B1, 1, none⟩ = some (.int .i64 ep) ∧ W.cell? ⟨B1, 2, none⟩ = some (.slice (some ⟨bk, off, none⟩) n cap) ∧ W.cell? ⟨B1, 3, none⟩ = some (.int .i64 op) ∧ (W.cell? ⟨bk, off + (j - 1) * 3, none⟩ = some (.int .i64 y.f) ∧ W.cell? ⟨bk, off + (j - 1) * 3 + 1, none⟩ = some (.int .i64 y.l) ∧ W.cell? ⟨bk, off + (j - 1) * 3 + 2, none⟩ = some (.int .i64 y.b)) ∧ Below W1.heap.size W1 W) _ := KY.out _ hb1d
                      obtain ⟨u0, hu0⟩ : ∃ u, u = W1.drew := ⟨_, rfl⟩
                      rw [← hu0] at hHeld hb1d
                      rw [← hu0]
                      clear hu0
                      have HU0 := Lib.hid hb1d
                      clear hb1d
                      refine zt 0 ?_
                      refine zr 1 (fun C hC => ?_)
                      go_simp
                      refine (prElement_any u0 x true HOK1.out).mono ?_
                      rintro e u1 ⟨rfl, hb2⟩
                      have HU1 := Lib.hid (HU0.out.trans (hb2.mono HU0.out.size))
                      clear hb2
                      go_wp2_with fail
                      have hHeld : (fun (W : World) => W.cell? ⟨K, 0, none⟩ = some (.int .i64 x.f) ∧ W.cell? ⟨K, 1, none⟩ = some (.int .i64 x.l) ∧ W.cell? ⟨K, 2, none⟩ = some (.int .i64 x.b) ∧ W.cell? ⟨B1, 0, none⟩ = some (.int .i64 id) ∧ W.cell? ⟨B1, 1, none⟩ = some (.int .i64 ep) ∧ W.cell? ⟨B1, 2, none⟩ = some (.slice (some ⟨bk, off, none⟩) n cap) ∧ W.cell? ⟨B1, 3, none⟩ = some (.int .i64 op) ∧ (W.cell? ⟨bk, off + (j - 1) * 3, none⟩ = some (.int .i64 y.f) ∧ W.cell? ⟨bk, off + (j - 1) * 3 + 1, none⟩ = some (.int .i64 y.l) ∧ W.cell? ⟨bk, off + (j - 1) * 3 + 2, none⟩ = some (.int .i64 y.b)) ∧ Below W1.heap.size W1 W) u1 := KY.out _ HU1.out
                      refine zc hC hHeld ?_
                      clear hC C
                      refine zt 2 ?_
                      refine zt 3 ?_
                      refine zt 4 ?_
                      refine zt 5 ?_
                      refine zt 6 ?_
                      refine zt 7 ?_
                      refine zt 8 ?_
                      refine zt 9 ?_
                      refine zt 10 ?_
                      refine zt 11 ?_
                      refine zt 12 ?_
                      refine zt 13 ?_
                      refine zr 14 (fun C hC => ?_)
                      go_simp
                      refine (prBehind_any u1 y x true (iff_of_true rfl HN1.out)).mono ?_
                      rintro e u2 ⟨rfl, hb2⟩
                      have HU := Lib.hid (HU1.out.trans (hb2.mono HU1.out.size))
                      clear hb2
                      go_wp2_with fail
                      have hHeld : (fun (W : World) => W.cell? ⟨K, 0, none⟩ = some (.int .i64 x.f) ∧ W.cell? ⟨K, 1, none⟩ = some (.int .i64 x.l) ∧ W.cell? ⟨K, 2, none⟩ = some (.int .i64 x.b) ∧ W.cell? ⟨B1, 0, none⟩ = some (.int .i64 id) ∧ W.cell? ⟨B1, 1, none⟩ = some (.int .i64 ep) ∧ W.cell? ⟨B1, 2, none⟩ = some (.slice (some ⟨bk, off, none⟩) n cap) ∧ W.cell? ⟨B1, 3, none⟩ = some (.int .i64 op) ∧ (W.cell? ⟨bk, off + (j - 1) * 3, none⟩ = some (.int .i64 y.f) ∧ W.cell? ⟨bk, off + (j - 1) * 3 + 1, none⟩ = some (.int .i64 y.l) ∧ W.cell? ⟨bk, off + (j - 1) * 3 + 2, none⟩ = some (.int .i64 y.b)) ∧ Below W1.heap.size W1 W) u2 := KY.out _ HU.out
                      refine zc hC hHeld ?_
                      clear hC C
                      refine zt 15 ?_
                      refine zt 16 ?_
                      refine zt 17 ?_
                      refine wpAnyZ_done (by kernel_rfl) ?_ _
                      refine NoPanic.normal ?_
                      clear hHeld
                      have HBU := Lib.hid (HB1.out.trans (HU.out.mono HB1.out.size))
                      go_wp2
                      go_roundw
                      case rel => exact ⟨j + 1, by go_num, by omega, HNX.out, HBU.out⟩
                      case measure => simp [intOf]; omega
                    · have HN1 := Lib.hid hne
                      have HE : Hid (r = false) := right_step HR.out (step_bad2 hzp HX.out HY.out hne)
                      clear hne
                      refine wp_region_noPanic ?_
                      refine wp_region_z [] (fun (W : World) => W.cell? ⟨K, 0, none⟩ = some (.int .i64 x.f) ∧ W.cell? ⟨K, 1, none⟩ = some (.int .i64 x.l) ∧ W.cell? ⟨K, 2, none⟩ = some (.int .i64 x.b) ∧ W.cell? ⟨B1, 0, none⟩ = some (.int .i64 id) ∧ W.cell? ⟨B1, 1, none⟩ = some (.int .i64 ep) ∧ W.cell? ⟨B1, 2, none⟩ = some (.slice (some ⟨bk, off, none⟩) n cap) ∧ W.cell? ⟨B1, 3, none⟩ = some (.int .i64 op) ∧ (W.cell? ⟨bk, off + (j - 1) * 3, none⟩ = some (.int .i64 y.f) ∧ W.cell? ⟨bk, off + (j - 1) * 3 + 1, none⟩ = some (.int .i64 y.l) ∧ W.cell? ⟨bk, off + (j - 1) * 3 + 2, none⟩ = some (.int .i64 y.b)) ∧ Below W1.heap.size W1 W) (by kernel_rfl) ?_
                      have hHeld : (fun (W : World) => W.cell? ⟨K, 0, none⟩ = some (.int .i64 x.f) ∧ W.cell? ⟨K, 1, none⟩ = some (.int .i64 x.l) ∧ W.cell? ⟨K, 2, none⟩ = some (.int .i64 x.b) ∧ W.cell? ⟨B1, 0, none⟩ = some (.int .i64 id) ∧ W.cell? ⟨B1, 1, none⟩ = some (.int .i64 ep) ∧ W.cell? ⟨B1, 2, none⟩ = some (.slice (some ⟨bk, off, none⟩) n cap) ∧ W.cell? ⟨B1, 3, none⟩ = some (.int .i64 op) ∧ (W.cell? ⟨bk, off + (j - 1) * 3, none⟩ = some (.int .i64 y.f) ∧ W.cell? ⟨bk, off + (j - 1) * 3 + 1, none⟩ = some (.int .i64 y.l) ∧ W.cell? ⟨bk, off + (j - 1) * 3 + 2, none⟩ = some (.int .i64 y.b)) ∧ Below W1.heap.size W1 W) _ := KY.out _ hb1d
                      obtain ⟨u0, hu0⟩ : ∃ u, u = W1.drew := ⟨_, rfl⟩
                      rw [← hu0] at hHeld hb1d
                      rw [← hu0]
                      clear hu0
                      have HU0 := Lib.hid hb1d
                      clear hb1d
                      refine zt 0 ?_
                      refine zr 1 (fun C hC => ?_)
                      go_simp
                      refine (prElement_any u0 x true HOK1.out).mono ?_
                      rintro e u1 ⟨rfl, hb2⟩
                      have HU1 := Lib.hid (HU0.out.trans (hb2.mono HU0.out.size))
                      clear hb2
                      go_wp2_with fail
                      have hHeld : (fun (W : World) => W.cell? ⟨K, 0, none⟩ = some (.int .i64 x.f) ∧ W.cell? ⟨K, 1, none⟩ = some (.int .i64 x.l) ∧ W.cell? ⟨K, 2, none⟩ = some (.int .i64 x.b) ∧ W.cell? ⟨B1, 0, none⟩ = some (.int .i64 id) ∧ W.cell? ⟨B1, 1, none⟩ = some (.int .i64 ep) ∧ W.cell? ⟨B1, 2, none⟩ = some (.slice (some ⟨bk, off, none⟩) n cap) ∧ W.cell? ⟨B1, 3, none⟩ = some (.int .i64 op) ∧ (W.cell? ⟨bk, off + (j - 1) * 3, none⟩ = some (.int .i64 y.f) ∧ W.cell? ⟨bk, off + (j - 1) * 3 + 1, none⟩ = some (.int .i64 y.l) ∧ W.cell? ⟨bk, off + (j - 1) * 3 + 2, none⟩ = some (.int .i64 y.b)) ∧ Below W1.heap.size W1 W) u1 := KY.out _ HU1.out
                      refine zc hC hHeld ?_
                      clear hC C
                      refine zt 2 ?_
                      refine zt 3 ?_
                      refine zt 4 ?_
                      refine zt 5 ?_
                      refine zt 6 ?_
                      refine zt 7 ?_
                      refine zt 8 ?_
                      refine zt 9 ?_
                      refine zt 10 ?_
                      refine zt 11 ?_
                      refine zt 12 ?_
                      refine zt 13 ?_
                      refine zr 14 (fun C hC => ?_)
                      go_simp
                      refine (prBehind_any u1 y x false (iff_of_false (by decide) HN1.out)).mono ?_
                      rintro e u2 ⟨rfl, hb2⟩
                      have HU := Lib.hid (HU1.out.trans (hb2.mono HU1.out.size))
                      clear hb2
                      go_wp2_with fail
                      have hHeld : (fun (W : World) => W.cell? ⟨K, 0, none⟩ = some (.int .i64 x.f) ∧ W.cell? ⟨K, 1, none⟩ = some (.int .i64 x.l) ∧ W.cell? ⟨K, 2, none⟩ = some (.int .i64 x.b) ∧ W.cell? ⟨B1, 0, none⟩ = some (.int .i64 id) ∧ W.cell? ⟨B1, 1, none⟩ = some (.int .i64 ep) ∧ W.cell? ⟨B1, 2, none⟩ = some (.slice (some ⟨bk, off, none⟩) n cap) ∧ W.cell? ⟨B1, 3, none⟩ = some (.int .i64 op) ∧ (W.cell? ⟨bk, off + (j - 1) * 3, none⟩ = some (.int .i64 y.f) ∧ W.cell? ⟨bk, off + (j - 1) * 3 + 1, none⟩ = some (.int .i64 y.l) ∧ W.cell? ⟨bk, off + (j - 1) * 3 + 2, none⟩ = some (.int .i64 y.b)) ∧ Below W1.heap.size W1 W) u2 := KY.out _ HU.out
                      refine zc hC hHeld ?_
                      clear hC C
                      refine zt 15 ?_
                      refine zt 16 ?_
                      refine zt 17 ?_
                      refine wpAnyZ_done (by kernel_rfl) ?_ _
                      refine NoPanic.normal ?_
                      clear hHeld
                      go_wp2
                      go_ret
                      exact gives_bool HE.out (HB0.out.trans ((HB1.out.trans (HU.out.mono HB1.out.size)).mono HB0.out.size))
                · have HOK1 : Hid (false = true ↔ TrOk x) := ⟨fun h => (by cases h), fun h => absurd h hok⟩
                  have HE : Hid (r = false) := right_step HR.out (step_bad HX.out hok)
                  clear hok
                  refine wp_region_noPanic ?_
                  refine wp_region_z [] (fun (W : World) => W.cell? ⟨K, 0, none⟩ = some (.int .i64 x.f) ∧ W.cell? ⟨K, 1, none⟩ = some (.int .i64 x.l) ∧ W.cell? ⟨K, 2, none⟩ = some (.int .i64 x.b) ∧ W.cell? ⟨B1, 0, none⟩ = some (.int .i64 id) ∧ W.cell? ⟨B1, 1, none⟩ = some (.int .i64 ep) ∧ W.cell? ⟨B1, 2, none⟩ = some (.slice (some ⟨bk, off, none⟩) n cap) ∧ W.cell? ⟨B1, 3, none⟩ = some (.int .i64 op) ∧ Below W1.heap.size W1 W) (by kernel_rfl) ?_
                  have hHeld := KS.out _ hb1d
                  obtain ⟨u0, hu0⟩ : ∃ u, u = W1.drew := ⟨_, rfl⟩
                  rw [← hu0] at hHeld hb1d
                  rw [← hu0]
                  clear hu0
                  have HU0 := Lib.hid hb1d
                  clear hb1d
                  refine zt 0 ?_
                  refine zr 1 (fun C hC => ?_)
                  go_simp
                  refine (prElement_any u0 x false HOK1.out).mono ?_
                  rintro e u1 ⟨rfl, hb2⟩
                  have HU := Lib.hid (HU0.out.trans (hb2.mono HU0.out.size))
                  clear hb2
                  go_wp2_with fail
                  have hHeld := KS.out _ HU.out
                  refine zc hC hHeld ?_
                  clear hC C
                  refine zt 2 ?_
                  refine zt 3 ?_
                  refine zt 4 ?_
                  refine zt 5 ?_
                  refine zt 6 ?_
                  refine zt 7 ?_
                  refine zt 8 ?_
                  refine zt 9 ?_
                  refine zt 10 ?_
                  refine zt 11 ?_
                  refine zt 12 ?_
                  refine zt 13 ?_
                  refine zt 14 ?_
                  refine zt 15 ?_
                  refine zt 16 ?_
                  refine zt 17 ?_
                  refine wpAnyZ_done (by kernel_rfl) ?_ _
                  refine NoPanic.normal ?_
                  clear hHeld
                  go_wp2
                  go_ret
                  exact gives_bool HE.out (HB0.out.trans ((HB1.out.trans (HU.out.mono HB1.out.size)).mono HB0.out.size))
              · have hd6 : decide (j < n) = false := decide_eq_false hlt
                have HE : Hid (r = true) := HALL.out (fun i hi => HS.out i (by omega))
                go_wp2
                go_ret
                exact gives_bool HE.out (HB0.out.trans (HB.out.mono HB0.out.size))
       · have h5 : ob = true := by rw [← hob]; simp; omega
         have HE : Hid (r = false) := right_bad HR.out (fun h => by have := h.2.2.2; dsimp at this; omega)
         have HO : Hid ((decide (0 ≤ op) && decide (op ≤ 1099511627776)) = false) := by
          show _ = _
          by_cases h6 : 0 ≤ op
          · rw [decide_eq_false (p := op ≤ 1099511627776) (by omega), Bool.and_false]
          · rw [decide_eq_false h6, Bool.false_and]
         subst h5
         clear HR h1 h2 h3 h4
         go_wp2_with fail
         refine (prOffset_any _ op false HO.out).mono ?_
         rintro e w2 ⟨rfl, rfl⟩
         go_wp2
         go_ret
         exact gives_bool HE.out HB0.out
end Go.Proofs.YtgohekjkbgfeeaaGreat
namespace Go.Proofs.YtgohekjkbgfeeaaGreat
open Go.RowKit
open Go.ChangeMaps (setBlock)
open Go.Maps (Keyed)
set_option linter.unusedVariables false

/-- An entry as the map has it. -/
def entryP (e : MapEntry) : Value × Value := (e.key, e.val)
/-- Block km is a map of these things. -/
def MapAs {α : Type} (P : Program) (k : TypeId) (f : α → Value × Value) (w : World) (km : Nat) (ps : List α) : Prop :=
 ∃ es clock, w.heap[km]? = some (.map es clock) ∧ MapKept.Stamped es clock ∧ (es.toList.map entryP).Perm (ps.map f) ∧ ∀ p ∈ ps, ∃ l, keyOf P k (f p).1 = some l
section
variable {α : Type} {P : Program} {k : TypeId} {f : α → Value × Value} {w w' : World} {km : Nat} {ps : List α}
theorem MapAs.lt (h : MapAs P k f w km ps) : km < w.heap.size := by
 obtain ⟨es, clock, hb, _⟩ := h
 exact (Array.getElem?_eq_some_iff.1 hb).1
theorem MapAs.same (h : MapAs P k f w km ps) (he : w'.heap[km]? = w.heap[km]?) : MapAs P k f w' km ps := by
 obtain ⟨es, clock, hb, r⟩ := h
 exact ⟨es, clock, he.trans hb, r⟩
theorem MapAs.on (h : MapAs P k f w km ps) (hb : Below w.heap.size w w') : MapAs P k f w' km ps := h.same (hb.block km h.lt)
theorem MapAs.grown {r : Option Nat} (h : MapAs P k f w km ps) (hg : w.grownBy w' r) (hr : r ≠ some km) : MapAs P k f w' km ps := h.same (hg.block km h.lt fun e => hr e.symm)
theorem MapAs.perm {qs : List α} (h : MapAs P k f w km ps) (hp : ps.Perm qs) : MapAs P k f w km qs := by
 obtain ⟨es, clock, hb, hs, hq, hn⟩ := h
 exact ⟨es, clock, hb, hs, hq.trans (hp.map _), fun p h => hn p (hp.mem_iff.2 h)⟩
theorem mapAs_new (P : Program) (k : TypeId) (f : α → Value × Value) (w : World) : MapAs P k f (w.alloc (.map #[] 0)) w.heap.size ([] : List α) := ⟨#[], 0, heap_alloc_new w _, MapKept.stamped_empty 0, List.Perm.refl _, fun p h => by cases h⟩
/-- No key stands twice. -/
theorem MapAs.keys (h : MapAs P k f w km ps) : (ps.map fun p => (f p).1).Pairwise (· ≠ ·) := by
 obtain ⟨es, clock, hb, hs, hq, hn⟩ := h
 have h3 := ((MapKept.stamped_iff es clock).1 hs).2.2
 have h4 : (es.toList.map entryP).Pairwise (fun a b => a.1 ≠ b.1) := by rw [List.pairwise_map]; exact h3
 have h5 : (ps.map f).Pairwise (fun a b => a.1 ≠ b.1) := (hq.pairwise_iff (fun {_ _} h => Ne.symm h)).1 h4
 rw [List.pairwise_map] at h5 ⊢
 exact h5
theorem MapAs.one (h : MapAs P k f w km ps) {p q : α} (hp : p ∈ ps) (hq : q ∈ ps) (e : (f p).1 = (f q).1) : p = q := by
 have hn := h.keys
 obtain ⟨i, hi⟩ := List.getElem?_of_mem hp
 obtain ⟨j, hj⟩ := List.getElem?_of_mem hq
 have hi' : (ps.map fun p => (f p).1)[i]? = some (f p).1 := by rw [List.getElem?_map, hi]; rfl
 have hj' : (ps.map fun p => (f p).1)[j]? = some (f p).1 := by rw [List.getElem?_map, hj, e]; rfl
 have hil : i < (ps.map fun p => (f p).1).length := (List.getElem?_eq_some_iff.1 hi').1
 have := (List.getElem?_inj (i := i) (j := j) hil hn).1 (hi'.trans hj'.symm)
 subst this
 exact Option.some.inj (hi.symm.trans hj)
theorem permAs_set {α : Type} : ∀ (l : List α) (j : Nat) (x y : α), l[j]? = some x → (l.set j y).Perm (y :: l.eraseIdx j) ∧ l.Perm (x :: l.eraseIdx j)
 | [], j, x, y, h => by cases j <;> cases h
 | a :: l, 0, x, y, h => by cases h; exact ⟨List.Perm.refl _, List.Perm.refl _⟩
 | a :: l, j + 1, x, y, h => by
   obtain ⟨h1, h2⟩ := permAs_set l j x y h
   exact ⟨(h1.cons a).trans (List.Perm.swap _ _ _), (h2.cons a).trans (List.Perm.swap _ _ _)⟩
section
variable {t e : TypeId} (ht : P.underlying t = some (.map k e)) (K : Keyed P k)
include K in
theorem mapAs_find (h : MapAs P k f w km ps) (key : Value) (hk : ∃ l, keyOf P k key = some l) : ∃ es clock, w.heap[km]? = some (.map es clock) ∧ MapKept.Stamped es clock ∧ (es.toList.map entryP).Perm (ps.map f) ∧
 (((Instr.findKey k key es.toList).run P w = .ok none w ∧ (∀ e ∈ es.toList, e.key ≠ key) ∧ ∀ p ∈ ps, (f p).1 ≠ key) ∨
  ∃ j e0 p, (Instr.findKey k key es.toList).run P w = .ok (some (j, (f p).2)) w ∧ es.toList[j]? = some e0 ∧ e0.key = key ∧ e0.val = (f p).2 ∧ p ∈ ps ∧ (f p).1 = key) := by
 obtain ⟨es, clock, hb, hs, hq, hz⟩ := h
 refine ⟨es, clock, hb, hs, hq, ?_⟩
 obtain ⟨lk, hlk⟩ := hk
 have hes : ∀ x ∈ es.toList, ∃ p ∈ ps, x.key = (f p).1 ∧ x.val = (f p).2 := fun x hx => by
  obtain ⟨p, hp, e⟩ := List.mem_map.1 (hq.mem_iff.1 (List.mem_map.2 ⟨x, hx, rfl⟩))
  exact ⟨p, hp, by rw [e]; rfl, by rw [e]; rfl⟩
 rcases K.find w hlk es.toList (fun x hx => by
  obtain ⟨p, hp, e, _⟩ := hes x hx
  obtain ⟨l, hl⟩ := hz p hp
  exact ⟨l, by rw [e]; exact hl⟩) with ⟨h1, h2⟩ | ⟨j, e0, h1, h2, h3⟩
 · refine .inl ⟨h1, h2, fun p hp en => ?_⟩
   obtain ⟨x, hx, e⟩ := List.mem_map.1 (hq.mem_iff.2 (List.mem_map.2 ⟨p, hp, rfl⟩))
   have e1 : x.key = (f p).1 := by rw [← e]; rfl
   exact h2 x hx (by rw [e1, en])
 · obtain ⟨p, hp, e1, e2⟩ := hes e0 (List.mem_of_getElem? h2)
   rw [h3] at e1
   exact .inr ⟨j, e0, p, by rw [← e2]; exact h1, h2, h3, e2, hp, e1.symm⟩
include ht K
/-- 'm[k]' where the map has no such key. -/
theorem mapAs_none (h : MapAs P k f w km ps) (key : Value) (hk : ∃ l, keyOf P k key = some l) (h0 : ∀ p ∈ ps, (f p).1 ≠ key) (z : Value) (hz : (zeroValue e).run P w = .ok z w) (ok : Bool) : (Instr.lookup t (.map (some km)) key ok).run P w = .ok (if ok = true then .tuple #[z, .bool false] else z) w := by
 obtain ⟨es, clock, hb, hs, hq, h1⟩ := mapAs_find K h key hk
 obtain ⟨lk, hlk⟩ := hk
 rcases h1 with ⟨h1, _, _⟩ | ⟨j, e0, p, _, _, _, _, hm, he⟩
 · cases ok <;> simp [Instr.lookup, run_underlying ht, MapKept.run_getObj_map hb, K.check w _ hlk, h1, hz, Result.andThen]
 · exact absurd he (h0 _ hm)
/-- 'm[k]' where it has. -/
theorem mapAs_some (h : MapAs P k f w km ps) (p : α) (hm : p ∈ ps) (ok : Bool) : (Instr.lookup t (.map (some km)) (f p).1 ok).run P w = .ok (if ok = true then .tuple #[(f p).2, .bool true] else (f p).2) w := by
 have hk : ∃ l, keyOf P k (f p).1 = some l := by obtain ⟨_, _, _, _, _, hz⟩ := h; exact hz p hm
 obtain ⟨es, clock, hb, hs, hq, h1⟩ := mapAs_find K h (f p).1 hk
 obtain ⟨lk, hlk⟩ := hk
 rcases h1 with ⟨_, _, h2⟩ | ⟨j, e0, p', h1, _, _, _, hm', he⟩
 · exact absurd rfl (h2 _ hm)
 · have e := h.one hm hm' he.symm
   subst e
   cases ok <;> simp [Instr.lookup, run_underlying ht, MapKept.run_getObj_map hb, K.check w _ hlk, h1, Result.andThen]
/-- 'm[k] = v', a new key. -/
theorem mapAs_put (h : MapAs P k f w km ps) (p : α) (hk : ∃ l, keyOf P k (f p).1 = some l) (h0 : ∀ q ∈ ps, (f q).1 ≠ (f p).1) : ∃ w', (Instr.mapUpdate t (.map (some km)) (f p).1 (f p).2).run P w = .ok () w' ∧ MapAs P k f w' km (p :: ps) ∧ w.grownBy w' (some km) ∧ w'.heap.size = w.heap.size := by
 have hz : ∀ p ∈ ps, ∃ l, keyOf P k (f p).1 = some l := by obtain ⟨_, _, _, _, _, hz⟩ := h; exact hz
 have hk2 := hk
 obtain ⟨es, clock, hb, hs, hq, h1⟩ := mapAs_find K h (f p).1 hk
 obtain ⟨lk, hlk⟩ := hk
 have hgr : ∀ o', w.grownBy (setBlock w km o') (some km) := fun o' => ⟨rfl, rfl, rfl, by simp [setBlock], fun i _ hi => ChangeMaps.heap_setBlock_other hb _ (fun e => hi (by rw [e]))⟩
 rcases h1 with ⟨h1, h2, _⟩ | ⟨j, e0, p', _, _, _, _, hm, he⟩
 · refine ⟨setBlock w km (.map (es.push ⟨(f p).1, (f p).2, clock⟩) (clock + 1)), ?_, ⟨_, _, ChangeMaps.heap_setBlock_same hb _, MapKept.stamped_push hs h2, ?_, fun q hq => ?_⟩, hgr _, by simp [setBlock]⟩
   · simp [Instr.mapUpdate, run_underlying ht, MapKept.run_getObj_map hb, K.check w false hlk, h1, MapKept.run_setObj_map _ hb, Result.andThen, setBlock]
   · rw [Array.toList_push, List.map_append, List.map_cons]
     exact (List.perm_append_singleton _ _).trans (hq.cons _)
   · rcases List.mem_cons.1 hq with rfl | hq
     · exact hk2
     · exact hz q hq
 · exact absurd he (h0 _ hm)
/-- 'm[k] = v', a key that is there. -/
theorem mapAs_set {p0 : α} (h : MapAs P k f w km (p0 :: ps)) (p : α) (h0 : (f p0).1 = (f p).1) : ∃ w', (Instr.mapUpdate t (.map (some km)) (f p).1 (f p).2).run P w = .ok () w' ∧ MapAs P k f w' km (p :: ps) ∧ w.grownBy w' (some km) ∧ w'.heap.size = w.heap.size := by
 have hz : ∀ p ∈ p0 :: ps, ∃ l, keyOf P k (f p).1 = some l := by obtain ⟨_, _, _, _, _, hz⟩ := h; exact hz
 have hk : ∃ l, keyOf P k (f p).1 = some l := by have := hz p0 (by simp); rw [h0] at this; exact this
 have hk2 := hk
 obtain ⟨es, clock, hb, hs, hq, h1⟩ := mapAs_find K h (f p).1 hk
 obtain ⟨lk, hlk⟩ := hk
 have hgr : ∀ o', w.grownBy (setBlock w km o') (some km) := fun o' => ⟨rfl, rfl, rfl, by simp [setBlock], fun i _ hi => ChangeMaps.heap_setBlock_other hb _ (fun e => hi (by rw [e]))⟩
 rcases h1 with ⟨h1, h2, h3⟩ | ⟨j, e0, p', h1, h2, h3, h4, hm, he⟩
 · exact absurd h0 (h3 _ (by simp))
 · have e2 : p0 = p' := h.one (by simp) hm (h0.trans he.symm)
   subst e2
   have hj : es[j]? = some e0 := by simpa using h2
   have hkeyf : ∀ e', es[j]? = some e' → ({ e' with key := (f p).1, val := (f p).2 } : MapEntry).key = e'.key := fun e' he' => by rw [hj] at he'; cases he'; exact h3.symm
   have hlist : (es.modify j (fun e' => { e' with key := (f p).1, val := (f p).2 })).toList = es.toList.set j { e0 with key := (f p).1, val := (f p).2 } := by rw [Array.toList_modify, ChangeMaps.modify_eq_set _ _ _ _ h2]
   refine ⟨setBlock w km (.map (es.modify j (fun e' => { e' with key := (f p).1, val := (f p).2 })) clock), ?_, ⟨_, _, ChangeMaps.heap_setBlock_same hb _, MapKept.stamped_modify hs _ _ (fun _ _ => rfl) (fun e' _ he' => hkeyf e' he'), ?_, fun q hq => ?_⟩, hgr _, by simp [setBlock]⟩
   · simp [Instr.mapUpdate, run_underlying ht, MapKept.run_getObj_map hb, K.check w false hlk, h1, hj, h3, K.stays w hlk, MapKept.run_setObj_map _ hb, Result.andThen, setBlock]
   · obtain ⟨s1, s2⟩ := permAs_set es.toList j e0 { e0 with key := (f p).1, val := (f p).2 } h2
     have e1 : entryP e0 = f p0 := by
      show (e0.key, e0.val) = _
      rw [h3, h4, ← h0]
     have a1 := (s2.map entryP).symm.trans hq
     rw [List.map_cons, List.map_cons, e1] at a1
     rw [hlist]
     refine (s1.map entryP).trans ?_
     rw [List.map_cons, List.map_cons]
     exact a1.cons_inv.cons _
   · rcases List.mem_cons.1 hq with rfl | hq
     · exact hk2
     · exact hz q (by simp [hq])
end
variable {dn left : List α} {r : Nat}
end
end Go.Proofs.YtgohekjkbgfeeaaGreat
namespace Go.Proofs.YtgohekjkbgfeeaaGreat
open Go.RowKit
open Go.SeqMath
open Go.ProdMath
open Go.BatMath hiding AllB take_all
set_option linter.unusedVariables false

def GivesTGet (w : World) (p : Pd) (b : Bool) (e : Ending) (w' : World) : Prop :=
 ∃ ad n cap, e = .returned (.tuple #[.agg #[.int .i64 p.id, .int .i64 p.epoch, .slice ad n cap, .int .i64 p.opn], .bool b]) ∧ RowAt trK w' ad n cap p.last ∧ Below w.heap.size w w'
theorem resultsGet {tmps : Array Value} {B : Nat} {W : World} {b0 b1 b3 : Int} {v x : Value} (h : PBox W B b0 b1 v b3) (ht : tmps.getD 4 undef = .pointer (some ⟨B, 0, none⟩)) (hx : tmps.getD 5 undef = x) :
 (results Tryz.f58 tmps).run Tryz.prog W = .ok (.tuple #[.agg #[.int .i64 b0, .int .i64 b1, v, .int .i64 b3], x]) W := by
 rw [results_cell_tmp (p := 4) (u := 5) (ty := 78) Tryz.results58, ht]
 have hl := run_loadVar_row (P := Tryz.prog) W B 78 78 _ (0, 0) _ h Tryz.underlying78 rfl (by kernel_rfl)
 simp only [asAddr, Sem.run_pure, Result.andThen, hl, hx]
theorem gives_tget {w W : World} {p : Pd} {b : Bool} {b0 b1 b3 : Int} {ad : Option Addr} {n cap : Nat} {u0 u1 u2 u3 : Value} {l : List Tr} (hb : Below w.heap.size w W) (hp : p = ⟨b0, b1, l, b3⟩) (hr : RowAt trK w ad n cap l) :
 GivesTGet w p b (.returned (.tuple #[.agg #[.int .i64 b0, .int .i64 b1, .slice ad n cap, .int .i64 b3], .bool b])) ((((W.setCell ⟨w.heap.size, 0, none⟩ u0).setCell ⟨w.heap.size, 1, none⟩ u1).setCell ⟨w.heap.size, 2, none⟩ u2).setCell ⟨w.heap.size, 3, none⟩ u3) := by
 subst hp
 have hb2 : Below w.heap.size w ((((W.setCell ⟨w.heap.size, 0, none⟩ u0).setCell ⟨w.heap.size, 1, none⟩ u1).setCell ⟨w.heap.size, 2, none⟩ u2).setCell ⟨w.heap.size, 3, none⟩ u3) := (((hb.setCell (Nat.le_refl _) _).setCell (Nat.le_refl _) _).setCell (Nat.le_refl _) _).setCell (Nat.le_refl _) _
 exact ⟨ad, n, cap, rfl, hr.keep hb2, hb2⟩
theorem get_yes {l : List Pd} {id : Int} (h : hasD l id = true) : ∃ p, l[atD l id]? = some p ∧ getD l id = p := by
 have h2 := h
 unfold hasD at h2
 split at h2
 · rename_i p hp
   refine ⟨p, hp, ?_⟩
   unfold getD
   rw [if_pos h, hp]
 · cases h2
theorem get_no {l : List Pd} {id : Int} (h : hasD l id = false) : getD l id = Pd.zero := by unfold getD; rw [if_neg (by rw [h]; decide)]
set_option maxRecDepth 100000 in
set_option maxHeartbeats 4000000 in
theorem tabGet_any (w : World) (kt : Nat) (ad : Option Addr) (len cap : Nat) (ms : List PM) (h : TabAt w kt ad len cap ms) (hL : len ≤ 100000000000) (id : Int) :
 Calls Tryz.prog 58 #[.pointer (some ⟨kt, 0, none⟩), .int .i64 id] w (GivesTGet w (getD (pds ms) id) (hasD (pds ms) id)) := by
 obtain ⟨W0, hW0⟩ : ∃ W0, W0 = w.alloc (.cells #[.int .i64 0, .int .i64 0, .slice none 0 0, .int .i64 0] 78) := ⟨_, rfl⟩
 have HB0 : Hid (Below w.heap.size w W0) := by show Below _ _ _; rw [hW0]; exact (Below.refl _ _).alloc (Nat.le_refl _) _
 have HR0 : Hid (PBox W0 w.heap.size 0 0 (.slice none 0 0) 0) := by show PBox _ _ _ _ _ _; rw [hW0]; exact pbox_new w _ _ _ _
 have HT0 := Lib.hid (h.keep HB0.out)
 have H := Lib.hid h
 have HW0 := Lib.hid hW0
 clear h hW0
 obtain ⟨i, hi⟩ : ∃ i, atD (pds ms) id = i := ⟨_, rfl⟩
 obtain ⟨b, hb⟩ : ∃ b, hasD (pds ms) id = b := ⟨_, rfl⟩
 have CAT : Hid (Calls Tryz.prog 57 #[.pointer (some ⟨kt, 0, none⟩), .int .i64 id] W0 (GivesAt W0 i b)) := by
  have := tabAt_any W0 kt ad len cap ms HT0.out hL id
  rw [hi, hb] at this
  exact this
 rw [hb]
 have HGY : Hid (b = true → i < len ∧ ∃ m, ms[i]? = some m ∧ getD (pds ms) id = m.p) := by
  intro hb1
  rw [← hb] at hb1
  obtain ⟨p, hp, hg⟩ := get_yes hb1
  rw [hi] at hp
  unfold pds at hp
  rw [List.getElem?_map] at hp
  cases hm : ms[i]? with
  | none => rw [hm] at hp; cases hp
  | some m =>
    rw [hm] at hp
    cases hp
    refine ⟨?_, m, rfl, hg⟩
    have := (List.getElem?_eq_some_iff.1 hm).1
    have h2 := H.out.pds.row.length
    omega
 have HGN : Hid (b = false → getD (pds ms) id = Pd.zero) := fun hb1 => get_no (by rw [hb]; exact hb1)
 obtain ⟨p, hp⟩ : ∃ p, getD (pds ms) id = p := ⟨_, rfl⟩
 rw [hp] at HGY HGN
 rw [hp]
 clear hi hb hp
 go_enter Tryz.func58, Tryz.ntmps58
 go_wp2_with fail
 rw [← HW0.out]
 refine CAT.out.mono ?_
 rintro e w1 ⟨rfl, hb1⟩
 have HB1 := Lib.hid (HB0.out.trans (hb1.mono HB0.out.size))
 have HR1 := Lib.hid (HR0.out.on hb1)
 have HT1 := Lib.hid (HT0.out.keep hb1)
 clear hb1 HW0 CAT
 have rr0 := HR1.out.c0
 have f0 := HR1.out.free 0
 have rr1 := HR1.out.c1
 have f1 := HR1.out.free 1
 have rr2 := HR1.out.c2
 have f2 := HR1.out.free 2
 have rr3 := HR1.out.c3
 have f3 := HR1.out.free 3
 cases b
 · have HP := Lib.hid (HGN.out rfl)
   clear HGN HGY
   go_wp2
   exact bodyPost_ret (v := .tuple #[.agg #[.int .i64 0, .int .i64 0, .slice none 0 0, .int .i64 0], .bool false]) (resultsGet ((((HR1.out.s0 0).s1 0).s2 (.slice none 0 0)).s3 0) rfl rfl) rfl (gives_tget HB1.out HP.out (rowAt_nil w))
 · obtain ⟨hil, m, hm, hpm⟩ := HGY.out rfl
   have HP := Lib.hid hpm
   clear HGN HGY hpm
   have hij : (i : Int) < (len : Int) := by omega
   have hij2 : i < len := hil
   have t0 := HT1.out.box.c0
   obtain ⟨bk, off, m', rfl, _, hm', _, c0, c1, c2, c3⟩ := HT1.out.pds.get hil
   obtain rfl : m' = m := by rw [hm] at hm'; exact (Option.some.inj hm').symm
   have HLA := Lib.hid (H.out.pds.ins m' (List.mem_of_getElem? hm))
   clear hm hm'
   go_wp2
   exact bodyPost_ret (v := .tuple #[.agg #[.int .i64 m'.p.id, .int .i64 m'.p.epoch, .slice m'.ad m'.p.last.length m'.cap, .int .i64 m'.p.opn], .bool true]) (resultsGet ((((HR1.out.s0 m'.p.id).s1 m'.p.epoch).s2 (.slice m'.ad m'.p.last.length m'.cap)).s3 m'.p.opn) rfl rfl) rfl (gives_tget (l := m'.p.last) HB1.out HP.out HLA.out)
set_option maxRecDepth 100000 in
set_option maxHeartbeats 4000000 in
theorem tabCheck_any (w : World) (kt : Nat) (ad : Option Addr) (len cap : Nat) (ms : List PM) (h : TabAt w kt ad len cap ms) (hL : len ≤ 100000000000) (b : Bat) (rd : Option Addr) (rn rc : Nat) (hr : RecsAt w rd rn rc b.recs) (ht : TextsOk b.recs) (hrn : rn ≤ 140737488355328) (hwf : b.prod ≤ 9223372036854775807) (c : Int × Int) (hc : tcheckD (pds ms) b = c) (hfew : fewP (pds ms)) :
 Calls Tryz.prog 87 #[.pointer (some ⟨kt, 0, none⟩), .agg #[.int .i64 b.base, .int .i64 b.prod, .int .i64 b.epoch, .int .i64 b.seq, .bool b.txn, .int .i64 b.marker, .slice rd rn rc]] w (GivesPair w c) := by
 obtain ⟨b0, b1, b2, b3, b4, b5, recs⟩ := b
 simp only at hr ht hwf
 simp only
 obtain ⟨W0, hW0⟩ : ∃ W0, W0 = w.alloc (.cells #[.int .i64 b0, .int .i64 b1, .int .i64 b2, .int .i64 b3, .bool b4, .int .i64 b5, .slice rd rn rc] 56) := ⟨_, rfl⟩
 have HB0 : Hid (Below w.heap.size w W0) := by show Below _ _ _; rw [hW0]; exact (Below.refl _ _).alloc (Nat.le_refl _) _
 have HX0 : Hid (BoxAt W0 w.heap.size b0 b1 b2 b3 b4 b5 (.slice rd rn rc)) := by show BoxAt _ _ _ _ _ _ _ _ _; rw [hW0]; exact boxAt_new w _ _ _ _ _ _ _
 have HT0 := Lib.hid (h.keep HB0.out)
 have HRE0 := Lib.hid (hr.keep HB0.out)
 have hrl := hr.length
 have HC : Hid (tcheckD (pds ms) ⟨b0, b1, b2, b3, b4, b5, recs⟩ = c) := hc
 have HF := Lib.hid hfew
 have HTX := Lib.hid ht
 have HW0 := Lib.hid hW0
 clear h hr hc hfew hW0 ht
 obtain ⟨B, hB⟩ : ∃ B, B = w.heap.size := ⟨_, rfl⟩
 rw [← hB] at HX0
 obtain ⟨r, hre⟩ : ∃ r, rightE ⟨b0, b1, b2, b3, b4, b5, recs⟩ = r := ⟨_, rfl⟩
 have HRE := Lib.hid hre
 clear hre
 go_enter Tryz.func87, Tryz.ntmps87
 go_upto_region 1 with fail
 rw [← HW0.out, ← hB]
 clear hB HW0
 have p0 := HX0.out.c0
 have p1 := HX0.out.c1
 have p2 := HX0.out.c2
 have p3 := HX0.out.c3
 have p4 := HX0.out.c4
 have p5 := HX0.out.c5
 have p6 := HX0.out.c6
 go_wp2_with fail
 have CR := refRight_any W0 ⟨b0, b1, b2, b3, b4, b5, recs⟩ rd rn rc HRE0.out HTX.out hrn hwf
 rw [HRE.out] at CR
 refine CR.mono ?_
 clear CR
 rintro e w1 ⟨rfl, hb1⟩
 have HB1 := Lib.hid (HB0.out.trans (hb1.mono HB0.out.size))
 have HX1 := Lib.hid (HX0.out.on hb1)
 have HT1 := Lib.hid (HT0.out.keep hb1)
 clear hb1 p0 p1 p2 p3 p4 p5 p6
 by_cases hz : r = 0
 · have hd : (r == 0) = true := by rw [hz]; rfl
   have p1 := HX1.out.c1
   by_cases hn : b1 < 0
   · have hd2 : decide (b1 < 0) = true := decide_eq_true hn
     have HEND : Hid (c = (-1, 0)) := by
      show c = _
      rw [← HC.out]
      unfold tcheckD
      rw [HRE.out, if_neg (by simp [hz]), if_pos hn]
     clear HC hz hn
     go_wp2
     go_ret2
     exact gives_pair HEND.out HB1.out
   · have hd2 : decide (b1 < 0) = false := decide_eq_false hn
     have HCC : Hid (checkD (getD (pds ms) b1) (hasD (pds ms) b1) ⟨b0, b1, b2, b3, b4, b5, recs⟩ = c) := by
      show _ = _
      rw [← HC.out]
      unfold tcheckD
      rw [HRE.out, if_neg (by simp [hz]), if_neg hn]
     obtain ⟨p, hp⟩ : ∃ p, getD (pds ms) b1 = p := ⟨_, rfl⟩
     obtain ⟨kn, hkn⟩ : ∃ kn, hasD (pds ms) b1 = kn := ⟨_, rfl⟩
     have hp5 := get_few HF.out b1
     have CG : Hid (Calls Tryz.prog 58 #[.pointer (some ⟨kt, 0, none⟩), .int .i64 b1] w1 (GivesTGet w1 p kn)) := by
      have := tabGet_any w1 kt ad len cap ms HT1.out hL b1
      rw [hp, hkn] at this
      exact this
     rw [hp] at hp5 HCC
     rw [hkn] at HCC
     clear HC hz hn hp hkn
     go_wp2_with fail
     refine CG.out.mono ?_
     rintro e w2 ⟨ad2, n2, cap2, rfl, hrow, hb2⟩
     have hn2 := hrow.length
     have HRW := Lib.hid hrow
     have HB2 := Lib.hid (HB1.out.trans (hb2.mono HB1.out.size))
     have HX2 := Lib.hid (HX1.out.on hb2)
     clear hb2 hrow CG p1
     obtain ⟨pid, pep, pl, po⟩ := p
     simp only at hp5 hn2 HRW
     simp only
     go_upto_region 7 with fail
     obtain ⟨W3, hW3⟩ : ∃ W3, W3 = w2.alloc (.cells #[.int .i64 pid, .int .i64 pep, .slice ad2 n2 cap2, .int .i64 po] 78) := ⟨_, rfl⟩
     have hb3 : Below w2.heap.size w2 W3 := by rw [hW3]; exact (Below.refl _ _).alloc (Nat.le_refl _) _
     have HB3 := Lib.hid (HB2.out.trans (hb3.mono HB2.out.size))
     have HX3 := Lib.hid (HX2.out.on hb3)
     have HRW3 := Lib.hid (HRW.out.keep hb3)
     obtain ⟨Q, hQ⟩ : ∃ Q, Q = w2.heap.size := ⟨_, rfl⟩
     have HP3 : Hid (PBox W3 Q pid pep (.slice ad2 n2 cap2) po) := by show PBox _ _ _ _ _ _; rw [hW3, hQ]; exact pbox_new w2 _ _ _ _
     rw [← hW3, ← hQ]
     clear hW3 hb3 hQ
     have p0 := HX3.out.c0
     have p1 := HX3.out.c1
     have p2 := HX3.out.c2
     have p3 := HX3.out.c3
     have p4 := HX3.out.c4
     have p5 := HX3.out.c5
     have p6 := HX3.out.c6
     have q0 := HP3.out.c0
     have q1 := HP3.out.c1
     have q2 := HP3.out.c2
     have q3 := HP3.out.c3
     go_wp2_with fail
     refine (refCheck_any W3 pid pep po pl ad2 n2 cap2 HRW3.out (by omega) kn b0 b1 b2 b3 b4 b5 recs rd rn rc hrl hrn c HCC.out).mono ?_
     rintro e w4 ⟨rfl, hb4⟩
     have HB4 := Lib.hid (HB3.out.trans (hb4.mono HB3.out.size))
     go_wp2
     go_ret2
     exact gives_pair rfl HB4.out
 · have hd : (r == 0) = false := beq_false_of_ne hz
   have HEND : Hid (c = (-1, r)) := by
    show c = _
    rw [← HC.out]
    unfold tcheckD
    rw [HRE.out, if_pos hz]
   clear HC
   go_wp2
   go_ret2
   exact gives_pair HEND.out HB1.out
end Go.Proofs.YtgohekjkbgfeeaaGreat
