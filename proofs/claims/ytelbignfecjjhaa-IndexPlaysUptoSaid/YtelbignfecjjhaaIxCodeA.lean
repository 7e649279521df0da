/- The code's New, takes, sparse, Add. -/
import Derived.Test.YtelbignfecjjhaaIxCodeM
import Derived.Test.YtelbignfecjjhaaRegionZ
namespace Go.Proofs.Ytelbignfecjjhaa
open Go.RowKit
open Go.IxMath Go.VarMath
set_option linter.unusedVariables false

def GivesNew (w : World) (base every : Int) (e : Ending) (w' : World) : Prop :=
  Hid (Below w.heap.size w w') ∧ ((badN base every = true ∧ e = .returned (.pointer none)) ∨ (badN base every = false ∧ ∃ k F, e = .returned (.pointer (some ⟨k, 0, none⟩)) ∧ Hid (IxOk w' k F base every []) ∧ Hid (∀ j, F j → w.heap.size ≤ j)))
theorem new_no {w : World} {base every : Int} (h : badN base every = true) : GivesNew w base every (.returned (.pointer none)) w := ⟨Below.refl _ w, .inl ⟨h, rfl⟩⟩
theorem ixNew_any (w : World) (base every : Int) (hb : I64 base) (he : I64 every) : Calls Try.prog 9 #[.int .i64 base, .int .i64 every] w (GivesNew w base every) := by
  have HBI := Lib.hid hb
  have HEI := Lib.hid he
  clear hb he
  go_enter Try.func9, Try.ntmps9
  by_cases d1 : base < 0
  · have d1d : decide (base < 0) = true := decide_eq_true d1
    go_wp2_with fail
    go_ret
    exact new_no (decide_eq_true (by omega))
  have d1d : decide (base < 0) = false := decide_eq_false d1
  by_cases d2 : 1099511627776 < base
  · have d2d : decide (1099511627776 < base) = true := decide_eq_true d2
    go_wp2_with fail
    go_ret
    exact new_no (decide_eq_true (by omega))
  have d2d : decide (1099511627776 < base) = false := decide_eq_false d2
  by_cases d3 : every < 1
  · have d3d : decide (every < 1) = true := decide_eq_true d3
    go_wp2_with fail
    go_ret
    exact new_no (decide_eq_true (by omega))
  have d3d : decide (every < 1) = false := decide_eq_false d3
  by_cases d4 : 1073741824 < every
  · have d4d : decide (1073741824 < every) = true := decide_eq_true d4
    go_wp2_with fail
    go_ret
    exact new_no (decide_eq_true (by omega))
  have d4d : decide (1073741824 < every) = false := decide_eq_false d4
  go_wp2_with fail
  go_ret
  have hb : Below w.heap.size w (w.alloc (.cells #[.int .i64 base, .int .i64 every, .slice none 0 0, .slice none 0 0] 54)) := (Below.refl _ w).alloc (Nat.le_refl _) _
  refine ⟨hb, .inr ⟨decide_eq_false (by omega), w.heap.size, IFoot w.heap.size (.slice none 0 0) (.slice none 0 0), rfl, ⟨⟨by omega, by omega, by omega, by omega⟩, MadeI.nil, .slice none 0 0, .slice none 0 0, ⟨heap_alloc_new w _, ownRow_nil _ _ _, ownRow_nil _ _ _⟩, fun j => Iff.rfl⟩, fun j hj => ?_⟩⟩
  rcases hj with rfl | h1 | h1
  · exact Nat.le_refl _
  · cases h1
  · cases h1
set_option maxRecDepth 100000 in
set_option maxHeartbeats 4000000 in
theorem takes_any (w : World) (k : Nat) (base every : Int) (es : List En) (bs : List Ba) (ve vb : Value) (h : IxAt w k base every es bs ve vb) (hb0 : 0 ≤ base) (hm : MadeI base bs) (hs : Small bs) (off pos size : Int) (hp : I64 pos) (hz : I64 size) :
    Calls Try.prog 22 #[.pointer (some ⟨k, 0, none⟩), .agg #[.int .i64 off, .int .i64 pos, .int .i64 size]] w fun e w' => e = .returned (.bool (!badA base bs off pos size)) ∧ Hid (Below w.heap.size w w') := by
  obtain ⟨ad, cap, hv, hr⟩ := h.bat
  obtain ⟨lo, hlo⟩ : ∃ z, z = lastO bs := ⟨_, rfl⟩
  obtain ⟨fi, hfi⟩ : ∃ z, z = lastF bs := ⟨_, rfl⟩
  have HBAD : Hid (badA base bs off pos size = decide (off < base ∨ off ≤ lo ∨ pos < 0 ∨ pos < fi ∨ size < 1)) := by show _ = _; rw [hlo, hfi]; rfl
  obtain ⟨n, hn⟩ : ∃ n, n = bs.length := ⟨_, rfl⟩
  have HL : (n = 0 ∧ lo = -1 ∧ fi = 0) ∨ ∃ (b o : Nat) (xp : Int), 0 < n ∧ ad = some ⟨b, o, none⟩ ∧ b < w.heap.size ∧ (0 ≤ xp ∧ xp < fi ∧ fi ≤ 4611686018427387903) ∧
      w.cell? ⟨b, o + (n - 1) * 3, none⟩ = some (.int .i64 lo) ∧ w.cell? ⟨b, o + (n - 1) * 3 + 1, none⟩ = some (.int .i64 xp) ∧ w.cell? ⟨b, o + (n - 1) * 3 + 2, none⟩ = some (.int .i64 (fi - xp)) := by
    rcases last_ba hr hm (fun b hb => (hs.2 b hb).2) with h0 | ⟨b, o, xo, xp, xf, h0, e, hb, hx, e1, e2, c0, c1, c2⟩
    · subst h0
      exact .inl ⟨hn, hlo, hfi⟩
    · rw [hlo, hfi, hn, e1, e2]
      exact .inr ⟨b, o, xp, h0, e, hb, hx, c0, c1, c2⟩
  rw [← hn] at hv
  subst hv
  have HX := Lib.hid h.box
  have hn1 : n ≤ 1000 := by rw [hn]; exact hs.1
  clear hr hm h hlo hfi hn hs
  go_enter Try.func22, Try.ntmps22
  by_cases d1 : off < base
  · have d1d : decide (off < base) = true := decide_eq_true d1
    go_upto_region 1 with fail
    obtain ⟨w1, hw1⟩ : ∃ z, z = w.alloc (.cells #[.int .i64 off, .int .i64 pos, .int .i64 size] 56) := ⟨_, rfl⟩
    obtain ⟨kb, hkb⟩ : ∃ z, z = w.heap.size := ⟨_, rfl⟩
    have HB1 : Hid (Below w.heap.size w w1) := by show Below _ _ _; rw [hw1]; exact (Below.refl _ w).alloc (Nat.le_refl _) _
    have hbx : w1.heap[kb]? = some (.cells #[.int .i64 off, .int .i64 pos, .int .i64 size] 56 (0, 0)) := by rw [hw1, hkb]; exact heap_alloc_new w _
    rw [← hw1, ← hkb]
    clear hw1 hkb
    have HX1 := Lib.hid (HX.out.same (HB1.out.block k HX.out.lt))
    have t0 : w1.cell? ⟨kb, 0, none⟩ = some (.int .i64 off) := cell_of_row _ _ 0 _ _ _ hbx
    have t1 : w1.cell? ⟨kb, 1, none⟩ = some (.int .i64 pos) := cell_of_row _ _ 1 _ _ _ hbx
    have t2 : w1.cell? ⟨kb, 2, none⟩ = some (.int .i64 size) := cell_of_row _ _ 2 _ _ _ hbx
    have q0 := HX1.out.c0
    go_quiet (fail)
    obtain ⟨W0, hW0⟩ : ∃ z, z = w1.drewN nq := ⟨_, rfl⟩
    have hb0 : Below w1.heap.size w1 W0 := by rw [hW0]; exact below_drewN w1 nq
    have HBW : Hid (Below w1.heap.size w1 W0) := hb0
    have HBT : Hid (Below w.heap.size w W0) := HB1.out.trans (hb0.mono HB1.out.size)
    have HBX := Lib.hid (show W0.heap[kb]? = some (.cells #[.int .i64 off, .int .i64 pos, .int .i64 size] 56 (0, 0)) from (hb0.block kb (lt_of_block hbx)).trans hbx)
    rw [← hW0]
    clear hW0 q0 t0 t1 t2 hb0 hbx
    go_wp2_with fail
    go_ret
    exact ⟨by rw [HBAD.out, decide_eq_true (by omega)]; rfl, HBT.out⟩
  have d1d : decide (off < base) = false := decide_eq_false d1
  by_cases d2 : pos < 0
  · have d2d : decide (pos < 0) = true := decide_eq_true d2
    go_upto_region 1 with fail
    obtain ⟨w1, hw1⟩ : ∃ z, z = w.alloc (.cells #[.int .i64 off, .int .i64 pos, .int .i64 size] 56) := ⟨_, rfl⟩
    obtain ⟨kb, hkb⟩ : ∃ z, z = w.heap.size := ⟨_, rfl⟩
    have HB1 : Hid (Below w.heap.size w w1) := by show Below _ _ _; rw [hw1]; exact (Below.refl _ w).alloc (Nat.le_refl _) _
    have hbx : w1.heap[kb]? = some (.cells #[.int .i64 off, .int .i64 pos, .int .i64 size] 56 (0, 0)) := by rw [hw1, hkb]; exact heap_alloc_new w _
    rw [← hw1, ← hkb]
    clear hw1 hkb
    have HX1 := Lib.hid (HX.out.same (HB1.out.block k HX.out.lt))
    have t0 : w1.cell? ⟨kb, 0, none⟩ = some (.int .i64 off) := cell_of_row _ _ 0 _ _ _ hbx
    have t1 : w1.cell? ⟨kb, 1, none⟩ = some (.int .i64 pos) := cell_of_row _ _ 1 _ _ _ hbx
    have t2 : w1.cell? ⟨kb, 2, none⟩ = some (.int .i64 size) := cell_of_row _ _ 2 _ _ _ hbx
    have q0 := HX1.out.c0
    go_quiet (fail)
    obtain ⟨W0, hW0⟩ : ∃ z, z = w1.drewN nq := ⟨_, rfl⟩
    have hb0 : Below w1.heap.size w1 W0 := by rw [hW0]; exact below_drewN w1 nq
    have HBW : Hid (Below w1.heap.size w1 W0) := hb0
    have HBT : Hid (Below w.heap.size w W0) := HB1.out.trans (hb0.mono HB1.out.size)
    have HBX := Lib.hid (show W0.heap[kb]? = some (.cells #[.int .i64 off, .int .i64 pos, .int .i64 size] 56 (0, 0)) from (hb0.block kb (lt_of_block hbx)).trans hbx)
    rw [← hW0]
    clear hW0 q0 t0 t1 t2 hb0 hbx
    go_wp2_with fail
    go_ret
    exact ⟨by rw [HBAD.out, decide_eq_true (by omega)]; rfl, HBT.out⟩
  have d2d : decide (pos < 0) = false := decide_eq_false d2
  by_cases d3 : size ≤ 0
  · have d3d : decide (size ≤ 0) = true := decide_eq_true d3
    go_upto_region 1 with fail
    obtain ⟨w1, hw1⟩ : ∃ z, z = w.alloc (.cells #[.int .i64 off, .int .i64 pos, .int .i64 size] 56) := ⟨_, rfl⟩
    obtain ⟨kb, hkb⟩ : ∃ z, z = w.heap.size := ⟨_, rfl⟩
    have HB1 : Hid (Below w.heap.size w w1) := by show Below _ _ _; rw [hw1]; exact (Below.refl _ w).alloc (Nat.le_refl _) _
    have hbx : w1.heap[kb]? = some (.cells #[.int .i64 off, .int .i64 pos, .int .i64 size] 56 (0, 0)) := by rw [hw1, hkb]; exact heap_alloc_new w _
    rw [← hw1, ← hkb]
    clear hw1 hkb
    have HX1 := Lib.hid (HX.out.same (HB1.out.block k HX.out.lt))
    have t0 : w1.cell? ⟨kb, 0, none⟩ = some (.int .i64 off) := cell_of_row _ _ 0 _ _ _ hbx
    have t1 : w1.cell? ⟨kb, 1, none⟩ = some (.int .i64 pos) := cell_of_row _ _ 1 _ _ _ hbx
    have t2 : w1.cell? ⟨kb, 2, none⟩ = some (.int .i64 size) := cell_of_row _ _ 2 _ _ _ hbx
    have q0 := HX1.out.c0
    go_quiet (fail)
    obtain ⟨W0, hW0⟩ : ∃ z, z = w1.drewN nq := ⟨_, rfl⟩
    have hb0 : Below w1.heap.size w1 W0 := by rw [hW0]; exact below_drewN w1 nq
    have HBW : Hid (Below w1.heap.size w1 W0) := hb0
    have HBT : Hid (Below w.heap.size w W0) := HB1.out.trans (hb0.mono HB1.out.size)
    have HBX := Lib.hid (show W0.heap[kb]? = some (.cells #[.int .i64 off, .int .i64 pos, .int .i64 size] 56 (0, 0)) from (hb0.block kb (lt_of_block hbx)).trans hbx)
    rw [← hW0]
    clear hW0 q0 t0 t1 t2 hb0 hbx
    go_wp2_with fail
    go_ret
    exact ⟨by rw [HBAD.out, decide_eq_true (by omega)]; rfl, HBT.out⟩
  have d3d : decide (size ≤ 0) = false := decide_eq_false d3
  rcases HL with ⟨h0, hlo, hfi⟩ | ⟨b, o, xp, h0, el, hb, hx, c0, c1, c2⟩
  · subst h0
    go_upto_region 1 with fail
    obtain ⟨w1, hw1⟩ : ∃ z, z = w.alloc (.cells #[.int .i64 off, .int .i64 pos, .int .i64 size] 56) := ⟨_, rfl⟩
    obtain ⟨kb, hkb⟩ : ∃ z, z = w.heap.size := ⟨_, rfl⟩
    have HB1 : Hid (Below w.heap.size w w1) := by show Below _ _ _; rw [hw1]; exact (Below.refl _ w).alloc (Nat.le_refl _) _
    have hbx : w1.heap[kb]? = some (.cells #[.int .i64 off, .int .i64 pos, .int .i64 size] 56 (0, 0)) := by rw [hw1, hkb]; exact heap_alloc_new w _
    rw [← hw1, ← hkb]
    clear hw1 hkb
    have HX1 := Lib.hid (HX.out.same (HB1.out.block k HX.out.lt))
    have t0 : w1.cell? ⟨kb, 0, none⟩ = some (.int .i64 off) := cell_of_row _ _ 0 _ _ _ hbx
    have t1 : w1.cell? ⟨kb, 1, none⟩ = some (.int .i64 pos) := cell_of_row _ _ 1 _ _ _ hbx
    have t2 : w1.cell? ⟨kb, 2, none⟩ = some (.int .i64 size) := cell_of_row _ _ 2 _ _ _ hbx
    have q0 := HX1.out.c0
    go_quiet (fail)
    obtain ⟨W0, hW0⟩ : ∃ z, z = w1.drewN nq := ⟨_, rfl⟩
    have hb0 : Below w1.heap.size w1 W0 := by rw [hW0]; exact below_drewN w1 nq
    have HBW : Hid (Below w1.heap.size w1 W0) := hb0
    have HBT : Hid (Below w.heap.size w W0) := HB1.out.trans (hb0.mono HB1.out.size)
    have HBX := Lib.hid (show W0.heap[kb]? = some (.cells #[.int .i64 off, .int .i64 pos, .int .i64 size] 56 (0, 0)) from (hb0.block kb (lt_of_block hbx)).trans hbx)
    rw [← hW0]
    clear hW0 q0 t0 t1 t2 hb0 hbx
    have q3 := (HX1.out.same (HBW.out.block k HX1.out.lt)).c3
    go_wp2_with fail
    go_ret
    exact ⟨by rw [HBAD.out, decide_eq_false (by omega)]; rfl, HBT.out⟩
  · subst el
    have hn0 : ((n : Int) == 0) = false := by simp; omega
    have hn2 : (1 : Int) ≤ (n : Int) := by omega
    have hn5 : (n : Int) - 1 < (n : Int) := by omega
    have hn3 : ((n : Int) - 1).toNat = n - 1 := by omega
    have hn4 : IntKind.i64.wrap ((n : Int) - 1) = (n : Int) - 1 := by rw [IntKind.wrap_i64]; omega
    have hw4 : IntKind.i64.wrap (pos - xp) = pos - xp := by rw [IntKind.wrap_i64]; have := hp; unfold I64 at this; omega
    have HC : Hid (∀ V, Below w.heap.size w V → V.cell? ⟨b, o + (n - 1) * 3, none⟩ = some (.int .i64 lo) ∧ V.cell? ⟨b, o + (n - 1) * 3 + 1, none⟩ = some (.int .i64 xp) ∧ V.cell? ⟨b, o + (n - 1) * 3 + 2, none⟩ = some (.int .i64 (fi - xp))) := fun V hV =>
      ⟨(hV.cell (p := ⟨b, _, none⟩) hb).trans c0, (hV.cell (p := ⟨b, _, none⟩) hb).trans c1, (hV.cell (p := ⟨b, _, none⟩) hb).trans c2⟩
    clear c0 c1 c2 hb
    go_upto_region 1 with fail
    obtain ⟨w1, hw1⟩ : ∃ z, z = w.alloc (.cells #[.int .i64 off, .int .i64 pos, .int .i64 size] 56) := ⟨_, rfl⟩
    obtain ⟨kb, hkb⟩ : ∃ z, z = w.heap.size := ⟨_, rfl⟩
    have HB1 : Hid (Below w.heap.size w w1) := by show Below _ _ _; rw [hw1]; exact (Below.refl _ w).alloc (Nat.le_refl _) _
    have hbx : w1.heap[kb]? = some (.cells #[.int .i64 off, .int .i64 pos, .int .i64 size] 56 (0, 0)) := by rw [hw1, hkb]; exact heap_alloc_new w _
    rw [← hw1, ← hkb]
    clear hw1 hkb
    have HX1 := Lib.hid (HX.out.same (HB1.out.block k HX.out.lt))
    have t0 : w1.cell? ⟨kb, 0, none⟩ = some (.int .i64 off) := cell_of_row _ _ 0 _ _ _ hbx
    have t1 : w1.cell? ⟨kb, 1, none⟩ = some (.int .i64 pos) := cell_of_row _ _ 1 _ _ _ hbx
    have t2 : w1.cell? ⟨kb, 2, none⟩ = some (.int .i64 size) := cell_of_row _ _ 2 _ _ _ hbx
    have q0 := HX1.out.c0
    go_quiet (fail)
    obtain ⟨W0, hW0⟩ : ∃ z, z = w1.drewN nq := ⟨_, rfl⟩
    have hb0 : Below w1.heap.size w1 W0 := by rw [hW0]; exact below_drewN w1 nq
    have HBW : Hid (Below w1.heap.size w1 W0) := hb0
    have HBT : Hid (Below w.heap.size w W0) := HB1.out.trans (hb0.mono HB1.out.size)
    have HBX := Lib.hid (show W0.heap[kb]? = some (.cells #[.int .i64 off, .int .i64 pos, .int .i64 size] 56 (0, 0)) from (hb0.block kb (lt_of_block hbx)).trans hbx)
    rw [← hW0]
    clear hW0 q0 t0 t1 t2 hb0 hbx
    have q3 := (HX1.out.same (HBW.out.block k HX1.out.lt)).c3
    go_upto_region 5 with fail
    clear q3
    have hdr : Below W0.heap.size W0 W0.drew := (Below.refl _ W0).drew
    have KS : Hid (∀ V, Below W0.heap.size W0 V → (fun (V : World) => V.cell? ⟨k, 3, none⟩ = some (.slice (some ⟨b, o, none⟩) n cap) ∧ V.cell? ⟨b, o + (n - 1) * 3, none⟩ = some (.int .i64 lo) ∧ V.cell? ⟨b, o + (n - 1) * 3 + 1, none⟩ = some (.int .i64 xp) ∧ V.cell? ⟨b, o + (n - 1) * 3 + 2, none⟩ = some (.int .i64 (fi - xp))) V) := fun V hV => ⟨((HX1.out.same (HBW.out.block k HX1.out.lt)).same (hV.block k (HX1.out.same (HBW.out.block k HX1.out.lt)).lt)).c3, HC.out V (HBT.out.trans (hV.mono HBT.out.size))⟩
    refine wp_region_noPanic ?_
    refine wp_region_z [] (fun (V : World) => V.cell? ⟨k, 3, none⟩ = some (.slice (some ⟨b, o, none⟩) n cap) ∧ V.cell? ⟨b, o + (n - 1) * 3, none⟩ = some (.int .i64 lo) ∧ V.cell? ⟨b, o + (n - 1) * 3 + 1, none⟩ = some (.int .i64 xp) ∧ V.cell? ⟨b, o + (n - 1) * 3 + 2, none⟩ = some (.int .i64 (fi - xp))) (by kernel_rfl) ?_
    have hHeld : (fun (V : World) => V.cell? ⟨k, 3, none⟩ = some (.slice (some ⟨b, o, none⟩) n cap) ∧ V.cell? ⟨b, o + (n - 1) * 3, none⟩ = some (.int .i64 lo) ∧ V.cell? ⟨b, o + (n - 1) * 3 + 1, none⟩ = some (.int .i64 xp) ∧ V.cell? ⟨b, o + (n - 1) * 3 + 2, none⟩ = some (.int .i64 (fi - xp))) _ := KS.out _ hdr
    obtain ⟨u0, hu0⟩ : ∃ u, u = W0.drew := ⟨_, rfl⟩
    rw [← hu0] at hHeld hdr
    rw [← hu0]
    clear hu0
    have HQ0 := Lib.hid hdr
    clear hdr
    refine wpAnyZ_take (i := 0) (oi := ⟨_, _, _, _, _, _⟩) (v := ?_) rfl (by kernel_rfl) (by kernel_rfl) (by kernel_rfl) (by kernel_rfl) (by kernel_rfl) (fun _ _ _ h => h) (Or.inl ⟨by rfl, ?_⟩) (by assumption) ?_
    rotate_left
    · intro W hSw
      (try dsimp only at hSw)
      go_simp
      (try with_reducible rfl)
    (try simp only [Act.put, List.setIfInBounds_toArray, List.set_cons_zero, List.set_cons_succ])
    refine wpAnyZ_take (i := 1) (oi := ⟨_, _, _, _, _, _⟩) (v := ?_) rfl (by kernel_rfl) (by kernel_rfl) (by kernel_rfl) (by kernel_rfl) (by kernel_rfl) (fun _ _ _ h => h) (Or.inl ⟨by rfl, ?_⟩) (by assumption) ?_
    rotate_left
    · intro W hSw
      (try dsimp only at hSw)
      go_simp
      (try with_reducible rfl)
    (try simp only [Act.put, List.setIfInBounds_toArray, List.set_cons_zero, List.set_cons_succ])
    refine wpAnyZ_take (i := 2) (oi := ⟨_, _, _, _, _, _⟩) (v := ?_) rfl (by kernel_rfl) (by kernel_rfl) (by kernel_rfl) (by kernel_rfl) (by kernel_rfl) (fun _ _ _ h => h) (Or.inl ⟨by rfl, ?_⟩) (by assumption) ?_
    rotate_left
    · intro W hSw
      (try dsimp only at hSw)
      go_simp
      (try with_reducible rfl)
    (try simp only [Act.put, List.setIfInBounds_toArray, List.set_cons_zero, List.set_cons_succ])
    refine wpAnyZ_take (i := 3) (oi := ⟨_, _, _, _, _, _⟩) (v := ?_) rfl (by kernel_rfl) (by kernel_rfl) (by kernel_rfl) (by kernel_rfl) (by kernel_rfl) (fun _ _ _ h => h) (Or.inl ⟨by rfl, ?_⟩) (by assumption) ?_
    rotate_left
    · intro W hSw
      (try dsimp only at hSw)
      go_simp
      (try with_reducible rfl)
    (try simp only [Act.put, List.setIfInBounds_toArray, List.set_cons_zero, List.set_cons_succ])
    refine wpAnyZ_take (i := 4) (oi := ⟨_, _, _, _, _, _⟩) (v := ?_) rfl (by kernel_rfl) (by kernel_rfl) (by kernel_rfl) (by kernel_rfl) (by kernel_rfl) (fun _ _ _ h => h) (Or.inl ⟨by rfl, ?_⟩) (by assumption) ?_
    rotate_left
    · intro W hSw
      (try dsimp only at hSw)
      go_simp
      (try with_reducible rfl)
    (try simp only [Act.put, List.setIfInBounds_toArray, List.set_cons_zero, List.set_cons_succ])
    refine wpAnyZ_take (i := 5) (oi := ⟨_, _, _, _, _, _⟩) (v := ?_) rfl (by kernel_rfl) (by kernel_rfl) (by kernel_rfl) (by kernel_rfl) (by kernel_rfl) (fun _ _ _ h => h) (Or.inl ⟨by rfl, ?_⟩) (by assumption) ?_
    rotate_left
    · intro W hSw
      (try dsimp only at hSw)
      go_simp
      (try with_reducible rfl)
    (try simp only [Act.put, List.setIfInBounds_toArray, List.set_cons_zero, List.set_cons_succ])
    refine wpAnyZ_take (i := 6) (oi := ⟨_, _, _, _, _, _⟩) (v := ?_) rfl (by kernel_rfl) (by kernel_rfl) (by kernel_rfl) (by kernel_rfl) (by kernel_rfl) (fun _ _ _ h => h) (Or.inl ⟨by rfl, ?_⟩) (by assumption) ?_
    rotate_left
    · intro W hSw
      (try dsimp only at hSw)
      go_simp
      (try with_reducible rfl)
    (try simp only [Act.put, List.setIfInBounds_toArray, List.set_cons_zero, List.set_cons_succ])
    refine wpAnyZ_take (i := 7) (oi := ⟨_, _, _, _, _, _⟩) (v := ?_) rfl (by kernel_rfl) (by kernel_rfl) (by kernel_rfl) (by kernel_rfl) (by kernel_rfl) (fun _ _ _ h => h) (Or.inl ⟨by rfl, ?_⟩) (by assumption) ?_
    rotate_left
    · intro W hSw
      (try dsimp only at hSw)
      go_simp
      (try with_reducible rfl)
    (try simp only [Act.put, List.setIfInBounds_toArray, List.set_cons_zero, List.set_cons_succ])
    refine wpAnyZ_take (i := 8) (oi := ⟨_, _, _, _, _, _⟩) (v := ?_) rfl (by kernel_rfl) (by kernel_rfl) (by kernel_rfl) (by kernel_rfl) (by kernel_rfl) (fun _ _ _ h => h) (Or.inl ⟨by rfl, ?_⟩) (by assumption) ?_
    rotate_left
    · intro W hSw
      (try dsimp only at hSw)
      go_simp
      (try with_reducible rfl)
    (try simp only [Act.put, List.setIfInBounds_toArray, List.set_cons_zero, List.set_cons_succ])
    refine wpAnyZ_take (i := 9) (oi := ⟨_, _, _, _, _, _⟩) (v := ?_) rfl (by kernel_rfl) (by kernel_rfl) (by kernel_rfl) (by kernel_rfl) (by kernel_rfl) (fun _ _ _ h => h) (Or.inl ⟨by rfl, ?_⟩) (by assumption) ?_
    rotate_left
    · intro W hSw
      (try dsimp only at hSw)
      go_simp
      (try with_reducible rfl)
    (try simp only [Act.put, List.setIfInBounds_toArray, List.set_cons_zero, List.set_cons_succ])
    refine wpAnyZ_take (i := 10) (oi := ⟨_, _, _, _, _, _⟩) (v := ?_) rfl (by kernel_rfl) (by kernel_rfl) (by kernel_rfl) (by kernel_rfl) (by kernel_rfl) (fun _ _ _ h => h) (Or.inl ⟨by rfl, ?_⟩) (by assumption) ?_
    rotate_left
    · intro W hSw
      (try dsimp only at hSw)
      go_simp
      (try with_reducible rfl)
    (try simp only [Act.put, List.setIfInBounds_toArray, List.set_cons_zero, List.set_cons_succ])
    refine wpAnyZ_take (i := 11) (oi := ⟨_, _, _, _, _, _⟩) (v := ?_) rfl (by kernel_rfl) (by kernel_rfl) (by kernel_rfl) (by kernel_rfl) (by kernel_rfl) (fun _ _ _ h => h) (Or.inl ⟨by rfl, ?_⟩) (by assumption) ?_
    rotate_left
    · intro W hSw
      (try dsimp only at hSw)
      go_simp
      (try with_reducible rfl)
    (try simp only [Act.put, List.setIfInBounds_toArray, List.set_cons_zero, List.set_cons_succ])
    refine wpAnyZ_ready (rs := [12]) (by kernel_rfl) (by simp) ?_
    refine AllReadyZ.cons (o := ⟨_, _, _, _, _, _⟩) rfl (fun C hC => ?_) AllReadyZ.nil
    go_simp
    have HQ1 : Hid (Below W0.heap.size W0 (u0.alloc (.cells #[.int .i64 0, .int .i64 0, .int .i64 0] 56))) := HQ0.out.alloc HQ0.out.size _
    have hHeld : (fun (V : World) => V.cell? ⟨k, 3, none⟩ = some (.slice (some ⟨b, o, none⟩) n cap) ∧ V.cell? ⟨b, o + (n - 1) * 3, none⟩ = some (.int .i64 lo) ∧ V.cell? ⟨b, o + (n - 1) * 3 + 1, none⟩ = some (.int .i64 xp) ∧ V.cell? ⟨b, o + (n - 1) * 3 + 2, none⟩ = some (.int .i64 (fi - xp))) _ := KS.out _ HQ1.out
    refine hC.out _ _ (fun _ => hHeld) (fun _ => ?_)
    clear hC C
    (try simp only [Act.put, List.setIfInBounds_toArray, List.set_cons_zero, List.set_cons_succ])
    refine wpAnyZ_ready (rs := [13]) (by kernel_rfl) (by simp) ?_
    refine AllReadyZ.cons (o := ⟨_, _, _, _, _, _⟩) rfl (fun C hC => ?_) AllReadyZ.nil
    go_simp
    obtain ⟨u2, hu2⟩ : ∃ u, u = u0.alloc (.cells #[.int .i64 lo, .int .i64 xp, .int .i64 (fi - xp)] 56) := ⟨_, rfl⟩
    obtain ⟨kl, hkl⟩ : ∃ G, G = u0.heap.size := ⟨_, rfl⟩
    have hbb : Below u0.heap.size u0 u2 := by rw [hu2]; exact (Below.refl _ _).alloc (Nat.le_refl _) _
    have HQ2 : Hid (Below W0.heap.size W0 u2) := HQ0.out.trans (hbb.mono HQ0.out.size)
    have HBT2 : Hid (Below w.heap.size w u2) := HBT.out.trans (HQ2.out.mono HBT.out.size)
    have HBX2 := Lib.hid (show u2.heap[kb]? = some (.cells #[.int .i64 off, .int .i64 pos, .int .i64 size] 56 (0, 0)) from (HQ2.out.block kb (lt_of_block HBX.out)).trans HBX.out)
    have HBL2 := Lib.hid (show u2.heap[kl]? = some (.cells #[.int .i64 lo, .int .i64 xp, .int .i64 (fi - xp)] 56 (0, 0)) by rw [hu2, hkl]; exact heap_alloc_new u0 _)
    rw [← hu2, ← hkl]
    clear hu2 hkl hbb
    have hHeld : (fun (V : World) => V.cell? ⟨k, 3, none⟩ = some (.slice (some ⟨b, o, none⟩) n cap) ∧ V.cell? ⟨b, o + (n - 1) * 3, none⟩ = some (.int .i64 lo) ∧ V.cell? ⟨b, o + (n - 1) * 3 + 1, none⟩ = some (.int .i64 xp) ∧ V.cell? ⟨b, o + (n - 1) * 3 + 2, none⟩ = some (.int .i64 (fi - xp))) u2 := KS.out _ HQ2.out
    refine hC.out _ _ (fun _ => hHeld) (fun _ => ?_)
    clear hC C
    (try simp only [Act.put, List.setIfInBounds_toArray, List.set_cons_zero, List.set_cons_succ])
    refine wpAnyZ_done (by kernel_rfl) ?_ _
    refine NoPanic.normal ?_
    clear hHeld KS
    have t0 : u2.cell? ⟨kb, 0, none⟩ = some (.int .i64 off) := cell_of_row _ _ 0 _ _ _ HBX2.out
    have t1 : u2.cell? ⟨kb, 1, none⟩ = some (.int .i64 pos) := cell_of_row _ _ 1 _ _ _ HBX2.out
    have l0 : u2.cell? ⟨kl, 0, none⟩ = some (.int .i64 lo) := cell_of_row _ _ 0 _ _ _ HBL2.out
    have l1 : u2.cell? ⟨kl, 1, none⟩ = some (.int .i64 xp) := cell_of_row _ _ 1 _ _ _ HBL2.out
    have l2 : u2.cell? ⟨kl, 2, none⟩ = some (.int .i64 (fi - xp)) := cell_of_row _ _ 2 _ _ _ HBL2.out
    by_cases d4 : lo < off
    · have d4d : decide (lo < off) = true := decide_eq_true d4
      by_cases d5 : fi - xp ≤ pos - xp
      · have d5d : decide (fi - xp ≤ pos - xp) = true := decide_eq_true d5
        go_wp2_with fail
        go_ret
        exact ⟨by rw [HBAD.out, decide_eq_false (by omega)]; rfl, HBT2.out⟩
      · have d5d : decide (fi - xp ≤ pos - xp) = false := decide_eq_false d5
        go_wp2_with fail
        go_ret
        exact ⟨by rw [HBAD.out, decide_eq_true (by omega)]; rfl, HBT2.out⟩
    · have d4d : decide (lo < off) = false := decide_eq_false d4
      go_wp2_with fail
      go_ret
      exact ⟨by rw [HBAD.out, decide_eq_true (by omega)]; rfl, HBT2.out⟩
end Go.Proofs.Ytelbignfecjjhaa
