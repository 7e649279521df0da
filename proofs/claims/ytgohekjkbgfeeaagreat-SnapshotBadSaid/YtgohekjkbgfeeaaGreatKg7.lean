/- Parts of a proof, merged: ProdDup, ProdCheck. -/
import Derived.Test.YtgohekjkbgfeeaaGreatKg6
namespace Go.Proofs.YtgohekjkbgfeeaaGreat
open Go.RowKit
open Go.SeqMath
open Go.ProdMath
open Go.BatMath hiding AllB getD_lt take_all
set_option linter.unusedVariables false

/-- Three numbers in a block. -/
def TBox (w : World) (k : Nat) (x : Tr) : Prop := w.heap[k]? = some (.cells #[.int .i64 x.f, .int .i64 x.l, .int .i64 x.b] 79 (0, 0))
theorem TBox.c0 {w : World} {k : Nat} {x : Tr} (h : TBox w k x) : w.cell? ⟨k, 0, none⟩ = some (.int .i64 x.f) := by rw [cell_of_row _ _ 0 _ _ _ h]; rfl
theorem TBox.c1 {w : World} {k : Nat} {x : Tr} (h : TBox w k x) : w.cell? ⟨k, 1, none⟩ = some (.int .i64 x.l) := by rw [cell_of_row _ _ 1 _ _ _ h]; rfl
theorem TBox.c2 {w : World} {k : Nat} {x : Tr} (h : TBox w k x) : w.cell? ⟨k, 2, none⟩ = some (.int .i64 x.b) := by rw [cell_of_row _ _ 2 _ _ _ h]; rfl
theorem TBox.on {w w' : World} {k : Nat} {x : Tr} (h : TBox w k x) (hb : Below w.heap.size w w') : TBox w' k x := by
  have hlt := lt_of_block h
  unfold TBox at *
  rw [hb.block k hlt]
  exact h
theorem tbox_new (w : World) (x : Tr) : TBox (w.alloc (.cells #[.int .i64 x.f, .int .i64 x.l, .int .i64 x.b] 79)) w.heap.size x := heap_alloc_new w _
def GivesDup (w : World) (r : Option Int) (e : Ending) (w' : World) : Prop := e = .returned (.tuple #[.int .i64 (r.getD (-1)), .bool r.isSome]) ∧ Below w.heap.size w w'
theorem gives_dup_none {w w' : World} {r : Option Int} (h : r = none) (hb : Below w.heap.size w w') : GivesDup w r (.returned (.tuple #[.int .i64 (-1), .bool false])) w' := ⟨by rw [h]; rfl, hb⟩
theorem gives_dup_some {w w' : World} {r : Option Int} {v : Int} (h : r = some v) (hb : Below w.heap.size w w') : GivesDup w r (.returned (.tuple #[.int .i64 v, .bool true])) w' := ⟨by rw [h]; rfl, hb⟩
set_option maxRecDepth 100000 in
set_option maxHeartbeats 4000000 in
theorem refDup_any (w : World) (id ep op : Int) (last : List Tr) (ad : Option Addr) (n cap : Nat) (hl : RowAt trK w ad n cap last) (hn : n ≤ 100000000000) (b0 b1 b2 b3 : Int) (b4 : Bool) (b5 : Int) (rd : Option Addr) (rn rc : Nat) (hrn : rn ≤ 140737488355328) (r : Option Int) (hr : (if b2 = ep ∧ b5 = 0 then dupL last b3 rn else none) = r) :
    Calls Tryz.prog 145 #[.agg #[.int .i64 id, .int .i64 ep, .slice ad n cap, .int .i64 op], .agg #[.int .i64 b0, .int .i64 b1, .int .i64 b2, .int .i64 b3, .bool b4, .int .i64 b5, .slice rd rn rc]] w (GivesDup w r) := by
  obtain ⟨W0, hW0⟩ : ∃ W0, W0 = ((w.alloc (.cells #[.int .i64 id, .int .i64 ep, .slice ad n cap, .int .i64 op] 78)).alloc (.cells #[.int .i64 b0, .int .i64 b1, .int .i64 b2, .int .i64 b3, .bool b4, .int .i64 b5, .slice rd rn rc] 56)) := ⟨_, rfl⟩
  have HB0 : Hid (Below w.heap.size w W0) := by show Below _ _ _; rw [hW0]; exact ((Below.refl _ _).alloc (Nat.le_refl _) _).alloc (by simp) _
  have HP0 : Hid (PBox W0 w.heap.size id ep (.slice ad n cap) op) := by
    show PBox _ _ _ _ _ _
    rw [hW0]
    exact (pbox_new w id ep (.slice ad n cap) op).keep ((Below.refl _ _).alloc (Nat.le_refl _) _) (by simp)
  have HX0 : Hid (BoxAt W0 (w.heap.size + 1) b0 b1 b2 b3 b4 b5 (.slice rd rn rc)) := by
    show BoxAt _ _ _ _ _ _ _ _ _
    rw [hW0]
    have := boxAt_new (w.alloc (.cells #[.int .i64 id, .int .i64 ep, .slice ad n cap, .int .i64 op] 78)) b0 b1 b2 b3 b4 b5 (.slice rd rn rc)
    simpa using this
  have HL0 := Lib.hid (hl.keep HB0.out)
  have HR := Lib.hid hr
  have HW0 := Lib.hid hW0
  clear hl hr hW0
  obtain ⟨B1, hB1⟩ : ∃ B, B = w.heap.size := ⟨_, rfl⟩
  obtain ⟨B2, hB2⟩ : ∃ B, B = w.heap.size + 1 := ⟨_, rfl⟩
  rw [← hB1] at HP0
  rw [← hB2] at HX0
  go_enter Tryz.func145, Tryz.ntmps145
  go_upto_region 1 with fail
  rw [← HW0.out, ← hB2, ← hB1]
  clear HW0 hB1 hB2
  have q0 := HP0.out.c0
  have q1 := HP0.out.c1
  have q2 := HP0.out.c2
  have q3 := HP0.out.c3
  have p2 := HX0.out.c2
  have p5 := HX0.out.c5
  by_cases he : b2 = ep
  · have hd1 : (b2 == ep) = true := by rw [he]; simp
    by_cases hm : b5 = 0
    · have hd2 : (b5 == 0) = true := by rw [hm]; rfl
      have HRR : Hid (dupL (last.drop 0) b3 rn = r) := by show _ = _; rw [← HR.out, if_pos ⟨he, hm⟩]; rfl
      clear HR he hm
      go_wp2
      go_loopw [21] (fun v21 wr => ∃ j : Nat, v21 = .int .i64 (j : Int) ∧ j ≤ n ∧ dupL (last.drop j) b3 rn = r ∧ Below W0.heap.size W0 wr) (fun v21 _ => n - (intOf v21).toNat)
      case atStart => exact ⟨0, rfl, Nat.zero_le _, HRR.out, Below.refl _ _⟩
      case round =>
        obtain ⟨j, rfl, hj, hdu, hbel⟩ := hrel
        have HD := Lib.hid hdu
        have HB := Lib.hid hbel
        clear hdu hbel HRR q0 q1 q2 q3 p2 p5
        obtain ⟨wo, hwo⟩ : ∃ wo : World, wo = wr := ⟨_, rfl⟩
        subst hwo
        by_cases hlt : j < n
        · have hd3 : decide (j < n) = true := decide_eq_true hlt
          have hjn : (j : Int) < (n : Int) := by omega
          obtain ⟨bk, off, x, rfl, hbk, hx, c0, c1, c2⟩ := tr_get (HL0.out.keep HB.out) hlt
          have hdrop : last.drop j = x :: last.drop (j + 1) := by
            obtain ⟨hjl, hxe⟩ := List.getElem?_eq_some_iff.1 hx
            rw [List.drop_eq_getElem_cons hjl, hxe]
          have HDR := Lib.hid hdrop
          clear hdrop hx hbk
          go_upto_region 5 with fail
          obtain ⟨W1, hW1⟩ : ∃ W1, W1 = wo.alloc (.cells #[.int .i64 x.f, .int .i64 x.l, .int .i64 x.b] 79) := ⟨_, rfl⟩
          have HB1 : Hid (Below W0.heap.size W0 W1) := by show Below _ _ _; rw [hW1]; exact HB.out.alloc HB.out.size _
          obtain ⟨K, hK⟩ : ∃ K, K = wo.heap.size := ⟨_, rfl⟩
          have HT1 : Hid (TBox W1 K x) := by show TBox _ _ _; rw [hW1, hK]; exact tbox_new wo x
          have HX1 := Lib.hid (HX0.out.on HB1.out)
          rw [← hW1, ← hK]
          clear hW1 hK c0 c1 c2 HB
          have KS : Hid (∀ W, Below W1.heap.size W1 W → (fun W => W.cell? ⟨K, 0, none⟩ = some (.int .i64 x.f) ∧ W.cell? ⟨K, 1, none⟩ = some (.int .i64 x.l) ∧ W.cell? ⟨K, 2, none⟩ = some (.int .i64 x.b) ∧ W.cell? ⟨B2, 0, none⟩ = some (.int .i64 b0) ∧ W.cell? ⟨B2, 1, none⟩ = some (.int .i64 b1) ∧ W.cell? ⟨B2, 2, none⟩ = some (.int .i64 b2) ∧ W.cell? ⟨B2, 3, none⟩ = some (.int .i64 b3) ∧ W.cell? ⟨B2, 4, none⟩ = some (.bool b4) ∧ W.cell? ⟨B2, 5, none⟩ = some (.int .i64 b5) ∧ W.cell? ⟨B2, 6, none⟩ = some (.slice rd rn rc) ∧ Below W1.heap.size W1 W) W) := by
            intro W hW
            have hX := HX1.out.on hW
            have hT := HT1.out.on hW
            exact ⟨hT.c0, hT.c1, hT.c2, hX.c0, hX.c1, hX.c2, hX.c3, hX.c4, hX.c5, hX.c6, hW⟩
          have hb1d : Below W1.heap.size W1 W1.drew := (Below.refl _ W1).drew
          by_cases hf : x.f = b3
          · have hd4 : (x.f == b3) = true := by rw [hf]; simp
            obtain ⟨lv, hlv⟩ : ∃ lv, lastI b3 rn = lv := ⟨_, rfl⟩
            have HLV := Lib.hid hlv
            by_cases hll : x.l = lv
            · have hd5 : (x.l == lv) = true := by rw [hll]; simp
              have HEND : Hid (r = some x.b) := by
                show r = _
                rw [← HD.out, HDR.out, dup_hit]
                unfold hitB
                rw [hf, hlv, hll]
                simp
              clear hlv
              refine wp_region_noPanic ?_
              refine wp_region_z [] (fun W => W.cell? ⟨K, 0, none⟩ = some (.int .i64 x.f) ∧ W.cell? ⟨K, 1, none⟩ = some (.int .i64 x.l) ∧ W.cell? ⟨K, 2, none⟩ = some (.int .i64 x.b) ∧ W.cell? ⟨B2, 0, none⟩ = some (.int .i64 b0) ∧ W.cell? ⟨B2, 1, none⟩ = some (.int .i64 b1) ∧ W.cell? ⟨B2, 2, none⟩ = some (.int .i64 b2) ∧ W.cell? ⟨B2, 3, none⟩ = some (.int .i64 b3) ∧ W.cell? ⟨B2, 4, none⟩ = some (.bool b4) ∧ W.cell? ⟨B2, 5, none⟩ = some (.int .i64 b5) ∧ W.cell? ⟨B2, 6, none⟩ = some (.slice rd rn rc) ∧ Below W1.heap.size W1 W) (by kernel_rfl) ?_
              have hHeld : (fun W => W.cell? ⟨K, 0, none⟩ = some (.int .i64 x.f) ∧ W.cell? ⟨K, 1, none⟩ = some (.int .i64 x.l) ∧ W.cell? ⟨K, 2, none⟩ = some (.int .i64 x.b) ∧ W.cell? ⟨B2, 0, none⟩ = some (.int .i64 b0) ∧ W.cell? ⟨B2, 1, none⟩ = some (.int .i64 b1) ∧ W.cell? ⟨B2, 2, none⟩ = some (.int .i64 b2) ∧ W.cell? ⟨B2, 3, none⟩ = some (.int .i64 b3) ∧ W.cell? ⟨B2, 4, none⟩ = some (.bool b4) ∧ W.cell? ⟨B2, 5, none⟩ = some (.int .i64 b5) ∧ W.cell? ⟨B2, 6, none⟩ = some (.slice rd rn rc) ∧ Below W1.heap.size W1 W) _ := KS.out _ hb1d
              obtain ⟨u0, hu0⟩ : ∃ u, u = W1.drew := ⟨_, rfl⟩
              rw [← hu0] at hHeld hb1d
              rw [← hu0]
              clear hu0
              have HU0 := Lib.hid hb1d
              clear hb1d
              refine wpAnyZ_take (i := 0) (oi := ⟨_, _, _, _, _, _⟩) (v := ?_) rfl (by kernel_rfl) (by kernel_rfl) (by kernel_rfl) (by kernel_rfl) (by kernel_rfl) (fun _ _ _ h => h) (Or.inl ⟨by rfl, ?_⟩) (by assumption) ?_
              rotate_left
              · intro W hSw
                (try dsimp only at hSw)
                go_simp
                (try with_reducible rfl)
              (try simp only [Act.put, List.setIfInBounds_toArray, List.set_cons_zero, List.set_cons_succ])
              refine wpAnyZ_take (i := 1) (oi := ⟨_, _, _, _, _, _⟩) (v := ?_) rfl (by kernel_rfl) (by kernel_rfl) (by kernel_rfl) (by kernel_rfl) (by kernel_rfl) (fun _ _ _ h => h) (Or.inl ⟨by rfl, ?_⟩) (by assumption) ?_
              rotate_left
              · intro W hSw
                (try dsimp only at hSw)
                go_simp
                (try with_reducible rfl)
              (try simp only [Act.put, List.setIfInBounds_toArray, List.set_cons_zero, List.set_cons_succ])
              refine wpAnyZ_take (i := 2) (oi := ⟨_, _, _, _, _, _⟩) (v := ?_) rfl (by kernel_rfl) (by kernel_rfl) (by kernel_rfl) (by kernel_rfl) (by kernel_rfl) (fun _ _ _ h => h) (Or.inl ⟨by rfl, ?_⟩) (by assumption) ?_
              rotate_left
              · intro W hSw
                (try dsimp only at hSw)
                go_simp
                (try with_reducible rfl)
              (try simp only [Act.put, List.setIfInBounds_toArray, List.set_cons_zero, List.set_cons_succ])
              refine wpAnyZ_take (i := 3) (oi := ⟨_, _, _, _, _, _⟩) (v := ?_) rfl (by kernel_rfl) (by kernel_rfl) (by kernel_rfl) (by kernel_rfl) (by kernel_rfl) (fun _ _ _ h => h) (Or.inl ⟨by rfl, ?_⟩) (by assumption) ?_
              rotate_left
              · intro W hSw
                (try dsimp only at hSw)
                go_simp
                (try with_reducible rfl)
              (try simp only [Act.put, List.setIfInBounds_toArray, List.set_cons_zero, List.set_cons_succ])
              refine wpAnyZ_take (i := 4) (oi := ⟨_, _, _, _, _, _⟩) (v := ?_) rfl (by kernel_rfl) (by kernel_rfl) (by kernel_rfl) (by kernel_rfl) (by kernel_rfl) (fun _ _ _ h => h) (Or.inl ⟨by rfl, ?_⟩) (by assumption) ?_
              rotate_left
              · intro W hSw
                (try dsimp only at hSw)
                go_simp
                (try with_reducible rfl)
              (try simp only [Act.put, List.setIfInBounds_toArray, List.set_cons_zero, List.set_cons_succ])
              refine wpAnyZ_take (i := 5) (oi := ⟨_, _, _, _, _, _⟩) (v := ?_) rfl (by kernel_rfl) (by kernel_rfl) (by kernel_rfl) (by kernel_rfl) (by kernel_rfl) (fun _ _ _ h => h) (Or.inl ⟨by rfl, ?_⟩) (by assumption) ?_
              rotate_left
              · intro W hSw
                (try dsimp only at hSw)
                go_simp
                (try with_reducible rfl)
              (try simp only [Act.put, List.setIfInBounds_toArray, List.set_cons_zero, List.set_cons_succ])
              refine wpAnyZ_take (i := 6) (oi := ⟨_, _, _, _, _, _⟩) (v := ?_) rfl (by kernel_rfl) (by kernel_rfl) (by kernel_rfl) (by kernel_rfl) (by kernel_rfl) (fun _ _ _ h => h) (Or.inl ⟨by rfl, ?_⟩) (by assumption) ?_
              rotate_left
              · intro W hSw
                (try dsimp only at hSw)
                go_simp
                (try with_reducible rfl)
              (try simp only [Act.put, List.setIfInBounds_toArray, List.set_cons_zero, List.set_cons_succ])
              refine wpAnyZ_take (i := 7) (oi := ⟨_, _, _, _, _, _⟩) (v := ?_) rfl (by kernel_rfl) (by kernel_rfl) (by kernel_rfl) (by kernel_rfl) (by kernel_rfl) (fun _ _ _ h => h) (Or.inl ⟨by rfl, ?_⟩) (by assumption) ?_
              rotate_left
              · intro W hSw
                (try dsimp only at hSw)
                go_simp
                (try with_reducible rfl)
              (try simp only [Act.put, List.setIfInBounds_toArray, List.set_cons_zero, List.set_cons_succ])
              refine wpAnyZ_take (i := 8) (oi := ⟨_, _, _, _, _, _⟩) (v := ?_) rfl (by kernel_rfl) (by kernel_rfl) (by kernel_rfl) (by kernel_rfl) (by kernel_rfl) (fun _ _ _ h => h) (Or.inl ⟨by rfl, ?_⟩) (by assumption) ?_
              rotate_left
              · intro W hSw
                (try dsimp only at hSw)
                go_simp
                (try with_reducible rfl)
              (try simp only [Act.put, List.setIfInBounds_toArray, List.set_cons_zero, List.set_cons_succ])
              refine wpAnyZ_take (i := 9) (oi := ⟨_, _, _, _, _, _⟩) (v := ?_) rfl (by kernel_rfl) (by kernel_rfl) (by kernel_rfl) (by kernel_rfl) (by kernel_rfl) (fun _ _ _ h => h) (Or.inl ⟨by rfl, ?_⟩) (by assumption) ?_
              rotate_left
              · intro W hSw
                (try dsimp only at hSw)
                go_simp
                (try with_reducible rfl)
              (try simp only [Act.put, List.setIfInBounds_toArray, List.set_cons_zero, List.set_cons_succ])
              refine wpAnyZ_take (i := 10) (oi := ⟨_, _, _, _, _, _⟩) (v := ?_) rfl (by kernel_rfl) (by kernel_rfl) (by kernel_rfl) (by kernel_rfl) (by kernel_rfl) (fun _ _ _ h => h) (Or.inl ⟨by rfl, ?_⟩) (by assumption) ?_
              rotate_left
              · intro W hSw
                (try dsimp only at hSw)
                go_simp
                (try with_reducible rfl)
              (try simp only [Act.put, List.setIfInBounds_toArray, List.set_cons_zero, List.set_cons_succ])
              refine wpAnyZ_take (i := 11) (oi := ⟨_, _, _, _, _, _⟩) (v := ?_) rfl (by kernel_rfl) (by kernel_rfl) (by kernel_rfl) (by kernel_rfl) (by kernel_rfl) (fun _ _ _ h => h) (Or.inl ⟨by rfl, ?_⟩) (by assumption) ?_
              rotate_left
              · intro W hSw
                (try dsimp only at hSw)
                go_simp
                (try with_reducible rfl)
              (try simp only [Act.put, List.setIfInBounds_toArray, List.set_cons_zero, List.set_cons_succ])
              refine wpAnyZ_take (i := 12) (oi := ⟨_, _, _, _, _, _⟩) (v := ?_) rfl (by kernel_rfl) (by kernel_rfl) (by kernel_rfl) (by kernel_rfl) (by kernel_rfl) (fun _ _ _ h => h) (Or.inl ⟨by rfl, ?_⟩) (by assumption) ?_
              rotate_left
              · intro W hSw
                (try dsimp only at hSw)
                go_simp
                (try with_reducible rfl)
              (try simp only [Act.put, List.setIfInBounds_toArray, List.set_cons_zero, List.set_cons_succ])
              refine wpAnyZ_ready (rs := [13]) (by kernel_rfl) (by simp) ?_
              refine AllReadyZ.cons (o := ⟨_, _, _, _, _, _⟩) rfl (fun C hC => ?_) AllReadyZ.nil
              go_simp
              refine (refLast_any b3 rn u0 lv hrn HLV.out).mono ?_
              rintro e u1 ⟨rfl, rfl⟩
              go_wp2_with fail
              have hHeld : (fun W => W.cell? ⟨K, 0, none⟩ = some (.int .i64 x.f) ∧ W.cell? ⟨K, 1, none⟩ = some (.int .i64 x.l) ∧ W.cell? ⟨K, 2, none⟩ = some (.int .i64 x.b) ∧ W.cell? ⟨B2, 0, none⟩ = some (.int .i64 b0) ∧ W.cell? ⟨B2, 1, none⟩ = some (.int .i64 b1) ∧ W.cell? ⟨B2, 2, none⟩ = some (.int .i64 b2) ∧ W.cell? ⟨B2, 3, none⟩ = some (.int .i64 b3) ∧ W.cell? ⟨B2, 4, none⟩ = some (.bool b4) ∧ W.cell? ⟨B2, 5, none⟩ = some (.int .i64 b5) ∧ W.cell? ⟨B2, 6, none⟩ = some (.slice rd rn rc) ∧ Below W1.heap.size W1 W) _ := hHeld
              refine hC.out _ _ (fun _ => hHeld) (fun _ => ?_)
              clear hC C
              (try simp only [Act.put, List.setIfInBounds_toArray, List.set_cons_zero, List.set_cons_succ])
              refine wpAnyZ_take (i := 14) (oi := ⟨_, _, _, _, _, _⟩) (v := ?_) rfl (by kernel_rfl) (by kernel_rfl) (by kernel_rfl) (by kernel_rfl) (by kernel_rfl) (fun _ _ _ h => h) (Or.inl ⟨by rfl, ?_⟩) (by assumption) ?_
              rotate_left
              · intro W hSw
                (try dsimp only at hSw)
                go_simp
                (try with_reducible rfl)
              (try simp only [Act.put, List.setIfInBounds_toArray, List.set_cons_zero, List.set_cons_succ])
              refine wpAnyZ_take (i := 15) (oi := ⟨_, _, _, _, _, _⟩) (v := ?_) rfl (by kernel_rfl) (by kernel_rfl) (by kernel_rfl) (by kernel_rfl) (by kernel_rfl) (fun _ _ _ h => h) (Or.inl ⟨by rfl, ?_⟩) (by assumption) ?_
              rotate_left
              · intro W hSw
                (try dsimp only at hSw)
                go_simp
                (try with_reducible rfl)
              (try simp only [Act.put, List.setIfInBounds_toArray, List.set_cons_zero, List.set_cons_succ])
              refine wpAnyZ_done (by kernel_rfl) ?_ _
              refine NoPanic.normal ?_
              have HU := HU0
              clear hHeld
              have k2 := (KS.out _ HU.out).2.2.1
              go_wp2
              go_ret2
              exact gives_dup_some HEND.out (HB0.out.trans ((HB1.out.trans (HU.out.mono HB1.out.size)).mono HB0.out.size))
            · have hd5 : (x.l == lv) = false := beq_false_of_ne hll
              have HNX : Hid (dupL (last.drop (j + 1)) b3 rn = r) := by
                show _ = _
                rw [← HD.out, HDR.out, dup_miss]
                unfold hitB
                rw [hlv, decide_eq_false hll, Bool.and_false]
              clear hlv
              refine wp_region_noPanic ?_
              refine wp_region_z [] (fun W => W.cell? ⟨K, 0, none⟩ = some (.int .i64 x.f) ∧ W.cell? ⟨K, 1, none⟩ = some (.int .i64 x.l) ∧ W.cell? ⟨K, 2, none⟩ = some (.int .i64 x.b) ∧ W.cell? ⟨B2, 0, none⟩ = some (.int .i64 b0) ∧ W.cell? ⟨B2, 1, none⟩ = some (.int .i64 b1) ∧ W.cell? ⟨B2, 2, none⟩ = some (.int .i64 b2) ∧ W.cell? ⟨B2, 3, none⟩ = some (.int .i64 b3) ∧ W.cell? ⟨B2, 4, none⟩ = some (.bool b4) ∧ W.cell? ⟨B2, 5, none⟩ = some (.int .i64 b5) ∧ W.cell? ⟨B2, 6, none⟩ = some (.slice rd rn rc) ∧ Below W1.heap.size W1 W) (by kernel_rfl) ?_
              have hHeld : (fun W => W.cell? ⟨K, 0, none⟩ = some (.int .i64 x.f) ∧ W.cell? ⟨K, 1, none⟩ = some (.int .i64 x.l) ∧ W.cell? ⟨K, 2, none⟩ = some (.int .i64 x.b) ∧ W.cell? ⟨B2, 0, none⟩ = some (.int .i64 b0) ∧ W.cell? ⟨B2, 1, none⟩ = some (.int .i64 b1) ∧ W.cell? ⟨B2, 2, none⟩ = some (.int .i64 b2) ∧ W.cell? ⟨B2, 3, none⟩ = some (.int .i64 b3) ∧ W.cell? ⟨B2, 4, none⟩ = some (.bool b4) ∧ W.cell? ⟨B2, 5, none⟩ = some (.int .i64 b5) ∧ W.cell? ⟨B2, 6, none⟩ = some (.slice rd rn rc) ∧ Below W1.heap.size W1 W) _ := KS.out _ hb1d
              obtain ⟨u0, hu0⟩ : ∃ u, u = W1.drew := ⟨_, rfl⟩
              rw [← hu0] at hHeld hb1d
              rw [← hu0]
              clear hu0
              have HU0 := Lib.hid hb1d
              clear hb1d
              refine wpAnyZ_take (i := 0) (oi := ⟨_, _, _, _, _, _⟩) (v := ?_) rfl (by kernel_rfl) (by kernel_rfl) (by kernel_rfl) (by kernel_rfl) (by kernel_rfl) (fun _ _ _ h => h) (Or.inl ⟨by rfl, ?_⟩) (by assumption) ?_
              rotate_left
              · intro W hSw
                (try dsimp only at hSw)
                go_simp
                (try with_reducible rfl)
              (try simp only [Act.put, List.setIfInBounds_toArray, List.set_cons_zero, List.set_cons_succ])
              refine wpAnyZ_take (i := 1) (oi := ⟨_, _, _, _, _, _⟩) (v := ?_) rfl (by kernel_rfl) (by kernel_rfl) (by kernel_rfl) (by kernel_rfl) (by kernel_rfl) (fun _ _ _ h => h) (Or.inl ⟨by rfl, ?_⟩) (by assumption) ?_
              rotate_left
              · intro W hSw
                (try dsimp only at hSw)
                go_simp
                (try with_reducible rfl)
              (try simp only [Act.put, List.setIfInBounds_toArray, List.set_cons_zero, List.set_cons_succ])
              refine wpAnyZ_take (i := 2) (oi := ⟨_, _, _, _, _, _⟩) (v := ?_) rfl (by kernel_rfl) (by kernel_rfl) (by kernel_rfl) (by kernel_rfl) (by kernel_rfl) (fun _ _ _ h => h) (Or.inl ⟨by rfl, ?_⟩) (by assumption) ?_
              rotate_left
              · intro W hSw
                (try dsimp only at hSw)
                go_simp
                (try with_reducible rfl)
              (try simp only [Act.put, List.setIfInBounds_toArray, List.set_cons_zero, List.set_cons_succ])
              refine wpAnyZ_take (i := 3) (oi := ⟨_, _, _, _, _, _⟩) (v := ?_) rfl (by kernel_rfl) (by kernel_rfl) (by kernel_rfl) (by kernel_rfl) (by kernel_rfl) (fun _ _ _ h => h) (Or.inl ⟨by rfl, ?_⟩) (by assumption) ?_
              rotate_left
              · intro W hSw
                (try dsimp only at hSw)
                go_simp
                (try with_reducible rfl)
              (try simp only [Act.put, List.setIfInBounds_toArray, List.set_cons_zero, List.set_cons_succ])
              refine wpAnyZ_take (i := 4) (oi := ⟨_, _, _, _, _, _⟩) (v := ?_) rfl (by kernel_rfl) (by kernel_rfl) (by kernel_rfl) (by kernel_rfl) (by kernel_rfl) (fun _ _ _ h => h) (Or.inl ⟨by rfl, ?_⟩) (by assumption) ?_
              rotate_left
              · intro W hSw
                (try dsimp only at hSw)
                go_simp
                (try with_reducible rfl)
              (try simp only [Act.put, List.setIfInBounds_toArray, List.set_cons_zero, List.set_cons_succ])
              refine wpAnyZ_take (i := 5) (oi := ⟨_, _, _, _, _, _⟩) (v := ?_) rfl (by kernel_rfl) (by kernel_rfl) (by kernel_rfl) (by kernel_rfl) (by kernel_rfl) (fun _ _ _ h => h) (Or.inl ⟨by rfl, ?_⟩) (by assumption) ?_
              rotate_left
              · intro W hSw
                (try dsimp only at hSw)
                go_simp
                (try with_reducible rfl)
              (try simp only [Act.put, List.setIfInBounds_toArray, List.set_cons_zero, List.set_cons_succ])
              refine wpAnyZ_take (i := 6) (oi := ⟨_, _, _, _, _, _⟩) (v := ?_) rfl (by kernel_rfl) (by kernel_rfl) (by kernel_rfl) (by kernel_rfl) (by kernel_rfl) (fun _ _ _ h => h) (Or.inl ⟨by rfl, ?_⟩) (by assumption) ?_
              rotate_left
              · intro W hSw
                (try dsimp only at hSw)
                go_simp
                (try with_reducible rfl)
              (try simp only [Act.put, List.setIfInBounds_toArray, List.set_cons_zero, List.set_cons_succ])
              refine wpAnyZ_take (i := 7) (oi := ⟨_, _, _, _, _, _⟩) (v := ?_) rfl (by kernel_rfl) (by kernel_rfl) (by kernel_rfl) (by kernel_rfl) (by kernel_rfl) (fun _ _ _ h => h) (Or.inl ⟨by rfl, ?_⟩) (by assumption) ?_
              rotate_left
              · intro W hSw
                (try dsimp only at hSw)
                go_simp
                (try with_reducible rfl)
              (try simp only [Act.put, List.setIfInBounds_toArray, List.set_cons_zero, List.set_cons_succ])
              refine wpAnyZ_take (i := 8) (oi := ⟨_, _, _, _, _, _⟩) (v := ?_) rfl (by kernel_rfl) (by kernel_rfl) (by kernel_rfl) (by kernel_rfl) (by kernel_rfl) (fun _ _ _ h => h) (Or.inl ⟨by rfl, ?_⟩) (by assumption) ?_
              rotate_left
              · intro W hSw
                (try dsimp only at hSw)
                go_simp
                (try with_reducible rfl)
              (try simp only [Act.put, List.setIfInBounds_toArray, List.set_cons_zero, List.set_cons_succ])
              refine wpAnyZ_take (i := 9) (oi := ⟨_, _, _, _, _, _⟩) (v := ?_) rfl (by kernel_rfl) (by kernel_rfl) (by kernel_rfl) (by kernel_rfl) (by kernel_rfl) (fun _ _ _ h => h) (Or.inl ⟨by rfl, ?_⟩) (by assumption) ?_
              rotate_left
              · intro W hSw
                (try dsimp only at hSw)
                go_simp
                (try with_reducible rfl)
              (try simp only [Act.put, List.setIfInBounds_toArray, List.set_cons_zero, List.set_cons_succ])
              refine wpAnyZ_take (i := 10) (oi := ⟨_, _, _, _, _, _⟩) (v := ?_) rfl (by kernel_rfl) (by kernel_rfl) (by kernel_rfl) (by kernel_rfl) (by kernel_rfl) (fun _ _ _ h => h) (Or.inl ⟨by rfl, ?_⟩) (by assumption) ?_
              rotate_left
              · intro W hSw
                (try dsimp only at hSw)
                go_simp
                (try with_reducible rfl)
              (try simp only [Act.put, List.setIfInBounds_toArray, List.set_cons_zero, List.set_cons_succ])
              refine wpAnyZ_take (i := 11) (oi := ⟨_, _, _, _, _, _⟩) (v := ?_) rfl (by kernel_rfl) (by kernel_rfl) (by kernel_rfl) (by kernel_rfl) (by kernel_rfl) (fun _ _ _ h => h) (Or.inl ⟨by rfl, ?_⟩) (by assumption) ?_
              rotate_left
              · intro W hSw
                (try dsimp only at hSw)
                go_simp
                (try with_reducible rfl)
              (try simp only [Act.put, List.setIfInBounds_toArray, List.set_cons_zero, List.set_cons_succ])
              refine wpAnyZ_take (i := 12) (oi := ⟨_, _, _, _, _, _⟩) (v := ?_) rfl (by kernel_rfl) (by kernel_rfl) (by kernel_rfl) (by kernel_rfl) (by kernel_rfl) (fun _ _ _ h => h) (Or.inl ⟨by rfl, ?_⟩) (by assumption) ?_
              rotate_left
              · intro W hSw
                (try dsimp only at hSw)
                go_simp
                (try with_reducible rfl)
              (try simp only [Act.put, List.setIfInBounds_toArray, List.set_cons_zero, List.set_cons_succ])
              refine wpAnyZ_ready (rs := [13]) (by kernel_rfl) (by simp) ?_
              refine AllReadyZ.cons (o := ⟨_, _, _, _, _, _⟩) rfl (fun C hC => ?_) AllReadyZ.nil
              go_simp
              refine (refLast_any b3 rn u0 lv hrn HLV.out).mono ?_
              rintro e u1 ⟨rfl, rfl⟩
              go_wp2_with fail
              have hHeld : (fun W => W.cell? ⟨K, 0, none⟩ = some (.int .i64 x.f) ∧ W.cell? ⟨K, 1, none⟩ = some (.int .i64 x.l) ∧ W.cell? ⟨K, 2, none⟩ = some (.int .i64 x.b) ∧ W.cell? ⟨B2, 0, none⟩ = some (.int .i64 b0) ∧ W.cell? ⟨B2, 1, none⟩ = some (.int .i64 b1) ∧ W.cell? ⟨B2, 2, none⟩ = some (.int .i64 b2) ∧ W.cell? ⟨B2, 3, none⟩ = some (.int .i64 b3) ∧ W.cell? ⟨B2, 4, none⟩ = some (.bool b4) ∧ W.cell? ⟨B2, 5, none⟩ = some (.int .i64 b5) ∧ W.cell? ⟨B2, 6, none⟩ = some (.slice rd rn rc) ∧ Below W1.heap.size W1 W) _ := hHeld
              refine hC.out _ _ (fun _ => hHeld) (fun _ => ?_)
              clear hC C
              (try simp only [Act.put, List.setIfInBounds_toArray, List.set_cons_zero, List.set_cons_succ])
              refine wpAnyZ_take (i := 14) (oi := ⟨_, _, _, _, _, _⟩) (v := ?_) rfl (by kernel_rfl) (by kernel_rfl) (by kernel_rfl) (by kernel_rfl) (by kernel_rfl) (fun _ _ _ h => h) (Or.inl ⟨by rfl, ?_⟩) (by assumption) ?_
              rotate_left
              · intro W hSw
                (try dsimp only at hSw)
                go_simp
                (try with_reducible rfl)
              (try simp only [Act.put, List.setIfInBounds_toArray, List.set_cons_zero, List.set_cons_succ])
              refine wpAnyZ_take (i := 15) (oi := ⟨_, _, _, _, _, _⟩) (v := ?_) rfl (by kernel_rfl) (by kernel_rfl) (by kernel_rfl) (by kernel_rfl) (by kernel_rfl) (fun _ _ _ h => h) (Or.inl ⟨by rfl, ?_⟩) (by assumption) ?_
              rotate_left
              · intro W hSw
                (try dsimp only at hSw)
                go_simp
                (try with_reducible rfl)
              (try simp only [Act.put, List.setIfInBounds_toArray, List.set_cons_zero, List.set_cons_succ])
              refine wpAnyZ_done (by kernel_rfl) ?_ _
              refine NoPanic.normal ?_
              have HU := HU0
              clear hHeld
              have HBU := Lib.hid (HB1.out.trans (HU.out.mono HB1.out.size))
              go_wp2
              go_roundw
              case rel => exact ⟨j + 1, by go_num, by omega, HNX.out, HBU.out⟩
              case measure => simp [intOf]; omega
          · have hd4 : (x.f == b3) = false := beq_false_of_ne hf
            have HNX : Hid (dupL (last.drop (j + 1)) b3 rn = r) := by
              show _ = _
              rw [← HD.out, HDR.out, dup_miss]
              unfold hitB
              rw [decide_eq_false hf, Bool.false_and]
            refine wp_region_noPanic ?_
            refine wp_region_z [] (fun W => W.cell? ⟨K, 0, none⟩ = some (.int .i64 x.f) ∧ W.cell? ⟨K, 1, none⟩ = some (.int .i64 x.l) ∧ W.cell? ⟨K, 2, none⟩ = some (.int .i64 x.b) ∧ W.cell? ⟨B2, 0, none⟩ = some (.int .i64 b0) ∧ W.cell? ⟨B2, 1, none⟩ = some (.int .i64 b1) ∧ W.cell? ⟨B2, 2, none⟩ = some (.int .i64 b2) ∧ W.cell? ⟨B2, 3, none⟩ = some (.int .i64 b3) ∧ W.cell? ⟨B2, 4, none⟩ = some (.bool b4) ∧ W.cell? ⟨B2, 5, none⟩ = some (.int .i64 b5) ∧ W.cell? ⟨B2, 6, none⟩ = some (.slice rd rn rc) ∧ Below W1.heap.size W1 W) (by kernel_rfl) ?_
            have hHeld : (fun W => W.cell? ⟨K, 0, none⟩ = some (.int .i64 x.f) ∧ W.cell? ⟨K, 1, none⟩ = some (.int .i64 x.l) ∧ W.cell? ⟨K, 2, none⟩ = some (.int .i64 x.b) ∧ W.cell? ⟨B2, 0, none⟩ = some (.int .i64 b0) ∧ W.cell? ⟨B2, 1, none⟩ = some (.int .i64 b1) ∧ W.cell? ⟨B2, 2, none⟩ = some (.int .i64 b2) ∧ W.cell? ⟨B2, 3, none⟩ = some (.int .i64 b3) ∧ W.cell? ⟨B2, 4, none⟩ = some (.bool b4) ∧ W.cell? ⟨B2, 5, none⟩ = some (.int .i64 b5) ∧ W.cell? ⟨B2, 6, none⟩ = some (.slice rd rn rc) ∧ Below W1.heap.size W1 W) _ := KS.out _ hb1d
            obtain ⟨u0, hu0⟩ : ∃ u, u = W1.drew := ⟨_, rfl⟩
            rw [← hu0] at hHeld hb1d
            rw [← hu0]
            clear hu0
            have HU := Lib.hid hb1d
            clear hb1d
            refine wpAnyZ_take (i := 0) (oi := ⟨_, _, _, _, _, _⟩) (v := ?_) rfl (by kernel_rfl) (by kernel_rfl) (by kernel_rfl) (by kernel_rfl) (by kernel_rfl) (fun _ _ _ h => h) (Or.inl ⟨by rfl, ?_⟩) (by assumption) ?_
            rotate_left
            · intro W hSw
              (try dsimp only at hSw)
              go_simp
              (try with_reducible rfl)
            (try simp only [Act.put, List.setIfInBounds_toArray, List.set_cons_zero, List.set_cons_succ])
            refine wpAnyZ_take (i := 1) (oi := ⟨_, _, _, _, _, _⟩) (v := ?_) rfl (by kernel_rfl) (by kernel_rfl) (by kernel_rfl) (by kernel_rfl) (by kernel_rfl) (fun _ _ _ h => h) (Or.inl ⟨by rfl, ?_⟩) (by assumption) ?_
            rotate_left
            · intro W hSw
              (try dsimp only at hSw)
              go_simp
              (try with_reducible rfl)
            (try simp only [Act.put, List.setIfInBounds_toArray, List.set_cons_zero, List.set_cons_succ])
            refine wpAnyZ_take (i := 2) (oi := ⟨_, _, _, _, _, _⟩) (v := ?_) rfl (by kernel_rfl) (by kernel_rfl) (by kernel_rfl) (by kernel_rfl) (by kernel_rfl) (fun _ _ _ h => h) (Or.inl ⟨by rfl, ?_⟩) (by assumption) ?_
            rotate_left
            · intro W hSw
              (try dsimp only at hSw)
              go_simp
              (try with_reducible rfl)
            (try simp only [Act.put, List.setIfInBounds_toArray, List.set_cons_zero, List.set_cons_succ])
            refine wpAnyZ_take (i := 3) (oi := ⟨_, _, _, _, _, _⟩) (v := ?_) rfl (by kernel_rfl) (by kernel_rfl) (by kernel_rfl) (by kernel_rfl) (by kernel_rfl) (fun _ _ _ h => h) (Or.inl ⟨by rfl, ?_⟩) (by assumption) ?_
            rotate_left
            · intro W hSw
              (try dsimp only at hSw)
              go_simp
              (try with_reducible rfl)
            (try simp only [Act.put, List.setIfInBounds_toArray, List.set_cons_zero, List.set_cons_succ])
            refine wpAnyZ_take (i := 4) (oi := ⟨_, _, _, _, _, _⟩) (v := ?_) rfl (by kernel_rfl) (by kernel_rfl) (by kernel_rfl) (by kernel_rfl) (by kernel_rfl) (fun _ _ _ h => h) (Or.inl ⟨by rfl, ?_⟩) (by assumption) ?_
            rotate_left
            · intro W hSw
              (try dsimp only at hSw)
              go_simp
              (try with_reducible rfl)
            (try simp only [Act.put, List.setIfInBounds_toArray, List.set_cons_zero, List.set_cons_succ])
            refine wpAnyZ_take (i := 5) (oi := ⟨_, _, _, _, _, _⟩) (v := ?_) rfl (by kernel_rfl) (by kernel_rfl) (by kernel_rfl) (by kernel_rfl) (by kernel_rfl) (fun _ _ _ h => h) (Or.inl ⟨by rfl, ?_⟩) (by assumption) ?_
            rotate_left
            · intro W hSw
              (try dsimp only at hSw)
              go_simp
              (try with_reducible rfl)
            (try simp only [Act.put, List.setIfInBounds_toArray, List.set_cons_zero, List.set_cons_succ])
            refine wpAnyZ_take (i := 6) (oi := ⟨_, _, _, _, _, _⟩) (v := undef) rfl (by kernel_rfl) (by kernel_rfl) (by kernel_rfl) (by kernel_rfl) (by kernel_rfl) (fun _ _ _ h => h) (Or.inr ⟨by rfl, rfl⟩) (by assumption) ?_
            (try simp only [Act.put, List.setIfInBounds_toArray, List.set_cons_zero, List.set_cons_succ])
            refine wpAnyZ_take (i := 7) (oi := ⟨_, _, _, _, _, _⟩) (v := undef) rfl (by kernel_rfl) (by kernel_rfl) (by kernel_rfl) (by kernel_rfl) (by kernel_rfl) (fun _ _ _ h => h) (Or.inr ⟨by rfl, rfl⟩) (by assumption) ?_
            (try simp only [Act.put, List.setIfInBounds_toArray, List.set_cons_zero, List.set_cons_succ])
            refine wpAnyZ_take (i := 8) (oi := ⟨_, _, _, _, _, _⟩) (v := undef) rfl (by kernel_rfl) (by kernel_rfl) (by kernel_rfl) (by kernel_rfl) (by kernel_rfl) (fun _ _ _ h => h) (Or.inr ⟨by rfl, rfl⟩) (by assumption) ?_
            (try simp only [Act.put, List.setIfInBounds_toArray, List.set_cons_zero, List.set_cons_succ])
            refine wpAnyZ_take (i := 9) (oi := ⟨_, _, _, _, _, _⟩) (v := undef) rfl (by kernel_rfl) (by kernel_rfl) (by kernel_rfl) (by kernel_rfl) (by kernel_rfl) (fun _ _ _ h => h) (Or.inr ⟨by rfl, rfl⟩) (by assumption) ?_
            (try simp only [Act.put, List.setIfInBounds_toArray, List.set_cons_zero, List.set_cons_succ])
            refine wpAnyZ_take (i := 10) (oi := ⟨_, _, _, _, _, _⟩) (v := undef) rfl (by kernel_rfl) (by kernel_rfl) (by kernel_rfl) (by kernel_rfl) (by kernel_rfl) (fun _ _ _ h => h) (Or.inr ⟨by rfl, rfl⟩) (by assumption) ?_
            (try simp only [Act.put, List.setIfInBounds_toArray, List.set_cons_zero, List.set_cons_succ])
            refine wpAnyZ_take (i := 11) (oi := ⟨_, _, _, _, _, _⟩) (v := undef) rfl (by kernel_rfl) (by kernel_rfl) (by kernel_rfl) (by kernel_rfl) (by kernel_rfl) (fun _ _ _ h => h) (Or.inr ⟨by rfl, rfl⟩) (by assumption) ?_
            (try simp only [Act.put, List.setIfInBounds_toArray, List.set_cons_zero, List.set_cons_succ])
            refine wpAnyZ_take (i := 12) (oi := ⟨_, _, _, _, _, _⟩) (v := undef) rfl (by kernel_rfl) (by kernel_rfl) (by kernel_rfl) (by kernel_rfl) (by kernel_rfl) (fun _ _ _ h => h) (Or.inr ⟨by rfl, rfl⟩) (by assumption) ?_
            (try simp only [Act.put, List.setIfInBounds_toArray, List.set_cons_zero, List.set_cons_succ])
            refine wpAnyZ_take (i := 13) (oi := ⟨_, _, _, _, _, _⟩) (v := undef) rfl (by kernel_rfl) (by kernel_rfl) (by kernel_rfl) (by kernel_rfl) (by kernel_rfl) (fun _ _ _ h => h) (Or.inr ⟨by rfl, rfl⟩) (by assumption) ?_
            (try simp only [Act.put, List.setIfInBounds_toArray, List.set_cons_zero, List.set_cons_succ])
            refine wpAnyZ_take (i := 14) (oi := ⟨_, _, _, _, _, _⟩) (v := undef) rfl (by kernel_rfl) (by kernel_rfl) (by kernel_rfl) (by kernel_rfl) (by kernel_rfl) (fun _ _ _ h => h) (Or.inr ⟨by rfl, rfl⟩) (by assumption) ?_
            (try simp only [Act.put, List.setIfInBounds_toArray, List.set_cons_zero, List.set_cons_succ])
            refine wpAnyZ_take (i := 15) (oi := ⟨_, _, _, _, _, _⟩) (v := ?_) rfl (by kernel_rfl) (by kernel_rfl) (by kernel_rfl) (by kernel_rfl) (by kernel_rfl) (fun _ _ _ h => h) (Or.inl ⟨by rfl, ?_⟩) (by assumption) ?_
            rotate_left
            · intro W hSw
              (try dsimp only at hSw)
              go_simp
              (try with_reducible rfl)
            (try simp only [Act.put, List.setIfInBounds_toArray, List.set_cons_zero, List.set_cons_succ])
            refine wpAnyZ_done (by kernel_rfl) ?_ _
            refine NoPanic.normal ?_
            clear hHeld
            have HBU := Lib.hid (HB1.out.trans (HU.out.mono HB1.out.size))
            go_wp2
            go_roundw
            case rel => exact ⟨j + 1, by go_num, by omega, HNX.out, HBU.out⟩
            case measure => simp [intOf]; omega
        · have hd3 : decide (j < n) = false := decide_eq_false hlt
          have hln := HL0.out.length
          have HEND : Hid (r = none) := by show r = none; rw [← HD.out, List.drop_of_length_le (by omega), dup_none]
          clear hln
          go_wp2
          go_ret2
          exact gives_dup_none HEND.out (HB0.out.trans (HB.out.mono HB0.out.size))
    · have hd2 : (b5 == 0) = false := beq_false_of_ne hm
      have HEND : Hid (r = none) := by show r = none; rw [← HR.out, if_neg (fun h => hm h.2)]
      clear HR
      go_wp2
      go_ret2
      exact gives_dup_none HEND.out HB0.out
  · have hd1 : (b2 == ep) = false := beq_false_of_ne he
    have HEND : Hid (r = none) := by show r = none; rw [← HR.out, if_neg (fun h => he h.1)]
    clear HR
    go_wp2
    go_ret2
    exact gives_dup_none HEND.out HB0.out
end Go.Proofs.YtgohekjkbgfeeaaGreat
namespace Go.Proofs.YtgohekjkbgfeeaaGreat
open Go.RowKit
open Go.SeqMath
open Go.ProdMath
open Go.BatMath hiding AllB getD_lt take_all
set_option linter.unusedVariables false

def dupC (r : Option Int) (last : List Tr) (op s : Int) (t : Bool) : Int × Int := match r with
  | some n => (n, 0)
  | none => if last ≠ [] ∧ followsB (lastSeq last) s = false then (-1, 15) else if 0 ≤ op ∧ t = false then (-1, 16) else (-1, 0)
def GivesPair (w : World) (c : Int × Int) (e : Ending) (w' : World) : Prop := e = .returned (.tuple #[.int .i64 c.1, .int .i64 c.2]) ∧ Below w.heap.size w w'
theorem gives_pair {w w' : World} {c : Int × Int} {a b : Int} (h : c = (a, b)) (hb : Below w.heap.size w w') : GivesPair w c (.returned (.tuple #[.int .i64 a, .int .i64 b])) w' := ⟨by rw [h], hb⟩
set_option maxRecDepth 100000 in
set_option maxHeartbeats 4000000 in
theorem refCheck_any (w : World) (id ep op : Int) (last : List Tr) (ad : Option Addr) (n cap : Nat) (hl : RowAt trK w ad n cap last) (hn : n ≤ 100000000000) (known : Bool) (b0 b1 b2 b3 : Int) (b4 : Bool) (b5 : Int) (recs : List Rc) (rd : Option Addr) (rn rc : Nat) (hrl : recs.length = rn) (hrn : rn ≤ 140737488355328) (c : Int × Int) (hc : checkD ⟨id, ep, last, op⟩ known ⟨b0, b1, b2, b3, b4, b5, recs⟩ = c) :
    Calls Tryz.prog 117 #[.agg #[.int .i64 id, .int .i64 ep, .slice ad n cap, .int .i64 op], .bool known, .agg #[.int .i64 b0, .int .i64 b1, .int .i64 b2, .int .i64 b3, .bool b4, .int .i64 b5, .slice rd rn rc]] w (GivesPair w c) := by
  obtain ⟨W0, hW0⟩ : ∃ W0, W0 = ((w.alloc (.cells #[.int .i64 id, .int .i64 ep, .slice ad n cap, .int .i64 op] 78)).alloc (.cells #[.int .i64 b0, .int .i64 b1, .int .i64 b2, .int .i64 b3, .bool b4, .int .i64 b5, .slice rd rn rc] 56)) := ⟨_, rfl⟩
  have HB0 : Hid (Below w.heap.size w W0) := by show Below _ _ _; rw [hW0]; exact ((Below.refl _ _).alloc (Nat.le_refl _) _).alloc (by simp) _
  have HP0 : Hid (PBox W0 w.heap.size id ep (.slice ad n cap) op) := by
    show PBox _ _ _ _ _ _
    rw [hW0]
    exact (pbox_new w id ep (.slice ad n cap) op).keep ((Below.refl _ _).alloc (Nat.le_refl _) _) (by simp)
  have HX0 : Hid (BoxAt W0 (w.heap.size + 1) b0 b1 b2 b3 b4 b5 (.slice rd rn rc)) := by
    show BoxAt _ _ _ _ _ _ _ _ _
    rw [hW0]
    have := boxAt_new (w.alloc (.cells #[.int .i64 id, .int .i64 ep, .slice ad n cap, .int .i64 op] 78)) b0 b1 b2 b3 b4 b5 (.slice rd rn rc)
    simpa using this
  have HL0 := Lib.hid (hl.keep HB0.out)
  have HC : Hid (checkD ⟨id, ep, last, op⟩ known ⟨b0, b1, b2, b3, b4, b5, recs⟩ = c) := hc
  have HW0 := Lib.hid hW0
  have HRL := Lib.hid hrl
  clear hl hc hW0 hrl
  obtain ⟨B1, hB1⟩ : ∃ B, B = w.heap.size := ⟨_, rfl⟩
  obtain ⟨B2, hB2⟩ : ∃ B, B = w.heap.size + 1 := ⟨_, rfl⟩
  rw [← hB1] at HP0
  rw [← hB2] at HX0
  go_enter Tryz.func117, Tryz.ntmps117
  go_upto_region 1 with fail
  rw [← HW0.out, ← hB2, ← hB1]
  clear HW0 hB1 hB2
  have q0 := HP0.out.c0
  have q1 := HP0.out.c1
  have q2 := HP0.out.c2
  have q3 := HP0.out.c3
  have p0 := HX0.out.c0
  have p1 := HX0.out.c1
  have p2 := HX0.out.c2
  have p3 := HX0.out.c3
  have p4 := HX0.out.c4
  have p5 := HX0.out.c5
  have p6 := HX0.out.c6
  by_cases hm : b5 = 0
  · have hd1 : (b5 == 0) = true := by rw [hm]; rfl
    cases hkn : known
    · have HEND : Hid (c = (-1, 0)) := by show c = _; rw [← HC.out]; simp [checkD, hm, hkn]
      clear HC
      go_wp2
      go_ret2
      exact gives_pair HEND.out HB0.out
    · by_cases h1 : b2 < ep
      · have hd2 : decide (b2 < ep) = true := decide_eq_true h1
        have HEND : Hid (c = (-1, 14)) := by show c = _; rw [← HC.out]; simp [checkD, hm, hkn, h1]
        clear HC
        go_wp2
        go_ret2
        exact gives_pair HEND.out HB0.out
      · have hd2 : decide (b2 < ep) = false := decide_eq_false h1
        by_cases h2 : ep < b2
        · have hd3 : decide (ep < b2) = true := decide_eq_true h2
          by_cases h3 : 0 ≤ op
          · have hd4 : decide (0 ≤ op) = true := decide_eq_true h3
            have HEND : Hid (c = (-1, 16)) := by show c = _; rw [← HC.out]; simp [checkD, hm, hkn, h1, h2, h3]
            clear HC
            go_wp2
            go_ret2
            exact gives_pair HEND.out HB0.out
          · have hd4 : decide (0 ≤ op) = false := decide_eq_false h3
            by_cases h4 : b3 = 0
            · have hd5 : (b3 == 0) = true := by rw [h4]; rfl
              have HEND : Hid (c = (-1, 0)) := by show c = _; rw [← HC.out]; simp [checkD, hm, hkn, h1, h2, h3, h4]
              clear HC
              go_wp2
              go_ret2
              exact gives_pair HEND.out HB0.out
            · have hd5 : (b3 == 0) = false := beq_false_of_ne h4
              have HEND : Hid (c = (-1, 15)) := by show c = _; rw [← HC.out]; simp [checkD, hm, hkn, h1, h2, h3, h4]
              clear HC
              go_wp2
              go_ret2
              exact gives_pair HEND.out HB0.out
        · have hd3 : decide (ep < b2) = false := decide_eq_false h2
          have heq : b2 = ep := by omega
          obtain ⟨r, hr⟩ : ∃ r, dupL last b3 rn = r := ⟨_, rfl⟩
          have HRR : Hid ((if b2 = ep ∧ b5 = 0 then dupL last b3 rn else none) = r) := by show _ = _; rw [if_pos ⟨heq, hm⟩]; exact hr
          have HCC : Hid (c = dupC r last op b3 b4) := by
            show c = _
            rw [← HC.out, ← hr, ← HRL.out]
            simp [checkD, hm, hkn, h1, h2, dupC]
            cases dupL last b3 recs.length <;> rfl
          clear HC hr heq h1 h2 hm
          go_wp2_with fail
          refine (refDup_any W0 id ep op last ad n cap HL0.out hn b0 b1 b2 b3 b4 b5 rd rn rc hrn r HRR.out).mono ?_
          rintro e w1 ⟨rfl, hb1⟩
          have HB1 := Lib.hid hb1
          have HP1 := Lib.hid (HP0.out.on hb1)
          have HX1 := Lib.hid (HX0.out.on hb1)
          have HL1 := Lib.hid (HL0.out.keep hb1)
          have HBB := Lib.hid (HB0.out.trans (hb1.mono HB0.out.size))
          clear hb1 HRR q0 q1 q2 q3 p0 p1 p2 p3 p4 p5 p6
          cases r with
          | some v =>
            have HEND : Hid (c = (v, 0)) := HCC.out
            clear HCC
            simp only [Option.getD_some, Option.isSome_some]
            go_wp2
            go_ret2
            exact gives_pair HEND.out HBB.out
          | none =>
            simp only [Option.getD_none, Option.isSome_none]
            have HCD : Hid (c = (if last ≠ [] ∧ followsB (lastSeq last) b3 = false then (-1, 15) else if 0 ≤ op ∧ b4 = false then (-1, 16) else (-1, 0))) := HCC.out
            clear HCC
            have q0 := HP1.out.c0
            have q1 := HP1.out.c1
            have q2 := HP1.out.c2
            have q3 := HP1.out.c3
            have p0 := HX1.out.c0
            have p1 := HX1.out.c1
            have p2 := HX1.out.c2
            have p3 := HX1.out.c3
            have p4 := HX1.out.c4
            have p5 := HX1.out.c5
            have p6 := HX1.out.c6
            by_cases h0 : n = 0
            · subst h0
              have hln := HL1.out.length
              have HCE : Hid (c = (if 0 ≤ op ∧ b4 = false then (-1, 16) else (-1, 0))) := by
                show c = _
                rw [HCD.out, if_neg (fun h => h.1 (List.eq_nil_of_length_eq_zero hln))]
              clear hln HCD
              go_upto_region 23 with fail
              have hb1d : Below w1.heap.size w1 w1.drew := (Below.refl _ w1).drew
              refine wp_region_noPanic ?_
              refine wp_region_z [] (fun (W : World) => True) (by kernel_rfl) ?_
              have hHeld : (fun (W : World) => True) w1.drew := trivial
              obtain ⟨u0, hu0⟩ : ∃ u, u = w1.drew := ⟨_, rfl⟩
              rw [← hu0] at hb1d
              rw [← hu0]
              clear hu0
              have HU := Lib.hid hb1d
              clear hb1d
              refine wpAnyZ_take (i := 0) (oi := ⟨_, _, _, _, _, _⟩) (v := ?_) rfl (by kernel_rfl) (by kernel_rfl) (by kernel_rfl) (by kernel_rfl) (by kernel_rfl) (fun _ _ _ h => h) (Or.inl ⟨by rfl, ?_⟩) (by assumption) ?_
              rotate_left
              · intro W hSw
                (try dsimp only at hSw)
                go_simp
                (try with_reducible rfl)
              (try simp only [Act.put, List.setIfInBounds_toArray, List.set_cons_zero, List.set_cons_succ])
              refine wpAnyZ_take (i := 1) (oi := ⟨_, _, _, _, _, _⟩) (v := ?_) rfl (by kernel_rfl) (by kernel_rfl) (by kernel_rfl) (by kernel_rfl) (by kernel_rfl) (fun _ _ _ h => h) (Or.inl ⟨by rfl, ?_⟩) (by assumption) ?_
              rotate_left
              · intro W hSw
                (try dsimp only at hSw)
                go_simp
                (try with_reducible rfl)
              (try simp only [Act.put, List.setIfInBounds_toArray, List.set_cons_zero, List.set_cons_succ])
              refine wpAnyZ_take (i := 2) (oi := ⟨_, _, _, _, _, _⟩) (v := ?_) rfl (by kernel_rfl) (by kernel_rfl) (by kernel_rfl) (by kernel_rfl) (by kernel_rfl) (fun _ _ _ h => h) (Or.inl ⟨by rfl, ?_⟩) (by assumption) ?_
              rotate_left
              · intro W hSw
                (try dsimp only at hSw)
                go_simp
                (try with_reducible rfl)
              (try simp only [Act.put, List.setIfInBounds_toArray, List.set_cons_zero, List.set_cons_succ])
              refine wpAnyZ_take (i := 3) (oi := ⟨_, _, _, _, _, _⟩) (v := undef) rfl (by kernel_rfl) (by kernel_rfl) (by kernel_rfl) (by kernel_rfl) (by kernel_rfl) (fun _ _ _ h => h) (Or.inr ⟨by rfl, rfl⟩) (by assumption) ?_
              (try simp only [Act.put, List.setIfInBounds_toArray, List.set_cons_zero, List.set_cons_succ])
              refine wpAnyZ_take (i := 4) (oi := ⟨_, _, _, _, _, _⟩) (v := undef) rfl (by kernel_rfl) (by kernel_rfl) (by kernel_rfl) (by kernel_rfl) (by kernel_rfl) (fun _ _ _ h => h) (Or.inr ⟨by rfl, rfl⟩) (by assumption) ?_
              (try simp only [Act.put, List.setIfInBounds_toArray, List.set_cons_zero, List.set_cons_succ])
              refine wpAnyZ_take (i := 5) (oi := ⟨_, _, _, _, _, _⟩) (v := undef) rfl (by kernel_rfl) (by kernel_rfl) (by kernel_rfl) (by kernel_rfl) (by kernel_rfl) (fun _ _ _ h => h) (Or.inr ⟨by rfl, rfl⟩) (by assumption) ?_
              (try simp only [Act.put, List.setIfInBounds_toArray, List.set_cons_zero, List.set_cons_succ])
              refine wpAnyZ_take (i := 6) (oi := ⟨_, _, _, _, _, _⟩) (v := undef) rfl (by kernel_rfl) (by kernel_rfl) (by kernel_rfl) (by kernel_rfl) (by kernel_rfl) (fun _ _ _ h => h) (Or.inr ⟨by rfl, rfl⟩) (by assumption) ?_
              (try simp only [Act.put, List.setIfInBounds_toArray, List.set_cons_zero, List.set_cons_succ])
              refine wpAnyZ_take (i := 7) (oi := ⟨_, _, _, _, _, _⟩) (v := undef) rfl (by kernel_rfl) (by kernel_rfl) (by kernel_rfl) (by kernel_rfl) (by kernel_rfl) (fun _ _ _ h => h) (Or.inr ⟨by rfl, rfl⟩) (by assumption) ?_
              (try simp only [Act.put, List.setIfInBounds_toArray, List.set_cons_zero, List.set_cons_succ])
              refine wpAnyZ_take (i := 8) (oi := ⟨_, _, _, _, _, _⟩) (v := undef) rfl (by kernel_rfl) (by kernel_rfl) (by kernel_rfl) (by kernel_rfl) (by kernel_rfl) (fun _ _ _ h => h) (Or.inr ⟨by rfl, rfl⟩) (by assumption) ?_
              (try simp only [Act.put, List.setIfInBounds_toArray, List.set_cons_zero, List.set_cons_succ])
              refine wpAnyZ_take (i := 9) (oi := ⟨_, _, _, _, _, _⟩) (v := undef) rfl (by kernel_rfl) (by kernel_rfl) (by kernel_rfl) (by kernel_rfl) (by kernel_rfl) (fun _ _ _ h => h) (Or.inr ⟨by rfl, rfl⟩) (by assumption) ?_
              (try simp only [Act.put, List.setIfInBounds_toArray, List.set_cons_zero, List.set_cons_succ])
              refine wpAnyZ_take (i := 10) (oi := ⟨_, _, _, _, _, _⟩) (v := undef) rfl (by kernel_rfl) (by kernel_rfl) (by kernel_rfl) (by kernel_rfl) (by kernel_rfl) (fun _ _ _ h => h) (Or.inr ⟨by rfl, rfl⟩) (by assumption) ?_
              (try simp only [Act.put, List.setIfInBounds_toArray, List.set_cons_zero, List.set_cons_succ])
              refine wpAnyZ_take (i := 11) (oi := ⟨_, _, _, _, _, _⟩) (v := undef) rfl (by kernel_rfl) (by kernel_rfl) (by kernel_rfl) (by kernel_rfl) (by kernel_rfl) (fun _ _ _ h => h) (Or.inr ⟨by rfl, rfl⟩) (by assumption) ?_
              (try simp only [Act.put, List.setIfInBounds_toArray, List.set_cons_zero, List.set_cons_succ])
              refine wpAnyZ_take (i := 12) (oi := ⟨_, _, _, _, _, _⟩) (v := undef) rfl (by kernel_rfl) (by kernel_rfl) (by kernel_rfl) (by kernel_rfl) (by kernel_rfl) (fun _ _ _ h => h) (Or.inr ⟨by rfl, rfl⟩) (by assumption) ?_
              (try simp only [Act.put, List.setIfInBounds_toArray, List.set_cons_zero, List.set_cons_succ])
              refine wpAnyZ_take (i := 13) (oi := ⟨_, _, _, _, _, _⟩) (v := undef) rfl (by kernel_rfl) (by kernel_rfl) (by kernel_rfl) (by kernel_rfl) (by kernel_rfl) (fun _ _ _ h => h) (Or.inr ⟨by rfl, rfl⟩) (by assumption) ?_
              (try simp only [Act.put, List.setIfInBounds_toArray, List.set_cons_zero, List.set_cons_succ])
              refine wpAnyZ_take (i := 14) (oi := ⟨_, _, _, _, _, _⟩) (v := ?_) rfl (by kernel_rfl) (by kernel_rfl) (by kernel_rfl) (by kernel_rfl) (by kernel_rfl) (fun _ _ _ h => h) (Or.inl ⟨by rfl, ?_⟩) (by assumption) ?_
              rotate_left
              · intro W hSw
                (try dsimp only at hSw)
                go_simp
                (try with_reducible rfl)
              (try simp only [Act.put, List.setIfInBounds_toArray, List.set_cons_zero, List.set_cons_succ])
              refine wpAnyZ_done (by kernel_rfl) ?_ _
              refine NoPanic.normal ?_
              clear hHeld
              have hP := HP1.out.on HU.out
              have hX := HX1.out.on HU.out
              have HBU := Lib.hid (HBB.out.trans (HU.out.mono HBB.out.size))
              clear q0 q1 q2 q3 p0 p1 p2 p3 p4 p5 p6
              have q3 := hP.c3
              have p4 := hX.c4
              clear hP hX
              by_cases h3 : 0 ≤ op
              · have hd4 : decide (0 ≤ op) = true := decide_eq_true h3
                cases hb4 : b4
                · have HEND : Hid (c = (-1, 16)) := by show c = _; rw [HCE.out, if_pos ⟨h3, hb4⟩]
                  clear HCE
                  rw [hb4] at p4
                  go_wp2
                  go_ret2
                  exact gives_pair HEND.out HBU.out
                · have HEND : Hid (c = (-1, 0)) := by show c = _; rw [HCE.out, if_neg (fun h => by rw [hb4] at h; cases h.2)]
                  clear HCE
                  rw [hb4] at p4
                  go_wp2
                  go_ret2
                  exact gives_pair HEND.out HBU.out
              · have hd4 : decide (0 ≤ op) = false := decide_eq_false h3
                have HEND : Hid (c = (-1, 0)) := by show c = _; rw [HCE.out, if_neg (fun h => h3 h.1)]
                clear HCE
                go_wp2
                go_ret2
                exact gives_pair HEND.out HBU.out
            · obtain ⟨bk, off, x, rfl, hbk, hx, c0, c1, c2⟩ := tr_get HL1.out (i := n - 1) (by omega)
              have hlast : lastSeq last = x.l := by
                have hln := HL1.out.length
                unfold lastSeq
                rw [List.getLast?_eq_getElem?, hln, hx]
              have hne : last ≠ [] := fun h => by rw [h] at hx; cases hx
              obtain ⟨fo, hfo⟩ : ∃ fo, followsB x.l b3 = fo := ⟨_, rfl⟩
              have HFO := Lib.hid hfo
              have HCF : Hid (c = (if fo = false then (-1, 15) else if 0 ≤ op ∧ b4 = false then (-1, 16) else (-1, 0))) := by
                show c = _
                rw [HCD.out, hlast, hfo]
                simp [hne]
              clear HCD hlast hne hfo hx hbk
              have hn0 : decide ((0 : Int) < (n : Int)) = true := decide_eq_true (by omega)
              have hn00 : decide (0 < n) = true := decide_eq_true (by omega)
              have hnp : 0 < n := by omega
              have hi1 : (1 : Int) ≤ (n : Int) := by omega
              have hi2 : (n : Int) - 1 < (n : Int) := by omega
              have hi3 : ((n : Int) - 1).toNat = n - 1 := by omega
              have hi4 : IntKind.i64.wrap ((n : Int) - 1) = (n : Int) - 1 := IntWalk.i64_in _ (by omega)
              have KS : Hid (∀ W, Below w1.heap.size w1 W → (fun (W : World) => W.cell? ⟨B1, 0, none⟩ = some (.int .i64 id) ∧ W.cell? ⟨B1, 1, none⟩ = some (.int .i64 ep) ∧ W.cell? ⟨B1, 2, none⟩ = some (.slice (some ⟨bk, off, none⟩) n cap) ∧ W.cell? ⟨B1, 3, none⟩ = some (.int .i64 op) ∧ W.cell? ⟨B2, 0, none⟩ = some (.int .i64 b0) ∧ W.cell? ⟨B2, 1, none⟩ = some (.int .i64 b1) ∧ W.cell? ⟨B2, 2, none⟩ = some (.int .i64 b2) ∧ W.cell? ⟨B2, 3, none⟩ = some (.int .i64 b3) ∧ W.cell? ⟨B2, 4, none⟩ = some (.bool b4) ∧ W.cell? ⟨B2, 5, none⟩ = some (.int .i64 b5) ∧ W.cell? ⟨B2, 6, none⟩ = some (.slice rd rn rc) ∧ W.cell? ⟨bk, off + (n - 1) * 3 + 1, none⟩ = some (.int .i64 x.l)) W) := by
                intro W hW
                have hP := HP1.out.on hW
                have hX := HX1.out.on hW
                obtain ⟨bk', off', x', e', _, hx', _, c1', _⟩ := tr_get (HL1.out.keep hW) (i := n - 1) (by omega)
                cases e'
                refine ⟨hP.c0, hP.c1, hP.c2, hP.c3, hX.c0, hX.c1, hX.c2, hX.c3, hX.c4, hX.c5, hX.c6, ?_⟩
                rw [hW.cell (p := ⟨bk, off + (n - 1) * 3 + 1, none⟩) (World.block_lt_of_cell? _ _ c1)]
                exact c1
              have hb1d : Below w1.heap.size w1 w1.drew := (Below.refl _ w1).drew
              go_upto_region 23 with fail
              refine wp_region_noPanic ?_
              refine wp_region_z [] (fun (W : World) => W.cell? ⟨B1, 0, none⟩ = some (.int .i64 id) ∧ W.cell? ⟨B1, 1, none⟩ = some (.int .i64 ep) ∧ W.cell? ⟨B1, 2, none⟩ = some (.slice (some ⟨bk, off, none⟩) n cap) ∧ W.cell? ⟨B1, 3, none⟩ = some (.int .i64 op) ∧ W.cell? ⟨B2, 0, none⟩ = some (.int .i64 b0) ∧ W.cell? ⟨B2, 1, none⟩ = some (.int .i64 b1) ∧ W.cell? ⟨B2, 2, none⟩ = some (.int .i64 b2) ∧ W.cell? ⟨B2, 3, none⟩ = some (.int .i64 b3) ∧ W.cell? ⟨B2, 4, none⟩ = some (.bool b4) ∧ W.cell? ⟨B2, 5, none⟩ = some (.int .i64 b5) ∧ W.cell? ⟨B2, 6, none⟩ = some (.slice rd rn rc) ∧ W.cell? ⟨bk, off + (n - 1) * 3 + 1, none⟩ = some (.int .i64 x.l)) (by kernel_rfl) ?_
              have hHeld : (fun (W : World) => W.cell? ⟨B1, 0, none⟩ = some (.int .i64 id) ∧ W.cell? ⟨B1, 1, none⟩ = some (.int .i64 ep) ∧ W.cell? ⟨B1, 2, none⟩ = some (.slice (some ⟨bk, off, none⟩) n cap) ∧ W.cell? ⟨B1, 3, none⟩ = some (.int .i64 op) ∧ W.cell? ⟨B2, 0, none⟩ = some (.int .i64 b0) ∧ W.cell? ⟨B2, 1, none⟩ = some (.int .i64 b1) ∧ W.cell? ⟨B2, 2, none⟩ = some (.int .i64 b2) ∧ W.cell? ⟨B2, 3, none⟩ = some (.int .i64 b3) ∧ W.cell? ⟨B2, 4, none⟩ = some (.bool b4) ∧ W.cell? ⟨B2, 5, none⟩ = some (.int .i64 b5) ∧ W.cell? ⟨B2, 6, none⟩ = some (.slice rd rn rc) ∧ W.cell? ⟨bk, off + (n - 1) * 3 + 1, none⟩ = some (.int .i64 x.l)) _ := KS.out _ hb1d
              obtain ⟨u0, hu0⟩ : ∃ u, u = w1.drew := ⟨_, rfl⟩
              rw [← hu0] at hHeld hb1d
              rw [← hu0]
              clear hu0
              have HU := Lib.hid hb1d
              clear hb1d
              refine wpAnyZ_take (i := 0) (oi := ⟨_, _, _, _, _, _⟩) (v := ?_) rfl (by kernel_rfl) (by kernel_rfl) (by kernel_rfl) (by kernel_rfl) (by kernel_rfl) (fun _ _ _ h => h) (Or.inl ⟨by rfl, ?_⟩) (by assumption) ?_
              rotate_left
              · intro W hSw
                (try dsimp only at hSw)
                go_simp
                (try with_reducible rfl)
              (try simp only [Act.put, List.setIfInBounds_toArray, List.set_cons_zero, List.set_cons_succ])
              refine wpAnyZ_take (i := 1) (oi := ⟨_, _, _, _, _, _⟩) (v := ?_) rfl (by kernel_rfl) (by kernel_rfl) (by kernel_rfl) (by kernel_rfl) (by kernel_rfl) (fun _ _ _ h => h) (Or.inl ⟨by rfl, ?_⟩) (by assumption) ?_
              rotate_left
              · intro W hSw
                (try dsimp only at hSw)
                go_simp
                (try with_reducible rfl)
              (try simp only [Act.put, List.setIfInBounds_toArray, List.set_cons_zero, List.set_cons_succ])
              refine wpAnyZ_take (i := 2) (oi := ⟨_, _, _, _, _, _⟩) (v := ?_) rfl (by kernel_rfl) (by kernel_rfl) (by kernel_rfl) (by kernel_rfl) (by kernel_rfl) (fun _ _ _ h => h) (Or.inl ⟨by rfl, ?_⟩) (by assumption) ?_
              rotate_left
              · intro W hSw
                (try dsimp only at hSw)
                go_simp
                (try with_reducible rfl)
              (try simp only [Act.put, List.setIfInBounds_toArray, List.set_cons_zero, List.set_cons_succ])
              refine wpAnyZ_take (i := 3) (oi := ⟨_, _, _, _, _, _⟩) (v := ?_) rfl (by kernel_rfl) (by kernel_rfl) (by kernel_rfl) (by kernel_rfl) (by kernel_rfl) (fun _ _ _ h => h) (Or.inl ⟨by rfl, ?_⟩) (by assumption) ?_
              rotate_left
              · intro W hSw
                (try dsimp only at hSw)
                go_simp
                (try with_reducible rfl)
              (try simp only [Act.put, List.setIfInBounds_toArray, List.set_cons_zero, List.set_cons_succ])
              refine wpAnyZ_take (i := 4) (oi := ⟨_, _, _, _, _, _⟩) (v := ?_) rfl (by kernel_rfl) (by kernel_rfl) (by kernel_rfl) (by kernel_rfl) (by kernel_rfl) (fun _ _ _ h => h) (Or.inl ⟨by rfl, ?_⟩) (by assumption) ?_
              rotate_left
              · intro W hSw
                (try dsimp only at hSw)
                go_simp
                (try with_reducible rfl)
              (try simp only [Act.put, List.setIfInBounds_toArray, List.set_cons_zero, List.set_cons_succ])
              refine wpAnyZ_take (i := 5) (oi := ⟨_, _, _, _, _, _⟩) (v := ?_) rfl (by kernel_rfl) (by kernel_rfl) (by kernel_rfl) (by kernel_rfl) (by kernel_rfl) (fun _ _ _ h => h) (Or.inl ⟨by rfl, ?_⟩) (by assumption) ?_
              rotate_left
              · intro W hSw
                (try dsimp only at hSw)
                go_simp
                (try with_reducible rfl)
              (try simp only [Act.put, List.setIfInBounds_toArray, List.set_cons_zero, List.set_cons_succ])
              refine wpAnyZ_take (i := 6) (oi := ⟨_, _, _, _, _, _⟩) (v := ?_) rfl (by kernel_rfl) (by kernel_rfl) (by kernel_rfl) (by kernel_rfl) (by kernel_rfl) (fun _ _ _ h => h) (Or.inl ⟨by rfl, ?_⟩) (by assumption) ?_
              rotate_left
              · intro W hSw
                (try dsimp only at hSw)
                go_simp
                (try with_reducible rfl)
              (try simp only [Act.put, List.setIfInBounds_toArray, List.set_cons_zero, List.set_cons_succ])
              refine wpAnyZ_take (i := 7) (oi := ⟨_, _, _, _, _, _⟩) (v := ?_) rfl (by kernel_rfl) (by kernel_rfl) (by kernel_rfl) (by kernel_rfl) (by kernel_rfl) (fun _ _ _ h => h) (Or.inl ⟨by rfl, ?_⟩) (by assumption) ?_
              rotate_left
              · intro W hSw
                (try dsimp only at hSw)
                go_simp
                (try with_reducible rfl)
              (try simp only [Act.put, List.setIfInBounds_toArray, List.set_cons_zero, List.set_cons_succ])
              refine wpAnyZ_take (i := 8) (oi := ⟨_, _, _, _, _, _⟩) (v := ?_) rfl (by kernel_rfl) (by kernel_rfl) (by kernel_rfl) (by kernel_rfl) (by kernel_rfl) (fun _ _ _ h => h) (Or.inl ⟨by rfl, ?_⟩) (by assumption) ?_
              rotate_left
              · intro W hSw
                (try dsimp only at hSw)
                go_simp
                (try with_reducible rfl)
              (try simp only [Act.put, List.setIfInBounds_toArray, List.set_cons_zero, List.set_cons_succ])
              refine wpAnyZ_take (i := 9) (oi := ⟨_, _, _, _, _, _⟩) (v := ?_) rfl (by kernel_rfl) (by kernel_rfl) (by kernel_rfl) (by kernel_rfl) (by kernel_rfl) (fun _ _ _ h => h) (Or.inl ⟨by rfl, ?_⟩) (by assumption) ?_
              rotate_left
              · intro W hSw
                (try dsimp only at hSw)
                go_simp
                (try with_reducible rfl)
              (try simp only [Act.put, List.setIfInBounds_toArray, List.set_cons_zero, List.set_cons_succ])
              refine wpAnyZ_take (i := 10) (oi := ⟨_, _, _, _, _, _⟩) (v := ?_) rfl (by kernel_rfl) (by kernel_rfl) (by kernel_rfl) (by kernel_rfl) (by kernel_rfl) (fun _ _ _ h => h) (Or.inl ⟨by rfl, ?_⟩) (by assumption) ?_
              rotate_left
              · intro W hSw
                (try dsimp only at hSw)
                go_simp
                (try with_reducible rfl)
              (try simp only [Act.put, List.setIfInBounds_toArray, List.set_cons_zero, List.set_cons_succ])
              refine wpAnyZ_take (i := 11) (oi := ⟨_, _, _, _, _, _⟩) (v := ?_) rfl (by kernel_rfl) (by kernel_rfl) (by kernel_rfl) (by kernel_rfl) (by kernel_rfl) (fun _ _ _ h => h) (Or.inl ⟨by rfl, ?_⟩) (by assumption) ?_
              rotate_left
              · intro W hSw
                (try dsimp only at hSw)
                go_simp
                (try with_reducible rfl)
              (try simp only [Act.put, List.setIfInBounds_toArray, List.set_cons_zero, List.set_cons_succ])
              refine wpAnyZ_ready (rs := [12]) (by kernel_rfl) (by simp) ?_
              refine AllReadyZ.cons (o := ⟨_, _, _, _, _, _⟩) rfl (fun C hC => ?_) AllReadyZ.nil
              go_simp
              refine (refFollows_any x.l b3 u0 fo HFO.out).mono ?_
              rintro e u1 ⟨rfl, rfl⟩
              go_wp2_with fail
              have hHeld : (fun (W : World) => W.cell? ⟨B1, 0, none⟩ = some (.int .i64 id) ∧ W.cell? ⟨B1, 1, none⟩ = some (.int .i64 ep) ∧ W.cell? ⟨B1, 2, none⟩ = some (.slice (some ⟨bk, off, none⟩) n cap) ∧ W.cell? ⟨B1, 3, none⟩ = some (.int .i64 op) ∧ W.cell? ⟨B2, 0, none⟩ = some (.int .i64 b0) ∧ W.cell? ⟨B2, 1, none⟩ = some (.int .i64 b1) ∧ W.cell? ⟨B2, 2, none⟩ = some (.int .i64 b2) ∧ W.cell? ⟨B2, 3, none⟩ = some (.int .i64 b3) ∧ W.cell? ⟨B2, 4, none⟩ = some (.bool b4) ∧ W.cell? ⟨B2, 5, none⟩ = some (.int .i64 b5) ∧ W.cell? ⟨B2, 6, none⟩ = some (.slice rd rn rc) ∧ W.cell? ⟨bk, off + (n - 1) * 3 + 1, none⟩ = some (.int .i64 x.l)) _ := hHeld
              refine hC.out _ _ (fun _ => hHeld) (fun _ => ?_)
              clear hC C
              (try simp only [Act.put, List.setIfInBounds_toArray, List.set_cons_zero, List.set_cons_succ])
              refine wpAnyZ_take (i := 13) (oi := ⟨_, _, _, _, _, _⟩) (v := ?_) rfl (by kernel_rfl) (by kernel_rfl) (by kernel_rfl) (by kernel_rfl) (by kernel_rfl) (fun _ _ _ h => h) (Or.inl ⟨by rfl, ?_⟩) (by assumption) ?_
              rotate_left
              · intro W hSw
                (try dsimp only at hSw)
                go_simp
                (try with_reducible rfl)
              (try simp only [Act.put, List.setIfInBounds_toArray, List.set_cons_zero, List.set_cons_succ])
              refine wpAnyZ_take (i := 14) (oi := ⟨_, _, _, _, _, _⟩) (v := ?_) rfl (by kernel_rfl) (by kernel_rfl) (by kernel_rfl) (by kernel_rfl) (by kernel_rfl) (fun _ _ _ h => h) (Or.inl ⟨by rfl, ?_⟩) (by assumption) ?_
              rotate_left
              · intro W hSw
                (try dsimp only at hSw)
                go_simp
                (try with_reducible rfl)
              (try simp only [Act.put, List.setIfInBounds_toArray, List.set_cons_zero, List.set_cons_succ])
              refine wpAnyZ_done (by kernel_rfl) ?_ _
              refine NoPanic.normal ?_
              clear hHeld
              have hP := HP1.out.on HU.out
              have hX := HX1.out.on HU.out
              have HBU := Lib.hid (HBB.out.trans (HU.out.mono HBB.out.size))
              have q3 := hP.c3
              have p4 := hX.c4
              clear hP hX KS c0 c1 c2
              cases fo with
              | false =>
                have HEND : Hid (c = (-1, 15)) := HCF.out
                clear HCF
                go_wp2
                go_ret2
                exact gives_pair HEND.out HBU.out
              | true =>
                have HCE : Hid (c = (if 0 ≤ op ∧ b4 = false then (-1, 16) else (-1, 0))) := HCF.out
                clear HCF
                by_cases h3 : 0 ≤ op
                · have hd4 : decide (0 ≤ op) = true := decide_eq_true h3
                  cases hb4 : b4
                  · have HEND : Hid (c = (-1, 16)) := by show c = _; rw [HCE.out, if_pos ⟨h3, hb4⟩]
                    clear HCE
                    rw [hb4] at p4
                    go_wp2
                    go_ret2
                    exact gives_pair HEND.out HBU.out
                  · have HEND : Hid (c = (-1, 0)) := by show c = _; rw [HCE.out, if_neg (fun h => by rw [hb4] at h; cases h.2)]
                    clear HCE
                    rw [hb4] at p4
                    go_wp2
                    go_ret2
                    exact gives_pair HEND.out HBU.out
                · have hd4 : decide (0 ≤ op) = false := decide_eq_false h3
                  have HEND : Hid (c = (-1, 0)) := by show c = _; rw [HCE.out, if_neg (fun h => h3 h.1)]
                  clear HCE
                  go_wp2
                  go_ret2
                  exact gives_pair HEND.out HBU.out
  · have hd1 : (b5 == 0) = false := beq_false_of_ne hm
    cases hkn : known
    · have HEND : Hid (c = (-1, 16)) := by show c = _; rw [← HC.out]; simp [checkD, hm, hkn]
      clear HC
      go_wp2
      go_ret2
      exact gives_pair HEND.out HB0.out
    · by_cases h1 : b2 < ep
      · have hd2 : decide (b2 < ep) = true := decide_eq_true h1
        have HEND : Hid (c = (-1, 14)) := by show c = _; rw [← HC.out]; simp [checkD, hm, hkn, h1]
        clear HC
        go_wp2
        go_ret2
        exact gives_pair HEND.out HB0.out
      · have hd2 : decide (b2 < ep) = false := decide_eq_false h1
        by_cases h3 : op < 0
        · have hd4 : decide (op < 0) = true := decide_eq_true h3
          have HEND : Hid (c = (-1, 16)) := by show c = _; rw [← HC.out]; simp [checkD, hm, hkn, h1, h3]
          clear HC
          go_wp2
          go_ret2
          exact gives_pair HEND.out HB0.out
        · have hd4 : decide (op < 0) = false := decide_eq_false h3
          have HEND : Hid (c = (-1, 0)) := by show c = _; rw [← HC.out]; simp [checkD, hm, hkn, h1, h3]
          clear HC
          go_wp2
          go_ret2
          exact gives_pair HEND.out HB0.out
end Go.Proofs.YtgohekjkbgfeeaaGreat
