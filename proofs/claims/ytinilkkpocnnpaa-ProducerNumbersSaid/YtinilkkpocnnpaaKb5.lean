/- Parts of a proof, merged: ProdCheck, SeqAdd, SeqLast, SeqGap, SeqFollows, PrSmall. -/
import Derived.WalkKit
import Derived.IntWalk
import Derived.Lib.Hide
import Derived.Outline
import Derived.Laws.StructEq
import Derived.Test.YtinilkkpocnnpaaKb4
import Derived.Test.YtinilkkpocnnpaaKb2
import Derived.Test.YtinilkkpocnnpaaKb1
namespace Go.Proofs.Ytinilkkpocnnpaa
open Go.RowKit
open Go.SeqMath
open Go.ProdMath
open Go.BatMath hiding AllB getD_lt take_all
set_option linter.unusedVariables false

def dupC (r : Option Int) (last : List Tr) (op s : Int) (t : Bool) : Int × Int := match r with
  | some n => (n, 0)
  | none => if last ≠ [] ∧ followsB (lastSeq last) s = false then (-1, 15) else if 0 ≤ op ∧ t = false then (-1, 16) else (-1, 0)
def GivesPair (w : World) (c : Int × Int) (e : Ending) (w' : World) : Prop := e = .returned (.tuple #[.int .i64 c.1, .int .i64 c.2]) ∧ Below w.heap.size w w'
theorem gives_pair {w w' : World} {c : Int × Int} {a b : Int} (h : c = (a, b)) (hb : Below w.heap.size w w') : GivesPair w c (.returned (.tuple #[.int .i64 a, .int .i64 b])) w' := ⟨by rw [h], hb⟩
set_option maxRecDepth 100000 in
set_option maxHeartbeats 4000000 in
theorem refCheck_any (w : World) (id ep op : Int) (last : List Tr) (ad : Option Addr) (n cap : Nat) (hl : RowAt trK w ad n cap last) (hn : n ≤ 100000000000) (known : Bool) (b0 b1 b2 b3 : Int) (b4 : Bool) (b5 : Int) (recs : List Rc) (rd : Option Addr) (rn rc : Nat) (hrl : recs.length = rn) (hrn : rn ≤ 140737488355328) (c : Int × Int) (hc : checkD ⟨id, ep, last, op⟩ known ⟨b0, b1, b2, b3, b4, b5, recs⟩ = c) :
    Calls Try.prog 24 #[.agg #[.int .i64 id, .int .i64 ep, .slice ad n cap, .int .i64 op], .bool known, .agg #[.int .i64 b0, .int .i64 b1, .int .i64 b2, .int .i64 b3, .bool b4, .int .i64 b5, .slice rd rn rc]] w (GivesPair w c) := by
  obtain ⟨W0, hW0⟩ : ∃ W0, W0 = ((w.alloc (.cells #[.int .i64 id, .int .i64 ep, .slice ad n cap, .int .i64 op] 40)).alloc (.cells #[.int .i64 b0, .int .i64 b1, .int .i64 b2, .int .i64 b3, .bool b4, .int .i64 b5, .slice rd rn rc] 33)) := ⟨_, rfl⟩
  have HB0 : Hid (Below w.heap.size w W0) := by show Below _ _ _; rw [hW0]; exact ((Below.refl _ _).alloc (Nat.le_refl _) _).alloc (by simp) _
  have HP0 : Hid (PBox W0 w.heap.size id ep (.slice ad n cap) op) := by
    show PBox _ _ _ _ _ _
    rw [hW0]
    exact (pbox_new w id ep (.slice ad n cap) op).keep ((Below.refl _ _).alloc (Nat.le_refl _) _) (by simp)
  have HX0 : Hid (BoxAt W0 (w.heap.size + 1) b0 b1 b2 b3 b4 b5 (.slice rd rn rc)) := by
    show BoxAt _ _ _ _ _ _ _ _ _
    rw [hW0]
    have := boxAt_new (w.alloc (.cells #[.int .i64 id, .int .i64 ep, .slice ad n cap, .int .i64 op] 40)) b0 b1 b2 b3 b4 b5 (.slice rd rn rc)
    simpa using this
  have HL0 := Lib.hid (hl.keep HB0.out)
  have HC : Hid (checkD ⟨id, ep, last, op⟩ known ⟨b0, b1, b2, b3, b4, b5, recs⟩ = c) := hc
  have HW0 := Lib.hid hW0
  have HRL := Lib.hid hrl
  clear hl hc hW0 hrl
  obtain ⟨B1, hB1⟩ : ∃ B, B = w.heap.size := ⟨_, rfl⟩
  obtain ⟨B2, hB2⟩ : ∃ B, B = w.heap.size + 1 := ⟨_, rfl⟩
  rw [← hB1] at HP0
  rw [← hB2] at HX0
  go_enter Try.func24, Try.ntmps24
  go_upto_region 1 with fail
  rw [← HW0.out, ← hB2, ← hB1]
  clear HW0 hB1 hB2
  have q0 := HP0.out.c0
  have q1 := HP0.out.c1
  have q2 := HP0.out.c2
  have q3 := HP0.out.c3
  have p0 := HX0.out.c0
  have p1 := HX0.out.c1
  have p2 := HX0.out.c2
  have p3 := HX0.out.c3
  have p4 := HX0.out.c4
  have p5 := HX0.out.c5
  have p6 := HX0.out.c6
  by_cases hm : b5 = 0
  · have hd1 : (b5 == 0) = true := by rw [hm]; rfl
    cases hkn : known
    · have HEND : Hid (c = (-1, 0)) := by show c = _; rw [← HC.out]; simp [checkD, hm, hkn]
      clear HC
      go_wp2
      go_ret2
      exact gives_pair HEND.out HB0.out
    · by_cases h1 : b2 < ep
      · have hd2 : decide (b2 < ep) = true := decide_eq_true h1
        have HEND : Hid (c = (-1, 14)) := by show c = _; rw [← HC.out]; simp [checkD, hm, hkn, h1]
        clear HC
        go_wp2
        go_ret2
        exact gives_pair HEND.out HB0.out
      · have hd2 : decide (b2 < ep) = false := decide_eq_false h1
        by_cases h2 : ep < b2
        · have hd3 : decide (ep < b2) = true := decide_eq_true h2
          by_cases h3 : 0 ≤ op
          · have hd4 : decide (0 ≤ op) = true := decide_eq_true h3
            have HEND : Hid (c = (-1, 16)) := by show c = _; rw [← HC.out]; simp [checkD, hm, hkn, h1, h2, h3]
            clear HC
            go_wp2
            go_ret2
            exact gives_pair HEND.out HB0.out
          · have hd4 : decide (0 ≤ op) = false := decide_eq_false h3
            by_cases h4 : b3 = 0
            · have hd5 : (b3 == 0) = true := by rw [h4]; rfl
              have HEND : Hid (c = (-1, 0)) := by show c = _; rw [← HC.out]; simp [checkD, hm, hkn, h1, h2, h3, h4]
              clear HC
              go_wp2
              go_ret2
              exact gives_pair HEND.out HB0.out
            · have hd5 : (b3 == 0) = false := beq_false_of_ne h4
              have HEND : Hid (c = (-1, 15)) := by show c = _; rw [← HC.out]; simp [checkD, hm, hkn, h1, h2, h3, h4]
              clear HC
              go_wp2
              go_ret2
              exact gives_pair HEND.out HB0.out
        · have hd3 : decide (ep < b2) = false := decide_eq_false h2
          have heq : b2 = ep := by omega
          obtain ⟨r, hr⟩ : ∃ r, dupL last b3 rn = r := ⟨_, rfl⟩
          have HRR : Hid ((if b2 = ep ∧ b5 = 0 then dupL last b3 rn else none) = r) := by show _ = _; rw [if_pos ⟨heq, hm⟩]; exact hr
          have HCC : Hid (c = dupC r last op b3 b4) := by
            show c = _
            rw [← HC.out, ← hr, ← HRL.out]
            simp [checkD, hm, hkn, h1, h2, dupC]
            cases dupL last b3 recs.length <;> rfl
          clear HC hr heq h1 h2 hm
          go_wp2_with fail
          refine (refDup_any W0 id ep op last ad n cap HL0.out hn b0 b1 b2 b3 b4 b5 rd rn rc hrn r HRR.out).mono ?_
          rintro e w1 ⟨rfl, hb1⟩
          have HB1 := Lib.hid hb1
          have HP1 := Lib.hid (HP0.out.on hb1)
          have HX1 := Lib.hid (HX0.out.on hb1)
          have HL1 := Lib.hid (HL0.out.keep hb1)
          have HBB := Lib.hid (HB0.out.trans (hb1.mono HB0.out.size))
          clear hb1 HRR q0 q1 q2 q3 p0 p1 p2 p3 p4 p5 p6
          cases r with
          | some v =>
            have HEND : Hid (c = (v, 0)) := HCC.out
            clear HCC
            simp only [Option.getD_some, Option.isSome_some]
            go_wp2
            go_ret2
            exact gives_pair HEND.out HBB.out
          | none =>
            simp only [Option.getD_none, Option.isSome_none]
            have HCD : Hid (c = (if last ≠ [] ∧ followsB (lastSeq last) b3 = false then (-1, 15) else if 0 ≤ op ∧ b4 = false then (-1, 16) else (-1, 0))) := HCC.out
            clear HCC
            have q0 := HP1.out.c0
            have q1 := HP1.out.c1
            have q2 := HP1.out.c2
            have q3 := HP1.out.c3
            have p0 := HX1.out.c0
            have p1 := HX1.out.c1
            have p2 := HX1.out.c2
            have p3 := HX1.out.c3
            have p4 := HX1.out.c4
            have p5 := HX1.out.c5
            have p6 := HX1.out.c6
            by_cases h0 : n = 0
            · subst h0
              have hln := HL1.out.length
              have HCE : Hid (c = (if 0 ≤ op ∧ b4 = false then (-1, 16) else (-1, 0))) := by
                show c = _
                rw [HCD.out, if_neg (fun h => h.1 (List.eq_nil_of_length_eq_zero hln))]
              clear hln HCD
              go_upto_region 23 with fail
              have hb1d : Below w1.heap.size w1 w1.drew := (Below.refl _ w1).drew
              refine wp_region_noPanic ?_
              refine wp_region_z [] (fun (W : World) => True) (by kernel_rfl) ?_
              have hHeld : (fun (W : World) => True) w1.drew := trivial
              obtain ⟨u0, hu0⟩ : ∃ u, u = w1.drew := ⟨_, rfl⟩
              rw [← hu0] at hb1d
              rw [← hu0]
              clear hu0
              have HU := Lib.hid hb1d
              clear hb1d
              refine wpAnyZ_take (i := 0) (oi := ⟨_, _, _, _, _, _⟩) (v := ?_) rfl (by kernel_rfl) (by kernel_rfl) (by kernel_rfl) (by kernel_rfl) (by kernel_rfl) (fun _ _ _ h => h) (Or.inl ⟨by rfl, ?_⟩) (by assumption) ?_
              rotate_left
              · intro W hSw
                (try dsimp only at hSw)
                go_simp
                (try with_reducible rfl)
              (try simp only [Act.put, List.setIfInBounds_toArray, List.set_cons_zero, List.set_cons_succ])
              refine wpAnyZ_take (i := 1) (oi := ⟨_, _, _, _, _, _⟩) (v := ?_) rfl (by kernel_rfl) (by kernel_rfl) (by kernel_rfl) (by kernel_rfl) (by kernel_rfl) (fun _ _ _ h => h) (Or.inl ⟨by rfl, ?_⟩) (by assumption) ?_
              rotate_left
              · intro W hSw
                (try dsimp only at hSw)
                go_simp
                (try with_reducible rfl)
              (try simp only [Act.put, List.setIfInBounds_toArray, List.set_cons_zero, List.set_cons_succ])
              refine wpAnyZ_take (i := 2) (oi := ⟨_, _, _, _, _, _⟩) (v := ?_) rfl (by kernel_rfl) (by kernel_rfl) (by kernel_rfl) (by kernel_rfl) (by kernel_rfl) (fun _ _ _ h => h) (Or.inl ⟨by rfl, ?_⟩) (by assumption) ?_
              rotate_left
              · intro W hSw
                (try dsimp only at hSw)
                go_simp
                (try with_reducible rfl)
              (try simp only [Act.put, List.setIfInBounds_toArray, List.set_cons_zero, List.set_cons_succ])
              refine wpAnyZ_take (i := 3) (oi := ⟨_, _, _, _, _, _⟩) (v := undef) rfl (by kernel_rfl) (by kernel_rfl) (by kernel_rfl) (by kernel_rfl) (by kernel_rfl) (fun _ _ _ h => h) (Or.inr ⟨by rfl, rfl⟩) (by assumption) ?_
              (try simp only [Act.put, List.setIfInBounds_toArray, List.set_cons_zero, List.set_cons_succ])
              refine wpAnyZ_take (i := 4) (oi := ⟨_, _, _, _, _, _⟩) (v := undef) rfl (by kernel_rfl) (by kernel_rfl) (by kernel_rfl) (by kernel_rfl) (by kernel_rfl) (fun _ _ _ h => h) (Or.inr ⟨by rfl, rfl⟩) (by assumption) ?_
              (try simp only [Act.put, List.setIfInBounds_toArray, List.set_cons_zero, List.set_cons_succ])
              refine wpAnyZ_take (i := 5) (oi := ⟨_, _, _, _, _, _⟩) (v := undef) rfl (by kernel_rfl) (by kernel_rfl) (by kernel_rfl) (by kernel_rfl) (by kernel_rfl) (fun _ _ _ h => h) (Or.inr ⟨by rfl, rfl⟩) (by assumption) ?_
              (try simp only [Act.put, List.setIfInBounds_toArray, List.set_cons_zero, List.set_cons_succ])
              refine wpAnyZ_take (i := 6) (oi := ⟨_, _, _, _, _, _⟩) (v := undef) rfl (by kernel_rfl) (by kernel_rfl) (by kernel_rfl) (by kernel_rfl) (by kernel_rfl) (fun _ _ _ h => h) (Or.inr ⟨by rfl, rfl⟩) (by assumption) ?_
              (try simp only [Act.put, List.setIfInBounds_toArray, List.set_cons_zero, List.set_cons_succ])
              refine wpAnyZ_take (i := 7) (oi := ⟨_, _, _, _, _, _⟩) (v := undef) rfl (by kernel_rfl) (by kernel_rfl) (by kernel_rfl) (by kernel_rfl) (by kernel_rfl) (fun _ _ _ h => h) (Or.inr ⟨by rfl, rfl⟩) (by assumption) ?_
              (try simp only [Act.put, List.setIfInBounds_toArray, List.set_cons_zero, List.set_cons_succ])
              refine wpAnyZ_take (i := 8) (oi := ⟨_, _, _, _, _, _⟩) (v := undef) rfl (by kernel_rfl) (by kernel_rfl) (by kernel_rfl) (by kernel_rfl) (by kernel_rfl) (fun _ _ _ h => h) (Or.inr ⟨by rfl, rfl⟩) (by assumption) ?_
              (try simp only [Act.put, List.setIfInBounds_toArray, List.set_cons_zero, List.set_cons_succ])
              refine wpAnyZ_take (i := 9) (oi := ⟨_, _, _, _, _, _⟩) (v := undef) rfl (by kernel_rfl) (by kernel_rfl) (by kernel_rfl) (by kernel_rfl) (by kernel_rfl) (fun _ _ _ h => h) (Or.inr ⟨by rfl, rfl⟩) (by assumption) ?_
              (try simp only [Act.put, List.setIfInBounds_toArray, List.set_cons_zero, List.set_cons_succ])
              refine wpAnyZ_take (i := 10) (oi := ⟨_, _, _, _, _, _⟩) (v := undef) rfl (by kernel_rfl) (by kernel_rfl) (by kernel_rfl) (by kernel_rfl) (by kernel_rfl) (fun _ _ _ h => h) (Or.inr ⟨by rfl, rfl⟩) (by assumption) ?_
              (try simp only [Act.put, List.setIfInBounds_toArray, List.set_cons_zero, List.set_cons_succ])
              refine wpAnyZ_take (i := 11) (oi := ⟨_, _, _, _, _, _⟩) (v := undef) rfl (by kernel_rfl) (by kernel_rfl) (by kernel_rfl) (by kernel_rfl) (by kernel_rfl) (fun _ _ _ h => h) (Or.inr ⟨by rfl, rfl⟩) (by assumption) ?_
              (try simp only [Act.put, List.setIfInBounds_toArray, List.set_cons_zero, List.set_cons_succ])
              refine wpAnyZ_take (i := 12) (oi := ⟨_, _, _, _, _, _⟩) (v := undef) rfl (by kernel_rfl) (by kernel_rfl) (by kernel_rfl) (by kernel_rfl) (by kernel_rfl) (fun _ _ _ h => h) (Or.inr ⟨by rfl, rfl⟩) (by assumption) ?_
              (try simp only [Act.put, List.setIfInBounds_toArray, List.set_cons_zero, List.set_cons_succ])
              refine wpAnyZ_take (i := 13) (oi := ⟨_, _, _, _, _, _⟩) (v := undef) rfl (by kernel_rfl) (by kernel_rfl) (by kernel_rfl) (by kernel_rfl) (by kernel_rfl) (fun _ _ _ h => h) (Or.inr ⟨by rfl, rfl⟩) (by assumption) ?_
              (try simp only [Act.put, List.setIfInBounds_toArray, List.set_cons_zero, List.set_cons_succ])
              refine wpAnyZ_take (i := 14) (oi := ⟨_, _, _, _, _, _⟩) (v := ?_) rfl (by kernel_rfl) (by kernel_rfl) (by kernel_rfl) (by kernel_rfl) (by kernel_rfl) (fun _ _ _ h => h) (Or.inl ⟨by rfl, ?_⟩) (by assumption) ?_
              rotate_left
              · intro W hSw
                (try dsimp only at hSw)
                go_simp
                (try with_reducible rfl)
              (try simp only [Act.put, List.setIfInBounds_toArray, List.set_cons_zero, List.set_cons_succ])
              refine wpAnyZ_done (by kernel_rfl) ?_ _
              refine NoPanic.normal ?_
              clear hHeld
              have hP := HP1.out.on HU.out
              have hX := HX1.out.on HU.out
              have HBU := Lib.hid (HBB.out.trans (HU.out.mono HBB.out.size))
              clear q0 q1 q2 q3 p0 p1 p2 p3 p4 p5 p6
              have q3 := hP.c3
              have p4 := hX.c4
              clear hP hX
              by_cases h3 : 0 ≤ op
              · have hd4 : decide (0 ≤ op) = true := decide_eq_true h3
                cases hb4 : b4
                · have HEND : Hid (c = (-1, 16)) := by show c = _; rw [HCE.out, if_pos ⟨h3, hb4⟩]
                  clear HCE
                  rw [hb4] at p4
                  go_wp2
                  go_ret2
                  exact gives_pair HEND.out HBU.out
                · have HEND : Hid (c = (-1, 0)) := by show c = _; rw [HCE.out, if_neg (fun h => by rw [hb4] at h; cases h.2)]
                  clear HCE
                  rw [hb4] at p4
                  go_wp2
                  go_ret2
                  exact gives_pair HEND.out HBU.out
              · have hd4 : decide (0 ≤ op) = false := decide_eq_false h3
                have HEND : Hid (c = (-1, 0)) := by show c = _; rw [HCE.out, if_neg (fun h => h3 h.1)]
                clear HCE
                go_wp2
                go_ret2
                exact gives_pair HEND.out HBU.out
            · obtain ⟨bk, off, x, rfl, hbk, hx, c0, c1, c2⟩ := tr_get HL1.out (i := n - 1) (by omega)
              have hlast : lastSeq last = x.l := by
                have hln := HL1.out.length
                unfold lastSeq
                rw [List.getLast?_eq_getElem?, hln, hx]
              have hne : last ≠ [] := fun h => by rw [h] at hx; cases hx
              obtain ⟨fo, hfo⟩ : ∃ fo, followsB x.l b3 = fo := ⟨_, rfl⟩
              have HFO := Lib.hid hfo
              have HCF : Hid (c = (if fo = false then (-1, 15) else if 0 ≤ op ∧ b4 = false then (-1, 16) else (-1, 0))) := by
                show c = _
                rw [HCD.out, hlast, hfo]
                simp [hne]
              clear HCD hlast hne hfo hx hbk
              have hn0 : decide ((0 : Int) < (n : Int)) = true := decide_eq_true (by omega)
              have hn00 : decide (0 < n) = true := decide_eq_true (by omega)
              have hnp : 0 < n := by omega
              have hi1 : (1 : Int) ≤ (n : Int) := by omega
              have hi2 : (n : Int) - 1 < (n : Int) := by omega
              have hi3 : ((n : Int) - 1).toNat = n - 1 := by omega
              have hi4 : IntKind.i64.wrap ((n : Int) - 1) = (n : Int) - 1 := IntWalk.i64_in _ (by omega)
              have KS : Hid (∀ W, Below w1.heap.size w1 W → (fun (W : World) => W.cell? ⟨B1, 0, none⟩ = some (.int .i64 id) ∧ W.cell? ⟨B1, 1, none⟩ = some (.int .i64 ep) ∧ W.cell? ⟨B1, 2, none⟩ = some (.slice (some ⟨bk, off, none⟩) n cap) ∧ W.cell? ⟨B1, 3, none⟩ = some (.int .i64 op) ∧ W.cell? ⟨B2, 0, none⟩ = some (.int .i64 b0) ∧ W.cell? ⟨B2, 1, none⟩ = some (.int .i64 b1) ∧ W.cell? ⟨B2, 2, none⟩ = some (.int .i64 b2) ∧ W.cell? ⟨B2, 3, none⟩ = some (.int .i64 b3) ∧ W.cell? ⟨B2, 4, none⟩ = some (.bool b4) ∧ W.cell? ⟨B2, 5, none⟩ = some (.int .i64 b5) ∧ W.cell? ⟨B2, 6, none⟩ = some (.slice rd rn rc) ∧ W.cell? ⟨bk, off + (n - 1) * 3 + 1, none⟩ = some (.int .i64 x.l)) W) := by
                intro W hW
                have hP := HP1.out.on hW
                have hX := HX1.out.on hW
                obtain ⟨bk', off', x', e', _, hx', _, c1', _⟩ := tr_get (HL1.out.keep hW) (i := n - 1) (by omega)
                cases e'
                refine ⟨hP.c0, hP.c1, hP.c2, hP.c3, hX.c0, hX.c1, hX.c2, hX.c3, hX.c4, hX.c5, hX.c6, ?_⟩
                rw [hW.cell (p := ⟨bk, off + (n - 1) * 3 + 1, none⟩) (World.block_lt_of_cell? _ _ c1)]
                exact c1
              have hb1d : Below w1.heap.size w1 w1.drew := (Below.refl _ w1).drew
              go_upto_region 23 with fail
              refine wp_region_noPanic ?_
              refine wp_region_z [] (fun (W : World) => W.cell? ⟨B1, 0, none⟩ = some (.int .i64 id) ∧ W.cell? ⟨B1, 1, none⟩ = some (.int .i64 ep) ∧ W.cell? ⟨B1, 2, none⟩ = some (.slice (some ⟨bk, off, none⟩) n cap) ∧ W.cell? ⟨B1, 3, none⟩ = some (.int .i64 op) ∧ W.cell? ⟨B2, 0, none⟩ = some (.int .i64 b0) ∧ W.cell? ⟨B2, 1, none⟩ = some (.int .i64 b1) ∧ W.cell? ⟨B2, 2, none⟩ = some (.int .i64 b2) ∧ W.cell? ⟨B2, 3, none⟩ = some (.int .i64 b3) ∧ W.cell? ⟨B2, 4, none⟩ = some (.bool b4) ∧ W.cell? ⟨B2, 5, none⟩ = some (.int .i64 b5) ∧ W.cell? ⟨B2, 6, none⟩ = some (.slice rd rn rc) ∧ W.cell? ⟨bk, off + (n - 1) * 3 + 1, none⟩ = some (.int .i64 x.l)) (by kernel_rfl) ?_
              have hHeld : (fun (W : World) => W.cell? ⟨B1, 0, none⟩ = some (.int .i64 id) ∧ W.cell? ⟨B1, 1, none⟩ = some (.int .i64 ep) ∧ W.cell? ⟨B1, 2, none⟩ = some (.slice (some ⟨bk, off, none⟩) n cap) ∧ W.cell? ⟨B1, 3, none⟩ = some (.int .i64 op) ∧ W.cell? ⟨B2, 0, none⟩ = some (.int .i64 b0) ∧ W.cell? ⟨B2, 1, none⟩ = some (.int .i64 b1) ∧ W.cell? ⟨B2, 2, none⟩ = some (.int .i64 b2) ∧ W.cell? ⟨B2, 3, none⟩ = some (.int .i64 b3) ∧ W.cell? ⟨B2, 4, none⟩ = some (.bool b4) ∧ W.cell? ⟨B2, 5, none⟩ = some (.int .i64 b5) ∧ W.cell? ⟨B2, 6, none⟩ = some (.slice rd rn rc) ∧ W.cell? ⟨bk, off + (n - 1) * 3 + 1, none⟩ = some (.int .i64 x.l)) _ := KS.out _ hb1d
              obtain ⟨u0, hu0⟩ : ∃ u, u = w1.drew := ⟨_, rfl⟩
              rw [← hu0] at hHeld hb1d
              rw [← hu0]
              clear hu0
              have HU := Lib.hid hb1d
              clear hb1d
              refine wpAnyZ_take (i := 0) (oi := ⟨_, _, _, _, _, _⟩) (v := ?_) rfl (by kernel_rfl) (by kernel_rfl) (by kernel_rfl) (by kernel_rfl) (by kernel_rfl) (fun _ _ _ h => h) (Or.inl ⟨by rfl, ?_⟩) (by assumption) ?_
              rotate_left
              · intro W hSw
                (try dsimp only at hSw)
                go_simp
                (try with_reducible rfl)
              (try simp only [Act.put, List.setIfInBounds_toArray, List.set_cons_zero, List.set_cons_succ])
              refine wpAnyZ_take (i := 1) (oi := ⟨_, _, _, _, _, _⟩) (v := ?_) rfl (by kernel_rfl) (by kernel_rfl) (by kernel_rfl) (by kernel_rfl) (by kernel_rfl) (fun _ _ _ h => h) (Or.inl ⟨by rfl, ?_⟩) (by assumption) ?_
              rotate_left
              · intro W hSw
                (try dsimp only at hSw)
                go_simp
                (try with_reducible rfl)
              (try simp only [Act.put, List.setIfInBounds_toArray, List.set_cons_zero, List.set_cons_succ])
              refine wpAnyZ_take (i := 2) (oi := ⟨_, _, _, _, _, _⟩) (v := ?_) rfl (by kernel_rfl) (by kernel_rfl) (by kernel_rfl) (by kernel_rfl) (by kernel_rfl) (fun _ _ _ h => h) (Or.inl ⟨by rfl, ?_⟩) (by assumption) ?_
              rotate_left
              · intro W hSw
                (try dsimp only at hSw)
                go_simp
                (try with_reducible rfl)
              (try simp only [Act.put, List.setIfInBounds_toArray, List.set_cons_zero, List.set_cons_succ])
              refine wpAnyZ_take (i := 3) (oi := ⟨_, _, _, _, _, _⟩) (v := ?_) rfl (by kernel_rfl) (by kernel_rfl) (by kernel_rfl) (by kernel_rfl) (by kernel_rfl) (fun _ _ _ h => h) (Or.inl ⟨by rfl, ?_⟩) (by assumption) ?_
              rotate_left
              · intro W hSw
                (try dsimp only at hSw)
                go_simp
                (try with_reducible rfl)
              (try simp only [Act.put, List.setIfInBounds_toArray, List.set_cons_zero, List.set_cons_succ])
              refine wpAnyZ_take (i := 4) (oi := ⟨_, _, _, _, _, _⟩) (v := ?_) rfl (by kernel_rfl) (by kernel_rfl) (by kernel_rfl) (by kernel_rfl) (by kernel_rfl) (fun _ _ _ h => h) (Or.inl ⟨by rfl, ?_⟩) (by assumption) ?_
              rotate_left
              · intro W hSw
                (try dsimp only at hSw)
                go_simp
                (try with_reducible rfl)
              (try simp only [Act.put, List.setIfInBounds_toArray, List.set_cons_zero, List.set_cons_succ])
              refine wpAnyZ_take (i := 5) (oi := ⟨_, _, _, _, _, _⟩) (v := ?_) rfl (by kernel_rfl) (by kernel_rfl) (by kernel_rfl) (by kernel_rfl) (by kernel_rfl) (fun _ _ _ h => h) (Or.inl ⟨by rfl, ?_⟩) (by assumption) ?_
              rotate_left
              · intro W hSw
                (try dsimp only at hSw)
                go_simp
                (try with_reducible rfl)
              (try simp only [Act.put, List.setIfInBounds_toArray, List.set_cons_zero, List.set_cons_succ])
              refine wpAnyZ_take (i := 6) (oi := ⟨_, _, _, _, _, _⟩) (v := ?_) rfl (by kernel_rfl) (by kernel_rfl) (by kernel_rfl) (by kernel_rfl) (by kernel_rfl) (fun _ _ _ h => h) (Or.inl ⟨by rfl, ?_⟩) (by assumption) ?_
              rotate_left
              · intro W hSw
                (try dsimp only at hSw)
                go_simp
                (try with_reducible rfl)
              (try simp only [Act.put, List.setIfInBounds_toArray, List.set_cons_zero, List.set_cons_succ])
              refine wpAnyZ_take (i := 7) (oi := ⟨_, _, _, _, _, _⟩) (v := ?_) rfl (by kernel_rfl) (by kernel_rfl) (by kernel_rfl) (by kernel_rfl) (by kernel_rfl) (fun _ _ _ h => h) (Or.inl ⟨by rfl, ?_⟩) (by assumption) ?_
              rotate_left
              · intro W hSw
                (try dsimp only at hSw)
                go_simp
                (try with_reducible rfl)
              (try simp only [Act.put, List.setIfInBounds_toArray, List.set_cons_zero, List.set_cons_succ])
              refine wpAnyZ_take (i := 8) (oi := ⟨_, _, _, _, _, _⟩) (v := ?_) rfl (by kernel_rfl) (by kernel_rfl) (by kernel_rfl) (by kernel_rfl) (by kernel_rfl) (fun _ _ _ h => h) (Or.inl ⟨by rfl, ?_⟩) (by assumption) ?_
              rotate_left
              · intro W hSw
                (try dsimp only at hSw)
                go_simp
                (try with_reducible rfl)
              (try simp only [Act.put, List.setIfInBounds_toArray, List.set_cons_zero, List.set_cons_succ])
              refine wpAnyZ_take (i := 9) (oi := ⟨_, _, _, _, _, _⟩) (v := ?_) rfl (by kernel_rfl) (by kernel_rfl) (by kernel_rfl) (by kernel_rfl) (by kernel_rfl) (fun _ _ _ h => h) (Or.inl ⟨by rfl, ?_⟩) (by assumption) ?_
              rotate_left
              · intro W hSw
                (try dsimp only at hSw)
                go_simp
                (try with_reducible rfl)
              (try simp only [Act.put, List.setIfInBounds_toArray, List.set_cons_zero, List.set_cons_succ])
              refine wpAnyZ_take (i := 10) (oi := ⟨_, _, _, _, _, _⟩) (v := ?_) rfl (by kernel_rfl) (by kernel_rfl) (by kernel_rfl) (by kernel_rfl) (by kernel_rfl) (fun _ _ _ h => h) (Or.inl ⟨by rfl, ?_⟩) (by assumption) ?_
              rotate_left
              · intro W hSw
                (try dsimp only at hSw)
                go_simp
                (try with_reducible rfl)
              (try simp only [Act.put, List.setIfInBounds_toArray, List.set_cons_zero, List.set_cons_succ])
              refine wpAnyZ_take (i := 11) (oi := ⟨_, _, _, _, _, _⟩) (v := ?_) rfl (by kernel_rfl) (by kernel_rfl) (by kernel_rfl) (by kernel_rfl) (by kernel_rfl) (fun _ _ _ h => h) (Or.inl ⟨by rfl, ?_⟩) (by assumption) ?_
              rotate_left
              · intro W hSw
                (try dsimp only at hSw)
                go_simp
                (try with_reducible rfl)
              (try simp only [Act.put, List.setIfInBounds_toArray, List.set_cons_zero, List.set_cons_succ])
              refine wpAnyZ_ready (rs := [12]) (by kernel_rfl) (by simp) ?_
              refine AllReadyZ.cons (o := ⟨_, _, _, _, _, _⟩) rfl (fun C hC => ?_) AllReadyZ.nil
              go_simp
              refine (refFollows_any x.l b3 u0 fo HFO.out).mono ?_
              rintro e u1 ⟨rfl, rfl⟩
              go_wp2_with fail
              have hHeld : (fun (W : World) => W.cell? ⟨B1, 0, none⟩ = some (.int .i64 id) ∧ W.cell? ⟨B1, 1, none⟩ = some (.int .i64 ep) ∧ W.cell? ⟨B1, 2, none⟩ = some (.slice (some ⟨bk, off, none⟩) n cap) ∧ W.cell? ⟨B1, 3, none⟩ = some (.int .i64 op) ∧ W.cell? ⟨B2, 0, none⟩ = some (.int .i64 b0) ∧ W.cell? ⟨B2, 1, none⟩ = some (.int .i64 b1) ∧ W.cell? ⟨B2, 2, none⟩ = some (.int .i64 b2) ∧ W.cell? ⟨B2, 3, none⟩ = some (.int .i64 b3) ∧ W.cell? ⟨B2, 4, none⟩ = some (.bool b4) ∧ W.cell? ⟨B2, 5, none⟩ = some (.int .i64 b5) ∧ W.cell? ⟨B2, 6, none⟩ = some (.slice rd rn rc) ∧ W.cell? ⟨bk, off + (n - 1) * 3 + 1, none⟩ = some (.int .i64 x.l)) _ := hHeld
              refine hC.out _ _ (fun _ => hHeld) (fun _ => ?_)
              clear hC C
              (try simp only [Act.put, List.setIfInBounds_toArray, List.set_cons_zero, List.set_cons_succ])
              refine wpAnyZ_take (i := 13) (oi := ⟨_, _, _, _, _, _⟩) (v := ?_) rfl (by kernel_rfl) (by kernel_rfl) (by kernel_rfl) (by kernel_rfl) (by kernel_rfl) (fun _ _ _ h => h) (Or.inl ⟨by rfl, ?_⟩) (by assumption) ?_
              rotate_left
              · intro W hSw
                (try dsimp only at hSw)
                go_simp
                (try with_reducible rfl)
              (try simp only [Act.put, List.setIfInBounds_toArray, List.set_cons_zero, List.set_cons_succ])
              refine wpAnyZ_take (i := 14) (oi := ⟨_, _, _, _, _, _⟩) (v := ?_) rfl (by kernel_rfl) (by kernel_rfl) (by kernel_rfl) (by kernel_rfl) (by kernel_rfl) (fun _ _ _ h => h) (Or.inl ⟨by rfl, ?_⟩) (by assumption) ?_
              rotate_left
              · intro W hSw
                (try dsimp only at hSw)
                go_simp
                (try with_reducible rfl)
              (try simp only [Act.put, List.setIfInBounds_toArray, List.set_cons_zero, List.set_cons_succ])
              refine wpAnyZ_done (by kernel_rfl) ?_ _
              refine NoPanic.normal ?_
              clear hHeld
              have hP := HP1.out.on HU.out
              have hX := HX1.out.on HU.out
              have HBU := Lib.hid (HBB.out.trans (HU.out.mono HBB.out.size))
              have q3 := hP.c3
              have p4 := hX.c4
              clear hP hX KS c0 c1 c2
              cases fo with
              | false =>
                have HEND : Hid (c = (-1, 15)) := HCF.out
                clear HCF
                go_wp2
                go_ret2
                exact gives_pair HEND.out HBU.out
              | true =>
                have HCE : Hid (c = (if 0 ≤ op ∧ b4 = false then (-1, 16) else (-1, 0))) := HCF.out
                clear HCF
                by_cases h3 : 0 ≤ op
                · have hd4 : decide (0 ≤ op) = true := decide_eq_true h3
                  cases hb4 : b4
                  · have HEND : Hid (c = (-1, 16)) := by show c = _; rw [HCE.out, if_pos ⟨h3, hb4⟩]
                    clear HCE
                    rw [hb4] at p4
                    go_wp2
                    go_ret2
                    exact gives_pair HEND.out HBU.out
                  · have HEND : Hid (c = (-1, 0)) := by show c = _; rw [HCE.out, if_neg (fun h => by rw [hb4] at h; cases h.2)]
                    clear HCE
                    rw [hb4] at p4
                    go_wp2
                    go_ret2
                    exact gives_pair HEND.out HBU.out
                · have hd4 : decide (0 ≤ op) = false := decide_eq_false h3
                  have HEND : Hid (c = (-1, 0)) := by show c = _; rw [HCE.out, if_neg (fun h => h3 h.1)]
                  clear HCE
                  go_wp2
                  go_ret2
                  exact gives_pair HEND.out HBU.out
  · have hd1 : (b5 == 0) = false := beq_false_of_ne hm
    cases hkn : known
    · have HEND : Hid (c = (-1, 16)) := by show c = _; rw [← HC.out]; simp [checkD, hm, hkn]
      clear HC
      go_wp2
      go_ret2
      exact gives_pair HEND.out HB0.out
    · by_cases h1 : b2 < ep
      · have hd2 : decide (b2 < ep) = true := decide_eq_true h1
        have HEND : Hid (c = (-1, 14)) := by show c = _; rw [← HC.out]; simp [checkD, hm, hkn, h1]
        clear HC
        go_wp2
        go_ret2
        exact gives_pair HEND.out HB0.out
      · have hd2 : decide (b2 < ep) = false := decide_eq_false h1
        by_cases h3 : op < 0
        · have hd4 : decide (op < 0) = true := decide_eq_true h3
          have HEND : Hid (c = (-1, 16)) := by show c = _; rw [← HC.out]; simp [checkD, hm, hkn, h1, h3]
          clear HC
          go_wp2
          go_ret2
          exact gives_pair HEND.out HB0.out
        · have hd4 : decide (op < 0) = false := decide_eq_false h3
          have HEND : Hid (c = (-1, 0)) := by show c = _; rw [← HC.out]; simp [checkD, hm, hkn, h1, h3]
          clear HC
          go_wp2
          go_ret2
          exact gives_pair HEND.out HB0.out
end Go.Proofs.Ytinilkkpocnnpaa
namespace Go.Proofs.Ytinilkkpocnnpaa
open Go.RowKit
open Go.SeqMath
set_option linter.unusedVariables false

theorem seq_wrap (n : Int) (w : World) (v : Int) (h0 : -2147483648 ≤ n) (h1 : n ≤ 4294967295) (hv : n % 2147483648 = v) :
    Calls Try.prog 70 #[.int .i64 n] w fun e w' => e = .returned (.int .i64 v) ∧ w = w' := by
  have HV := Lib.hid hv
  clear hv
  go_enter Try.func70, Try.ntmps70
  go_wp2
  go_ret
  exact ⟨seq_ret (by have := HV.out; omega), rfl⟩
set_option maxHeartbeats 400000 in
theorem seq_add (n k : Int) (w : World) (v : Int) (k0 : -9223372036854775808 ≤ k) (k1 : k ≤ 9223372036854775807) (hv : addI n k = v) :
    Calls Try.prog 68 #[.int .i64 n, .int .i64 k] w fun e w' => e = .returned (.int .i64 v) ∧ w = w' := by
  rcases hr : rightB n with _ | _
  · have HV : Hid (v = -1) := by show _ = _; rw [← hv, add_no hr]
    have HR := Lib.hid hr
    clear hv hr
    go_enter Try.func68, Try.ntmps68
    go_wp2_with (go_at_call 69; refine (seq_right n _ false HR.out).mono ?_; rintro e w' ⟨rfl, rfl⟩)
    go_ret
    exact ⟨seq_ret HV.out.symm, rfl⟩
  · obtain ⟨n0, n1⟩ := of_right hr
    have HV : Hid ((n + k) % 2147483648 = v) := by show _ = _; rw [← hv, add_yes n0 n1]
    have HR := Lib.hid hr
    clear hv hr
    by_cases hk : 0 ≤ k
    · go_enter Try.func68, Try.ntmps68
      go_wp2_with (first | (go_at_call 69; refine (seq_right n _ true HR.out).mono ?_; rintro e w' ⟨rfl, rfl⟩) | (go_at_call 70; refine (seq_wrap _ _ v (by omega) (by omega) (by have := HV.out; omega)).mono ?_; rintro e w' ⟨rfl, rfl⟩))
      go_ret
      exact ⟨rfl, rfl⟩
    · have hk' : k < 0 := by omega
      obtain ⟨t, ht⟩ : ∃ t, t = k.tmod 2147483648 := ⟨_, rfl⟩
      have ht2 : t = -((-k) % 2147483648) := by
        rw [ht, ← Int.tmod_eq_emod_of_nonneg (by omega : 0 ≤ -k), Int.neg_tmod, Int.neg_neg]
      have HT : Hid (k.tmod 2147483648 = t) := ht.symm
      have HT2 := Lib.hid ht2
      have t0 : -2147483648 < t := by omega
      have t1 : t ≤ 0 := by omega
      have htt := HT.out
      clear ht ht2
      go_enter Try.func68, Try.ntmps68
      go_wp2_with (first | (go_at_call 69; refine (seq_right n _ true HR.out).mono ?_; rintro e w' ⟨rfl, rfl⟩) | (go_at_call 70; refine (seq_wrap _ _ v (by omega) (by omega) (by have := HV.out; have := HT2.out; omega)).mono ?_; rintro e w' ⟨rfl, rfl⟩))
      go_ret
      exact ⟨rfl, rfl⟩
end Go.Proofs.Ytinilkkpocnnpaa
namespace Go.Proofs.Ytinilkkpocnnpaa
open Go.RowKit
open Go.SeqMath
set_option linter.unusedVariables false

theorem seq_last (n c : Int) (w : World) (v : Int) (c0 : -9223372036854775808 ≤ c) (c1 : c ≤ 9223372036854775807) (hv : lastI n c = v) :
    Calls Try.prog 54 #[.int .i64 n, .int .i64 c] w fun e w' => e = .returned (.int .i64 v) ∧ w = w' := by
  by_cases h0 : c < 1
  · have HV : Hid (v = -1) := by show _ = _; rw [← hv, last_no (.inl h0)]
    clear hv
    go_enter Try.func54, Try.ntmps54
    go_wp2
    go_ret
    exact ⟨seq_ret HV.out.symm, rfl⟩
  · have h0' : 1 ≤ c := by omega
    by_cases h1 : 16 < c
    · have HV : Hid (v = -1) := by show _ = _; rw [← hv, last_no (.inr h1)]
      clear hv
      go_enter Try.func54, Try.ntmps54
      go_wp2
      go_ret
      exact ⟨seq_ret HV.out.symm, rfl⟩
    · have h1' : c ≤ 16 := by omega
      have HV : Hid (addI n (c - 1) = v) := by show _ = _; rw [← hv, last_yes h0' h1']
      clear hv
      go_enter Try.func54, Try.ntmps54
      go_wp2_with (go_at_call 68; refine (seq_add n _ _ v (by omega) (by omega) HV.out).mono ?_; rintro e w' ⟨rfl, rfl⟩)
      go_ret
      exact ⟨rfl, rfl⟩
end Go.Proofs.Ytinilkkpocnnpaa
namespace Go.Proofs.Ytinilkkpocnnpaa
open Go.RowKit
open Go.SeqMath
set_option linter.unusedVariables false

set_option maxHeartbeats 400000 in
theorem seq_gap (a b : Int) (w : World) (v : Int) (hv : gapI a b = v) :
    Calls Try.prog 56 #[.int .i64 a, .int .i64 b] w fun e w' => e = .returned (.int .i64 v) ∧ w = w' := by
  rcases ha : rightB a with _ | _
  · have HV : Hid (v = -1) := by show _ = _; rw [← hv, gap_no (.inl ha)]
    have HA := Lib.hid ha
    clear hv ha
    go_enter Try.func56, Try.ntmps56
    go_wp2_with (go_at_call 69; refine (seq_right a _ false HA.out).mono ?_; rintro e w' ⟨rfl, rfl⟩)
    go_ret
    exact ⟨seq_ret HV.out.symm, rfl⟩
  · rcases hb : rightB b with _ | _
    · have HV : Hid (v = -1) := by show _ = _; rw [← hv, gap_no (.inr hb)]
      have HA := Lib.hid ha
      have HB := Lib.hid hb
      clear hv ha hb
      go_enter Try.func56, Try.ntmps56
      go_wp2_with fail
      refine (seq_right a _ true HA.out).mono ?_
      rintro e w' ⟨rfl, rfl⟩
      go_wp2_with fail
      refine (seq_right b _ false HB.out).mono ?_
      rintro e w' ⟨rfl, rfl⟩
      go_wp2
      go_ret
      exact ⟨seq_ret HV.out.symm, rfl⟩
    · obtain ⟨a0, a1⟩ := of_right ha
      obtain ⟨b0, b1⟩ := of_right hb
      have HV : Hid ((b - a) % 2147483648 = v) := by show _ = _; rw [← hv, gap_yes a0 a1 b0 b1]
      have HA := Lib.hid ha
      have HB := Lib.hid hb
      clear hv ha hb
      go_enter Try.func56, Try.ntmps56
      go_wp2_with fail
      refine (seq_right a _ true HA.out).mono ?_
      rintro e w' ⟨rfl, rfl⟩
      go_wp2_with fail
      refine (seq_right b _ true HB.out).mono ?_
      rintro e w' ⟨rfl, rfl⟩
      go_wp2_with fail
      refine (seq_wrap _ _ v (by omega) (by omega) HV.out).mono ?_
      rintro e w' ⟨rfl, rfl⟩
      go_wp2
      go_ret
      exact ⟨rfl, rfl⟩
end Go.Proofs.Ytinilkkpocnnpaa
namespace Go.Proofs.Ytinilkkpocnnpaa
open Go.RowKit
open Go.SeqMath
set_option linter.unusedVariables false

set_option maxHeartbeats 400000 in
theorem seq_follows (l f : Int) (w : World) (r : Bool) (hr : followsB l f = r) :
    Calls Try.prog 57 #[.int .i64 l, .int .i64 f] w fun e w' => e = .returned (.bool r) ∧ w = w' := by
  by_cases hl : l = -1
  · subst hl
    rw [follows_none] at hr
    by_cases hf : f = 0
    · subst hf
      obtain rfl : r = true := by rw [← hr]; rfl
      clear hr
      go_enter Try.func57, Try.ntmps57
      go_wp2
      go_ret
      exact ⟨rfl, rfl⟩
    · obtain rfl : r = false := by rw [← hr]; exact decide_eq_false hf
      have hf1 : (f == 0) = false := by simpa using hf
      clear hr
      go_enter Try.func57, Try.ntmps57
      go_wp2
      go_ret
      exact ⟨rfl, rfl⟩
  · have hl1 : (l == -1) = false := by simpa using hl
    rcases hq : rightB l with _ | _
    · obtain rfl : r = false := by rw [← hr, follows_no hl hq]
      have HQ := Lib.hid hq
      clear hr hq
      go_enter Try.func57, Try.ntmps57
      go_wp2_with (go_at_call 69; refine (seq_right l _ false HQ.out).mono ?_; rintro e w' ⟨rfl, rfl⟩)
      go_ret
      exact ⟨rfl, rfl⟩
    · obtain ⟨l0, l1⟩ := of_right hq
      rw [follows_yes l0 l1] at hr
      obtain ⟨v, hv⟩ : ∃ v, addI l 1 = v := ⟨_, rfl⟩
      rw [hv] at hr
      have HV := Lib.hid hv
      have HQ := Lib.hid hq
      by_cases hf : f = v
      · subst hf
        obtain rfl : r = true := by rw [← hr]; exact decide_eq_true rfl
        clear hr hv hq
        go_enter Try.func57, Try.ntmps57
        go_wp2_with (first | (go_at_call 69; refine (seq_right l _ true HQ.out).mono ?_; rintro e w' ⟨rfl, rfl⟩) | (go_at_call 68; refine (seq_add l _ _ f (by omega) (by omega) HV.out).mono ?_; rintro e w' ⟨rfl, rfl⟩))
        go_ret
        exact ⟨rfl, rfl⟩
      · obtain rfl : r = false := by rw [← hr]; exact decide_eq_false hf
        have hf1 : (f == v) = false := by simpa using hf
        clear hr hv hq
        go_enter Try.func57, Try.ntmps57
        go_wp2_with (first | (go_at_call 69; refine (seq_right l _ true HQ.out).mono ?_; rintro e w' ⟨rfl, rfl⟩) | (go_at_call 68; refine (seq_add l _ _ v (by omega) (by omega) HV.out).mono ?_; rintro e w' ⟨rfl, rfl⟩))
        go_ret
        exact ⟨rfl, rfl⟩
end Go.Proofs.Ytinilkkpocnnpaa
namespace Go.Proofs.Ytinilkkpocnnpaa
open Go.RowKit
open Go.SeqMath
open Go.ProdMath
open Go.BatMath hiding AllB getD_lt take_all
set_option linter.unusedVariables false

/-- Three numbers as a value. -/
def Tr.val (x : Tr) : Value := .agg #[.int .i64 x.f, .int .i64 x.l, .int .i64 x.b]
theorem eq_three (a b c d e f : Int) (w : World) : (Op.equalIn 10000 59 (.agg #[.int .i64 a, .int .i64 b, .int .i64 c]) (.agg #[.int .i64 d, .int .i64 e, .int .i64 f])).run Try.prog w = .ok (a == d && (b == e && c == f)) w := by
  have u3 := Try.underlying2
  have a3 := Try.isAgg2
  have z3 := Try.sizeOf2
  rw [show (10000 : Nat) = 9999 + 1 from rfl, Op.equalIn]
  simp only [Sem.run_bind, run_underlying Try.underlying59, Result.andThen_ok]
  simp only [Std.Legacy.Range.forIn_eq_forIn_range', Std.Legacy.Range.size, Nat.sub_zero, Nat.add_sub_cancel, Nat.div_one, List.range'_succ, List.range'_zero, List.forIn_cons, List.forIn_nil]
  go_simp
  by_cases h1 : a = d <;> by_cases h2 : b = e <;> by_cases h3 : c = f <;> simp [h1, h2, h3]
theorem guard_three : Try.prog.eqGuardType Try.prog.depth 59 = false := by kernel_rfl
theorem neq_three (a b c d e f : Int) (r : Bool) (hr : (a == d && (b == e && c == f)) = r) (w : World) : (binOp .neq 59 (.agg #[.int .i64 a, .int .i64 b, .int .i64 c]) (.agg #[.int .i64 d, .int .i64 e, .int .i64 f])).run Try.prog w = .ok (.bool (!r)) w := by
  rw [run_neq_struct, eq_three, hr]; rfl
theorem eql_three (a b c d e f : Int) (r : Bool) (hr : (a == d && (b == e && c == f)) = r) (w : World) : (binOp .eql 59 (.agg #[.int .i64 a, .int .i64 b, .int .i64 c]) (.agg #[.int .i64 d, .int .i64 e, .int .i64 f])).run Try.prog w = .ok (.bool r) w := by
  rw [run_eql_struct, eq_three, hr]; rfl
theorem prOpen_any (w : World) (id ep op : Int) (ad : Option Addr) (n cap : Nat) (r : Bool) (hr : decide (0 ≤ op) = r) :
    Calls Try.prog 36 #[.agg #[.int .i64 id, .int .i64 ep, .slice ad n cap, .int .i64 op]] w fun e w' => e = .returned (.bool r) ∧ Below w.heap.size w w' := by
  have HR := Lib.hid hr
  clear hr
  obtain ⟨W0, hW0⟩ : ∃ W0, W0 = (w.alloc (.cells #[.int .i64 id, .int .i64 ep, .slice ad n cap, .int .i64 op] 40)) := ⟨_, rfl⟩
  have HB0 : Hid (Below w.heap.size w W0) := by show Below _ _ _; rw [hW0]; exact (Below.refl _ _).alloc (Nat.le_refl _) _
  have HP0 : Hid (PBox W0 w.heap.size (id) (ep) (.slice ad n cap) (op)) := by
    show PBox _ w.heap.size (id) (ep) (.slice ad n cap) (op)
    rw [hW0]
    have h1 := pbox_new w (id) (ep) (.slice ad n cap) (op)
    simpa using h1
  have HW0 := Lib.hid hW0
  clear hW0
  obtain ⟨B1, hB1⟩ : ∃ B, B = w.heap.size := ⟨_, rfl⟩
  rw [← hB1] at HP0
  go_enter Try.func36, Try.ntmps36
  go_upto_region 1 with fail
  rw [← HW0.out, ← hB1]
  clear HW0 hB1
  have q3 := HP0.out.c3
  go_wp2
  go_ret
  exact ⟨by rw [← HR.out]; rfl, HB0.out⟩
theorem prOffset_any (w : World) (n : Int) (r : Bool) (hr : (decide (0 ≤ n) && decide (n ≤ 1099511627776)) = r) :
    Calls Try.prog 37 #[.int .i64 n] w fun e w' => e = .returned (.bool r) ∧ w = w' := by
  have HR := Lib.hid hr
  clear hr
  by_cases h0 : 0 ≤ n
  · have hd0 : decide (0 ≤ n) = true := decide_eq_true h0
    go_enter Try.func37, Try.ntmps37
    go_wp2
    go_ret
    exact ⟨by rw [← HR.out, hd0]; rfl, rfl⟩
  · have hd0 : decide (0 ≤ n) = false := decide_eq_false h0
    go_enter Try.func37, Try.ntmps37
    go_wp2
    go_ret
    exact ⟨by rw [← HR.out, hd0]; rfl, rfl⟩
set_option maxHeartbeats 1000000 in
theorem prEnd_any (w : World) (b0 b1 b2 b3 : Int) (b4 : Bool) (b5 : Int) (rd : Option Addr) (rn rc : Nat) (hm : b5 = 0) (hrn : rn ≤ 140737488355328) (v : Int) (hv : lastI b3 rn = v) :
    Calls Try.prog 35 #[.agg #[.int .i64 b0, .int .i64 b1, .int .i64 b2, .int .i64 b3, .bool b4, .int .i64 b5, .slice rd rn rc]] w fun e w' => e = .returned (.int .i64 v) ∧ Below w.heap.size w w' := by
  have HM := Lib.hid hm
  have HV := Lib.hid hv
  clear hm hv
  obtain ⟨W0, hW0⟩ : ∃ W0, W0 = (w.alloc (.cells #[.int .i64 b0, .int .i64 b1, .int .i64 b2, .int .i64 b3, .bool b4, .int .i64 b5, .slice rd rn rc] 33)) := ⟨_, rfl⟩
  have HB0 : Hid (Below w.heap.size w W0) := by show Below _ _ _; rw [hW0]; exact (Below.refl _ _).alloc (Nat.le_refl _) _
  have HX0 : Hid (BoxAt W0 w.heap.size b0 b1 b2 b3 b4 b5 (.slice rd rn rc)) := by
    show BoxAt _ w.heap.size b0 b1 b2 b3 b4 b5 (.slice rd rn rc)
    rw [hW0]
    have h1 := boxAt_new w b0 b1 b2 b3 b4 b5 (.slice rd rn rc)
    simpa using h1
  have HW0 := Lib.hid hW0
  clear hW0
  obtain ⟨B1, hB1⟩ : ∃ B, B = w.heap.size := ⟨_, rfl⟩
  rw [← hB1] at HX0
  go_enter Try.func35, Try.ntmps35
  go_upto_region 1 with fail
  rw [← HW0.out, ← hB1]
  clear HW0 hB1
  have KS : Hid (∀ W, Below W0.heap.size W0 W → (fun (W : World) => W.cell? ⟨B1, 0, none⟩ = some (.int .i64 b0) ∧ W.cell? ⟨B1, 1, none⟩ = some (.int .i64 b1) ∧ W.cell? ⟨B1, 2, none⟩ = some (.int .i64 b2) ∧ W.cell? ⟨B1, 3, none⟩ = some (.int .i64 b3) ∧ W.cell? ⟨B1, 4, none⟩ = some (.bool b4) ∧ W.cell? ⟨B1, 5, none⟩ = some (.int .i64 b5) ∧ W.cell? ⟨B1, 6, none⟩ = some (.slice rd rn rc) ∧ Below W0.heap.size W0 W) W) := by
    intro W hW
    have hX := HX0.out.on hW
    exact ⟨hX.c0, hX.c1, hX.c2, hX.c3, hX.c4, hX.c5, hX.c6, hW⟩
  refine wp_region_noPanic ?_
  refine wp_region_z [] (fun (W : World) => W.cell? ⟨B1, 0, none⟩ = some (.int .i64 b0) ∧ W.cell? ⟨B1, 1, none⟩ = some (.int .i64 b1) ∧ W.cell? ⟨B1, 2, none⟩ = some (.int .i64 b2) ∧ W.cell? ⟨B1, 3, none⟩ = some (.int .i64 b3) ∧ W.cell? ⟨B1, 4, none⟩ = some (.bool b4) ∧ W.cell? ⟨B1, 5, none⟩ = some (.int .i64 b5) ∧ W.cell? ⟨B1, 6, none⟩ = some (.slice rd rn rc) ∧ Below W0.heap.size W0 W) (by kernel_rfl) ?_
  have hHeld : (fun (W : World) => W.cell? ⟨B1, 0, none⟩ = some (.int .i64 b0) ∧ W.cell? ⟨B1, 1, none⟩ = some (.int .i64 b1) ∧ W.cell? ⟨B1, 2, none⟩ = some (.int .i64 b2) ∧ W.cell? ⟨B1, 3, none⟩ = some (.int .i64 b3) ∧ W.cell? ⟨B1, 4, none⟩ = some (.bool b4) ∧ W.cell? ⟨B1, 5, none⟩ = some (.int .i64 b5) ∧ W.cell? ⟨B1, 6, none⟩ = some (.slice rd rn rc) ∧ Below W0.heap.size W0 W) _ := KS.out _ (Below.refl _ W0).drew
  obtain ⟨u0, hu0⟩ : ∃ u, u = W0.drew := ⟨_, rfl⟩
  have HU0 : Hid (Below W0.heap.size W0 u0) := by show Below _ _ _; rw [hu0]; exact (Below.refl _ W0).drew
  rw [← hu0] at hHeld
  rw [← hu0]
  clear hu0
  refine wpAnyZ_take (i := 0) (oi := ⟨_, _, _, _, _, _⟩) (v := ?_) rfl (by kernel_rfl) (by kernel_rfl) (by kernel_rfl) (by kernel_rfl) (by kernel_rfl) (fun _ _ _ h => h) (Or.inl ⟨by rfl, ?_⟩) (by assumption) ?_
  rotate_left
  · intro W hSw
    (try dsimp only at hSw)
    go_simp
    (try with_reducible rfl)
  (try simp only [Act.put, List.setIfInBounds_toArray, List.set_cons_zero, List.set_cons_succ])
  refine wpAnyZ_take (i := 1) (oi := ⟨_, _, _, _, _, _⟩) (v := ?_) rfl (by kernel_rfl) (by kernel_rfl) (by kernel_rfl) (by kernel_rfl) (by kernel_rfl) (fun _ _ _ h => h) (Or.inl ⟨by rfl, ?_⟩) (by assumption) ?_
  rotate_left
  · intro W hSw
    (try dsimp only at hSw)
    go_simp
    (try with_reducible rfl)
  (try simp only [Act.put, List.setIfInBounds_toArray, List.set_cons_zero, List.set_cons_succ])
  refine wpAnyZ_take (i := 2) (oi := ⟨_, _, _, _, _, _⟩) (v := ?_) rfl (by kernel_rfl) (by kernel_rfl) (by kernel_rfl) (by kernel_rfl) (by kernel_rfl) (fun _ _ _ h => h) (Or.inl ⟨by rfl, ?_⟩) (by assumption) ?_
  rotate_left
  · intro W hSw
    (try dsimp only at hSw)
    go_simp
    (try with_reducible rfl)
  (try simp only [Act.put, List.setIfInBounds_toArray, List.set_cons_zero, List.set_cons_succ])
  refine wpAnyZ_ready (rs := [3]) (by kernel_rfl) (by simp) ?_
  refine AllReadyZ.cons (o := ⟨_, _, _, _, _, _⟩) rfl (fun C hC => ?_) AllReadyZ.nil
  go_simp
  refine (batCount_any u0 b0 b1 b2 b3 b4 b5 rd rn rc (rn : Int) (by rw [if_neg (fun h => h HM.out)])).mono ?_
  rintro e u1 ⟨rfl, hb1⟩
  have HU1 := Lib.hid (HU0.out.trans (hb1.mono HU0.out.size))
  clear hb1
  go_wp2_with fail
  have hHeld : (fun (W : World) => W.cell? ⟨B1, 0, none⟩ = some (.int .i64 b0) ∧ W.cell? ⟨B1, 1, none⟩ = some (.int .i64 b1) ∧ W.cell? ⟨B1, 2, none⟩ = some (.int .i64 b2) ∧ W.cell? ⟨B1, 3, none⟩ = some (.int .i64 b3) ∧ W.cell? ⟨B1, 4, none⟩ = some (.bool b4) ∧ W.cell? ⟨B1, 5, none⟩ = some (.int .i64 b5) ∧ W.cell? ⟨B1, 6, none⟩ = some (.slice rd rn rc) ∧ Below W0.heap.size W0 W) u1 := KS.out _ HU1.out
  refine hC.out _ _ (fun _ => hHeld) (fun _ => ?_)
  clear hC C
  (try simp only [Act.put, List.setIfInBounds_toArray, List.set_cons_zero, List.set_cons_succ])
  refine wpAnyZ_ready (rs := [4]) (by kernel_rfl) (by simp) ?_
  refine AllReadyZ.cons (o := ⟨_, _, _, _, _, _⟩) rfl (fun C hC => ?_) AllReadyZ.nil
  go_simp
  refine (seq_last b3 rn u1 v (by omega) (by omega) HV.out).mono ?_
  rintro e u2 ⟨rfl, rfl⟩
  go_wp2_with fail
  have hHeld : (fun (W : World) => W.cell? ⟨B1, 0, none⟩ = some (.int .i64 b0) ∧ W.cell? ⟨B1, 1, none⟩ = some (.int .i64 b1) ∧ W.cell? ⟨B1, 2, none⟩ = some (.int .i64 b2) ∧ W.cell? ⟨B1, 3, none⟩ = some (.int .i64 b3) ∧ W.cell? ⟨B1, 4, none⟩ = some (.bool b4) ∧ W.cell? ⟨B1, 5, none⟩ = some (.int .i64 b5) ∧ W.cell? ⟨B1, 6, none⟩ = some (.slice rd rn rc) ∧ Below W0.heap.size W0 W) _ := hHeld
  refine hC.out _ _ (fun _ => hHeld) (fun _ => ?_)
  clear hC C
  (try simp only [Act.put, List.setIfInBounds_toArray, List.set_cons_zero, List.set_cons_succ])
  refine wpAnyZ_take (i := 5) (oi := ⟨_, _, _, _, _, _⟩) (v := ?_) rfl (by kernel_rfl) (by kernel_rfl) (by kernel_rfl) (by kernel_rfl) (by kernel_rfl) (fun _ _ _ h => h) (Or.inl ⟨by rfl, ?_⟩) (by assumption) ?_
  rotate_left
  · intro W hSw
    (try dsimp only at hSw)
    go_simp
    (try with_reducible rfl)
  (try simp only [Act.put, List.setIfInBounds_toArray, List.set_cons_zero, List.set_cons_succ])
  refine wpAnyZ_done (by kernel_rfl) ?_ _
  refine NoPanic.normal ?_
  clear hHeld
  go_wp2
  go_ret
  exact ⟨rfl, HB0.out.trans (HU1.out.mono HB0.out.size)⟩
theorem trOk_iff {x : Tr} {r : Bool} (hr : r = true ↔ TrOk x) : r = (decide (0 ≤ gapI x.f x.l) && decide (gapI x.f x.l < 16) && (decide (0 ≤ x.b) && decide (x.b ≤ 1099511627776))) := by
  rw [Bool.eq_iff_iff, hr]
  simp [TrOk, and_assoc]
theorem trNext_iff {y x : Tr} {r : Bool} (hr : r = true ↔ TrNext y x) : r = (decide (y.b < x.b) && followsB y.l x.f) := by
  rw [Bool.eq_iff_iff, hr]
  simp [TrNext]
set_option maxHeartbeats 1000000 in
theorem prElement_any (w : World) (x : Tr) (r : Bool) (hr : r = true ↔ TrOk x) :
    Calls Try.prog 38 #[.agg #[.int .i64 x.f, .int .i64 x.l, .int .i64 x.b]] w fun e w' => e = .returned (.bool r) ∧ Below w.heap.size w w' := by
  have HR := Lib.hid (trOk_iff hr)
  clear hr
  obtain ⟨g, hg⟩ : ∃ g, gapI x.f x.l = g := ⟨_, rfl⟩
  rw [hg] at HR
  have HG := Lib.hid hg
  clear hg
  obtain ⟨o, ho⟩ : ∃ o, (decide (0 ≤ x.b) && decide (x.b ≤ 1099511627776)) = o := ⟨_, rfl⟩
  rw [ho] at HR
  have HO := Lib.hid ho
  clear ho
  obtain ⟨W0, hW0⟩ : ∃ W0, W0 = (w.alloc (.cells #[.int .i64 x.f, .int .i64 x.l, .int .i64 x.b] 59)) := ⟨_, rfl⟩
  have HB0 : Hid (Below w.heap.size w W0) := by show Below _ _ _; rw [hW0]; exact (Below.refl _ _).alloc (Nat.le_refl _) _
  have HT0 : Hid (TBox W0 w.heap.size x) := by
    show TBox _ w.heap.size x
    rw [hW0]
    have h1 := tbox_new w x
    simpa using h1
  have HW0 := Lib.hid hW0
  clear hW0
  obtain ⟨B1, hB1⟩ : ∃ B, B = w.heap.size := ⟨_, rfl⟩
  rw [← hB1] at HT0
  go_enter Try.func38, Try.ntmps38
  go_upto_region 1 with fail
  rw [← HW0.out, ← hB1]
  clear HW0 hB1
  have t0 := HT0.out.c0
  have t1 := HT0.out.c1
  have t2 := HT0.out.c2
  by_cases h0 : 0 ≤ g
  · have hd0 : decide (0 ≤ g) = true := decide_eq_true h0
    by_cases h1 : g < 16
    · have hd1 : decide (g < 16) = true := decide_eq_true h1
      have HE : Hid (r = o) := by show r = o; rw [HR.out, hd0, hd1]; rfl
      clear HR h0 h1
      go_wp2_with fail
      refine (seq_gap x.f x.l _ g HG.out).mono ?_
      rintro e w' ⟨rfl, rfl⟩
      go_wp2_with fail
      refine (prOffset_any _ x.b o HO.out).mono ?_
      rintro e w' ⟨rfl, rfl⟩
      go_wp2
      go_ret
      exact ⟨by rw [HE.out]; rfl, HB0.out⟩
    · have hd1 : decide (g < 16) = false := decide_eq_false h1
      have HE : Hid (r = false) := by show r = _; rw [HR.out, hd0, hd1]; rfl
      clear HR h0 h1
      go_wp2_with fail
      refine (seq_gap x.f x.l _ g HG.out).mono ?_
      rintro e w' ⟨rfl, rfl⟩
      go_wp2
      go_ret
      exact ⟨by rw [HE.out]; rfl, HB0.out⟩
  · have hd0 : decide (0 ≤ g) = false := decide_eq_false h0
    have HE : Hid (r = false) := by show r = _; rw [HR.out, hd0]; rfl
    clear HR h0
    go_wp2_with fail
    refine (seq_gap x.f x.l _ g HG.out).mono ?_
    rintro e w' ⟨rfl, rfl⟩
    go_wp2
    go_ret
    exact ⟨by rw [HE.out]; rfl, HB0.out⟩
theorem prBehind_any (w : World) (y x : Tr) (r : Bool) (hr : r = true ↔ TrNext y x) :
    Calls Try.prog 39 #[.agg #[.int .i64 y.f, .int .i64 y.l, .int .i64 y.b], .agg #[.int .i64 x.f, .int .i64 x.l, .int .i64 x.b]] w fun e w' => e = .returned (.bool r) ∧ Below w.heap.size w w' := by
  have HR := Lib.hid (trNext_iff hr)
  clear hr
  obtain ⟨o, ho⟩ : ∃ o, followsB y.l x.f = o := ⟨_, rfl⟩
  rw [ho] at HR
  have HO := Lib.hid ho
  clear ho
  obtain ⟨W0, hW0⟩ : ∃ W0, W0 = ((w.alloc (.cells #[.int .i64 y.f, .int .i64 y.l, .int .i64 y.b] 59)).alloc (.cells #[.int .i64 x.f, .int .i64 x.l, .int .i64 x.b] 59)) := ⟨_, rfl⟩
  have HB0 : Hid (Below w.heap.size w W0) := by show Below _ _ _; rw [hW0]; exact ((Below.refl _ _).alloc (Nat.le_refl _) _).alloc (by simp) _
  have HT0 : Hid (TBox W0 w.heap.size y) := by
    show TBox _ w.heap.size y
    rw [hW0]
    have h1 := tbox_new w y
    have h2 := h1.on ((Below.refl _ _).alloc (Nat.le_refl _) (.cells #[.int .i64 x.f, .int .i64 x.l, .int .i64 x.b] 59))
    simpa using h2
  have HT1 : Hid (TBox W0 (w.heap.size + 1) x) := by
    show TBox _ (w.heap.size + 1) x
    rw [hW0]
    have h1 := tbox_new (w.alloc (.cells #[.int .i64 y.f, .int .i64 y.l, .int .i64 y.b] 59)) x
    simpa using h1
  have HW0 := Lib.hid hW0
  clear hW0
  obtain ⟨B1, hB1⟩ : ∃ B, B = w.heap.size := ⟨_, rfl⟩
  obtain ⟨B2, hB2⟩ : ∃ B, B = w.heap.size + 1 := ⟨_, rfl⟩
  rw [← hB1] at HT0
  rw [← hB2] at HT1
  go_enter Try.func39, Try.ntmps39
  go_upto_region 1 with fail
  rw [← HW0.out, ← hB2, ← hB1]
  clear HW0 hB1 hB2
  have t0 := HT0.out.c0
  have t1 := HT0.out.c1
  have t2 := HT0.out.c2
  have s0 := HT1.out.c0
  have s1 := HT1.out.c1
  have s2 := HT1.out.c2
  by_cases h0 : y.b < x.b
  · have hd0 : decide (y.b < x.b) = true := decide_eq_true h0
    have HE : Hid (r = o) := by show r = o; rw [HR.out, hd0]; rfl
    clear HR h0
    go_wp2_with fail
    refine (seq_follows y.l x.f _ o HO.out).mono ?_
    rintro e w' ⟨rfl, rfl⟩
    go_wp2
    go_ret
    exact ⟨by rw [HE.out]; rfl, HB0.out⟩
  · have hd0 : decide (y.b < x.b) = false := decide_eq_false h0
    have HE : Hid (r = false) := by show r = _; rw [HR.out, hd0]; rfl
    clear HR h0
    go_wp2
    go_ret
    exact ⟨by rw [HE.out]; rfl, HB0.out⟩
end Go.Proofs.Ytinilkkpocnnpaa
