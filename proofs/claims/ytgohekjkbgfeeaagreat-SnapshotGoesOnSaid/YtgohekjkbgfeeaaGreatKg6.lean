/- Parts of a proof, merged: TapeBatch, BatLaw1, ProdMem, RegionZ. -/
import Derived.Deep.CutRange
import Derived.Deep.CutBlock
import Derived.Deep.RegionHeld3
import Derived.Test.YtgohekjkbgfeeaaGreatKg5
import Derived.Test.YtgohekjkbgfeeaaGreatKg3
import Derived.Test.YtgohekjkbgfeeaaGreatKg4
namespace Go.Proofs.YtgohekjkbgfeeaaGreat
open Go.RowKit
open Go.SeqMath
open Go.BatMath hiding AllB getD_lt take_all
set_option linter.unusedVariables false

theorem TapeAt.other {w : World} {kt len cap i k j : Nat} {ad : Option Addr} (h : TapeAt w kt ad len cap i) (hk : kt < k) (u : Value) : TapeAt (w.setCell ⟨k, j, none⟩ u) kt ad len cap i := by
  have hx : ∀ b, b < k → (w.setCell ⟨k, j, none⟩ u).heap[b]? = w.heap[b]? := fun b hb => by
    show (w.heap.modify k _)[b]? = _
    rw [Array.getElem?_modify, if_neg (by omega)]
  refine ⟨(hx kt hk).trans h.blk, h.le, h.big, fun j' hj => ?_⟩
  obtain ⟨b, off, n, e, hne, hc, hn⟩ := h.nums j' hj
  exact ⟨b, off, n, e, hne, (World.cell?_of_block (a := ⟨b, off + j', none⟩) (hx b (by omega))).trans hc, hn⟩
/-- Block kt is a tape, wherever it stands. -/
def TapeT (w : World) (kt : Nat) (ad : Option Addr) (len cap : Nat) : Prop := ∃ i, TapeAt w kt ad len cap i
theorem TapeT.other {w : World} {kt len cap k j : Nat} {ad : Option Addr} (h : TapeT w kt ad len cap) (hk : kt < k) (u : Value) : TapeT (w.setCell ⟨k, j, none⟩ u) kt ad len cap := by
  obtain ⟨i, h⟩ := h
  exact ⟨i, h.other hk u⟩
/-- The walk's state: the batch that is being made, the result that is none yet, the tape, what has turned since w. -/
structure TB (w : World) (kt : Nat) (ad : Option Addr) (len cap kr kb : Nat) (b0 b1 b2 b3 : Int) (b4 : Bool) (b5 : Int) (v : Value) (W : World) : Prop where
  box : BoxAt W kb b0 b1 b2 b3 b4 b5 v
  res : BoxAt W kr 0 0 0 0 false 0 (.slice none 0 0)
  lo : w.heap.size ≤ kb
  lr : w.heap.size ≤ kr
  ne : kb ≠ kr
  ht : kt < w.heap.size
  tape : TapeT W kt ad len cap
  grow : w.grownBy W (some kt)
section
variable {w W W' : World} {kt len cap kr kb : Nat} {ad : Option Addr} {b0 b1 b2 b3 : Int} {b4 : Bool} {b5 : Int} {v : Value}
theorem TB.s2 (h : TB w kt ad len cap kr kb b0 b1 b2 b3 b4 b5 v W) (n : Int) : TB w kt ad len cap kr kb b0 b1 n b3 b4 b5 v (W.setCell ⟨kb, 2, none⟩ (.int .i64 n)) := ⟨h.box.s2 n, h.res.off h.ne _, h.lo, h.lr, h.ne, h.ht, h.tape.other (by have := h.lo; have := h.ht; omega) _, grow_new h.grow h.lo _⟩
theorem TB.s3 (h : TB w kt ad len cap kr kb b0 b1 b2 b3 b4 b5 v W) (n : Int) : TB w kt ad len cap kr kb b0 b1 b2 n b4 b5 v (W.setCell ⟨kb, 3, none⟩ (.int .i64 n)) := ⟨h.box.s3 n, h.res.off h.ne _, h.lo, h.lr, h.ne, h.ht, h.tape.other (by have := h.lo; have := h.ht; omega) _, grow_new h.grow h.lo _⟩
theorem TB.s4 (h : TB w kt ad len cap kr kb b0 b1 b2 b3 b4 b5 v W) (n : Bool) : TB w kt ad len cap kr kb b0 b1 b2 b3 n b5 v (W.setCell ⟨kb, 4, none⟩ (.bool n)) := ⟨h.box.s4 n, h.res.off h.ne _, h.lo, h.lr, h.ne, h.ht, h.tape.other (by have := h.lo; have := h.ht; omega) _, grow_new h.grow h.lo _⟩
theorem TB.s5 (h : TB w kt ad len cap kr kb b0 b1 b2 b3 b4 b5 v W) (n : Int) : TB w kt ad len cap kr kb b0 b1 b2 b3 b4 n v (W.setCell ⟨kb, 5, none⟩ (.int .i64 n)) := ⟨h.box.s5 n, h.res.off h.ne _, h.lo, h.lr, h.ne, h.ht, h.tape.other (by have := h.lo; have := h.ht; omega) _, grow_new h.grow h.lo _⟩
theorem TB.s6 (h : TB w kt ad len cap kr kb b0 b1 b2 b3 b4 b5 v W) (n : Value) : TB w kt ad len cap kr kb b0 b1 b2 b3 b4 b5 n (W.setCell ⟨kb, 6, none⟩ n) := ⟨h.box.s6 n, h.res.off h.ne _, h.lo, h.lr, h.ne, h.ht, h.tape.other (by have := h.lo; have := h.ht; omega) _, grow_new h.grow h.lo _⟩
theorem TB.next (h : TB w kt ad len cap kr kb b0 b1 b2 b3 b4 b5 v W) (hg : W.grownBy W' (some kt)) (ht : TapeT W' kt ad len cap) : TB w kt ad len cap kr kb b0 b1 b2 b3 b4 b5 v W' :=
  ⟨h.box.tape hg (by have := h.lo; have := h.ht; omega), h.res.tape hg (by have := h.lr; have := h.ht; omega), h.lo, h.lr, h.ne, h.ht, ht, grow_trans h.grow hg⟩
end
theorem resultsTape {tmps : Array Value} {B : Nat} {W : World} {b0 b1 b2 b3 : Int} {b4 : Bool} {b5 : Int} {v : Value} (h : BoxAt W B b0 b1 b2 b3 b4 b5 v) (ht : tmps.getD 4 undef = .pointer (some ⟨B, 0, none⟩)) :
    (results Tryz.f51 tmps).run Tryz.prog W = .ok (.agg #[.int .i64 b0, .int .i64 b1, .int .i64 b2, .int .i64 b3, .bool b4, .int .i64 b5, v]) W := by
  rw [results_cell_one (p := 4) (ty := 56) Tryz.results51, ht]
  have hl := run_loadVar_row (P := Tryz.prog) W B 56 56 _ (0, 0) _ h Tryz.underlying56 rfl (by kernel_rfl)
  simp only [asAddr, Sem.run_pure, Result.andThen, hl]
/-- A batch that is right, with this base, its records in new memory. -/
def GivesTape (w : World) (kt : Nat) (ad : Option Addr) (len cap : Nat) (base : Int) (e : Ending) (w' : World) : Prop :=
  ∃ (b : Bat) (ad' : Option Addr) (cap' : Nat), e = .returned (.agg #[.int .i64 b.base, .int .i64 b.prod, .int .i64 b.epoch, .int .i64 b.seq, .bool b.txn, .int .i64 b.marker, .slice ad' b.recs.length cap']) ∧
    b.base = base ∧ rightE b = 0 ∧ b.wf ∧ RecsAt w' ad' b.recs.length cap' b.recs ∧ (∀ a, ad' = some a → w.heap.size ≤ a.block) ∧ TapeT w' kt ad len cap ∧ w.grownBy w' (some kt)
/-- What the last statement leaves: the batch is copied into the result. -/
theorem gives_tape {w W : World} {kt len cap kr kb n cap' : Nat} {ad ad' : Option Addr} {b : Bat} {base : Int} {x0 x1 x2 x3 : Int} {x4 : Bool} {x5 : Int} {xv : Value} {u0 u1 u2 u3 u4 u5 u6 : Value} (hT : TB w kt ad len cap kr kb x0 x1 x2 x3 x4 x5 xv W) (hb : b.base = base) (ho : rightE b = 0) (hw : b.wf) (hn : b.recs.length = n) (hr : RecsAt W ad' n cap' b.recs) (hk : ∀ a, ad' = some a → kr < a.block) :
    GivesTape w kt ad len cap base (.returned (.agg #[.int .i64 b.base, .int .i64 b.prod, .int .i64 b.epoch, .int .i64 b.seq, .bool b.txn, .int .i64 b.marker, .slice ad' n cap'])) (((((((W.setCell ⟨kr, 0, none⟩ u0).setCell ⟨kr, 1, none⟩ u1).setCell ⟨kr, 2, none⟩ u2).setCell ⟨kr, 3, none⟩ u3).setCell ⟨kr, 4, none⟩ u4).setCell ⟨kr, 5, none⟩ u5).setCell ⟨kr, 6, none⟩ u6) := by
  subst hn
  have hlr := hT.lr
  have hlt : kt < kr := by have := hT.ht; omega
  refine ⟨b, ad', cap', rfl, hb, ho, hw, ((((((hr.put hk).put hk).put hk).put hk).put hk).put hk).put hk, (fun a h => by have := hk a h; omega), ((((((hT.tape.other hlt _).other hlt _).other hlt _).other hlt _).other hlt _).other hlt _).other hlt _, ?_⟩
  exact grow_new (grow_new (grow_new (grow_new (grow_new (grow_new (grow_new hT.grow hlr _) hlr _) hlr _) hlr _) hlr _) hlr _) hlr _
theorem right_none {base : Int} {l : List Rc} (h0 : 0 ≤ base) (h1 : base ≤ 1099511627776) (hl : 1 ≤ l.length) (hm : l.length ≤ 4) (hs : ∀ r ∈ l, r.key.size ≤ 64 ∧ r.val.size ≤ 64) : rightE ⟨base, -1, -1, -1, false, 0, l⟩ = 0 := by
  refine e_fine h0 h1 rfl ⟨.inl rfl, fun h => ?_⟩ ?_
  · simp only at h; rw [h] at hl; simp at hl
  · rintro (h | ⟨r, hr, h⟩)
    · simp only at h; omega
    · have := hs r hr
      rcases h with h | h <;> omega
theorem right_data {base p e s : Int} {t : Bool} {l : List Rc} (h0 : 0 ≤ base) (h1 : base ≤ 1099511627776) (p0 : 0 ≤ p) (e0 : 0 ≤ e) (e1 : e ≤ 32767) (s0 : 0 ≤ s) (s1 : s ≤ 2147483647) (hl : 1 ≤ l.length) (hm : l.length ≤ 4) (hs : ∀ r ∈ l, r.key.size ≤ 64 ∧ r.val.size ≤ 64) : rightE ⟨base, p, e, s, t, 0, l⟩ = 0 := by
  refine e_fine h0 h1 rfl ⟨.inr ⟨?_, right_yes s0 s1⟩, fun h => ?_⟩ ?_
  · unfold headB; simp [p0, e0, e1]
  · simp only at h; rw [h] at hl; simp at hl
  · rintro (h | ⟨r, hr, h⟩)
    · simp only at h; omega
    · have := hs r hr
      rcases h with h | h <;> omega
theorem right_mark {base p e m : Int} (h0 : 0 ≤ base) (h1 : base ≤ 1099511627776) (p0 : 0 ≤ p) (e0 : 0 ≤ e) (e1 : e ≤ 32767) (hm : m = 1 ∨ m = 2) : rightE ⟨base, p, e, -1, true, m, []⟩ = 0 := by
  rw [e_mark h0 h1 (by simp only; omega), if_pos]
  refine ⟨hm, ?_, rfl, rfl, rfl⟩
  unfold headB; simp [p0, e0, e1]
theorem bat_wf {a b c d f : Int} {t : Bool} {l : List Rc} (h0 : In64 a) (h1 : In64 b) (h2 : In64 c) (h3 : In64 d) (h4 : In64 f) : (⟨a, b, c, d, t, f, l⟩ : Bat).wf := ⟨h0, h1, h2, h3, h4⟩
set_option maxRecDepth 100000 in
set_option maxHeartbeats 4000000 in
theorem tapeBatch_any (w : World) (kt : Nat) (ad : Option Addr) (len cap i : Nat) (base : Int) (h : TapeAt w kt ad len cap i) (h0 : 0 ≤ base) (h1 : base ≤ 1099511627776) :
    Calls Tryz.prog 51 #[.pointer (some ⟨kt, 0, none⟩), .int .i64 base] w (GivesTape w kt ad len cap base) := by
  have hkt := h.lt
  have HR0 := Lib.hid (boxAt_new w 0 0 0 0 false 0 (.slice none 0 0))
  have H := Lib.hid (h.on ((Below.refl w.heap.size w).alloc (Nat.le_refl _) (.cells #[.int .i64 0, .int .i64 0, .int .i64 0, .int .i64 0, .bool false, .int .i64 0, .slice none 0 0] 56)))
  have HG0 := Lib.hid (grow_alloc (grow_refl w (some kt)) (.cells #[.int .i64 0, .int .i64 0, .int .i64 0, .int .i64 0, .bool false, .int .i64 0, .slice none 0 0] 56))
  clear h
  go_enter Tryz.func51, Tryz.ntmps51
  go_wp2_with fail
  refine (tapeNext_any _ kt ad len cap i 4 H.out (by omega) (by omega)).mono ?_
  rintro e w1 ⟨v, i1, rfl, v0, v1, ht1, hg1⟩
  obtain ⟨kb, hkb⟩ : ∃ kb, kb = w1.heap.size := ⟨_, rfl⟩
  obtain ⟨kr, hkr⟩ : ∃ kr, kr = w.heap.size := ⟨_, rfl⟩
  have hkk : kr < kb := by rw [hkb, hkr]; exact Nat.lt_of_lt_of_le HR0.out.lt hg1.size
  obtain ⟨p, hp⟩ : ∃ p, p = v - 1 := ⟨_, rfl⟩
  obtain ⟨W2, hW2⟩ : ∃ W2, W2 = w1.alloc (.cells #[.int .i64 base, .int .i64 p, .int .i64 0, .int .i64 0, .bool false, .int .i64 0, .slice none 0 0] 56) := ⟨_, rfl⟩
  have HT2 : Hid (TB w kt ad len cap kr kb base p 0 0 false 0 (.slice none 0 0) W2) := by
    show TB _ _ _ _ _ _ _ _ _ _ _ _ _ _ _
    have hbb : Below w1.heap.size w1 W2 := by rw [hW2]; exact (Below.refl _ _).alloc (Nat.le_refl _) _
    refine ⟨by rw [hW2, hkb]; exact boxAt_new w1 _ _ _ _ _ _ _, ?_, by omega, by omega, by omega, hkt, ⟨i1, ht1.on hbb⟩, grow_below (grow_trans HG0.out hg1) hbb⟩
    have := (HR0.out.tape hg1 (by omega)).on hbb
    rw [hkr]; exact this
  have hpv : v - 1 = p := hp.symm
  have HW2 := Lib.hid hW2
  have p0 : -1 ≤ p := by omega
  have p2 : p ≤ 2 := by omega
  have HKB := Lib.hid hkb
  have HKR := Lib.hid hkr
  clear hkb hkr hW2 hp ht1 hg1
  by_cases hneg : p < 0
  · obtain rfl : p = -1 := by omega
    clear p0 p2
    go_upto_if 13 with (fail)
    rw [← HW2.out, ← HKB.out, ← HKR.out]
    obtain ⟨j1, hj1⟩ := HT2.out.tape
    go_wp2_with fail
    refine (tapeRecs_any W2 kt ad len cap j1 4 hj1 (by omega) (by omega)).mono ?_
    rintro e w3 ⟨l, v', m1, rfl, hown, hl1, hl4, hsz, ht1, hg1⟩
    obtain ⟨ad3, c3, hv3, hrec, hblk⟩ := hown.at
    obtain ⟨nl, hnl⟩ : ∃ nl, l.length = nl := ⟨_, rfl⟩
    rw [hnl] at hv3 hrec hl1 hl4
    subst hv3
    have HN1 := Lib.hid (HT2.out.next hg1 ⟨m1, ht1⟩)
    have HBLK : Hid (∀ a, ad3 = some a → kr < a.block) := fun a h => by have h1 := hblk a h; have h2 := HT2.out.res.lt; omega
    have HBLB : Hid (∀ a, ad3 = some a → kb < a.block) := fun a h => by have h1 := hblk a h; have h2 := HT2.out.box.lt; omega
    have HREC := Lib.hid hrec
    have HNL := Lib.hid hnl
    have HSZ := Lib.hid hsz
    clear hown hrec hblk hnl hsz hj1 ht1 hg1
    have x2 := HN1.out.box.c2
    have f2 := HN1.out.box.free 2
    have x3 := HN1.out.box.c3
    have f3 := HN1.out.box.free 3
    have x6 := HN1.out.box.c6
    have f6 := HN1.out.box.free 6
    go_upto_region 4 with fail
    obtain ⟨W4, hW4⟩ : ∃ W, W = ((w3.setCell ⟨kb, 2, none⟩ (.int .i64 (-1))).setCell ⟨kb, 3, none⟩ (.int .i64 (-1))).setCell ⟨kb, 6, none⟩ (.slice ad3 nl c3) := ⟨_, rfl⟩
    have HSW4 := Lib.hid (show TB w kt ad len cap kr kb base (-1) (-1) (-1) false 0 (.slice ad3 nl c3) W4 by rw [hW4]; exact ((HN1.out.s2 (-1)).s3 (-1)).s6 _)
    rw [← hW4]
    have HREC4 : Hid (RecsAt W4 ad3 nl c3 l) := by show RecsAt _ _ _ _ _; rw [hW4]; exact ((HREC.out.put HBLB.out).put HBLB.out).put HBLB.out
    have HOK := Lib.hid (right_none h0 h1 (by rw [HNL.out]; exact hl1) (by rw [HNL.out]; exact hl4) HSZ.out)
    clear hW4
    clear x2 f2 x3 f3 x6 f6
    have x0 := HSW4.out.box.c0
    have x1 := HSW4.out.box.c1
    have x2 := HSW4.out.box.c2
    have x3 := HSW4.out.box.c3
    have x4 := HSW4.out.box.c4
    have x5 := HSW4.out.box.c5
    have x6 := HSW4.out.box.c6
    have r0 := HSW4.out.res.c0
    have q0 := HSW4.out.res.free 0
    have r1 := HSW4.out.res.c1
    have q1 := HSW4.out.res.free 1
    have r2 := HSW4.out.res.c2
    have q2 := HSW4.out.res.free 2
    have r3 := HSW4.out.res.c3
    have q3 := HSW4.out.res.free 3
    have r4 := HSW4.out.res.c4
    have q4 := HSW4.out.res.free 4
    have r5 := HSW4.out.res.c5
    have q5 := HSW4.out.res.free 5
    have r6 := HSW4.out.res.c6
    have q6 := HSW4.out.res.free 6
    go_wp2
    exact bodyPost_ret (resultsTape (((((((HSW4.out.res.s0 (base)).s1 (-1)).s2 (-1)).s3 (-1)).s4 (false)).s5 (0)).s6 (.slice ad3 nl c3)) rfl) rfl (gives_tape HSW4.out rfl HOK.out (bat_wf ⟨by omega, by omega⟩ ⟨by omega, by omega⟩ ⟨by omega, by omega⟩ ⟨by omega, by omega⟩ ⟨by omega, by omega⟩) HNL.out HREC4.out HBLK.out)
  · have hpos : 0 ≤ p := by omega
    clear hneg p0
    go_upto_if 13 with (fail)
    rw [← HW2.out, ← HKB.out, ← HKR.out]
    obtain ⟨j1, hj1⟩ := HT2.out.tape
    go_wp2_with fail
    refine (tapeNext_any W2 kt ad len cap j1 3 hj1 (by omega) (by omega)).mono ?_
    rintro e w3 ⟨ve, m1, rfl, ve0, ve1, ht1, hg1⟩
    have HN1 := Lib.hid (HT2.out.next hg1 ⟨m1, ht1⟩)
    clear hj1 ht1 hg1
    have x2 := HN1.out.box.c2
    have f2 := HN1.out.box.free 2
    go_upto_region 6 with fail
    obtain ⟨W4, hW4⟩ : ∃ W, W = w3.setCell ⟨kb, 2, none⟩ (.int .i64 ve) := ⟨_, rfl⟩
    have HSW4 := Lib.hid (show TB w kt ad len cap kr kb base p ve 0 false 0 (.slice none 0 0) W4 by rw [hW4]; exact HN1.out.s2 ve)
    rw [← hW4]
    clear x2 f2
    clear hW4
    obtain ⟨j2, hj2⟩ := HSW4.out.tape
    go_wp2_with fail
    refine (tapeNext_any W4 kt ad len cap j2 4 hj2 (by omega) (by omega)).mono ?_
    rintro e w5 ⟨vq, m2, rfl, vq0, vq1, ht2, hg2⟩
    have HN2 := Lib.hid (HSW4.out.next hg2 ⟨m2, ht2⟩)
    clear hj2 ht2 hg2
    by_cases hq : vq = 0
    · subst hq
      obtain ⟨j3, hj3⟩ := HN2.out.tape
      go_wp2_with fail
      refine (tapeNext_any w5 kt ad len cap j3 2 hj3 (by omega) (by omega)).mono ?_
      rintro e w6 ⟨vm, m3, rfl, vm0, vm1, ht3, hg3⟩
      have HN3 := Lib.hid (HN2.out.next hg3 ⟨m3, ht3⟩)
      clear hj3 ht3 hg3
      have x3 := HN3.out.box.c3
      have f3 := HN3.out.box.free 3
      have x4 := HN3.out.box.c4
      have f4 := HN3.out.box.free 4
      have x5 := HN3.out.box.c5
      have f5 := HN3.out.box.free 5
      go_upto_region 8 with fail
      obtain ⟨W7, hW7⟩ : ∃ W, W = ((w6.setCell ⟨kb, 3, none⟩ (.int .i64 (-1))).setCell ⟨kb, 4, none⟩ (.bool true)).setCell ⟨kb, 5, none⟩ (.int .i64 (1 + vm)) := ⟨_, rfl⟩
      have HSW7 := Lib.hid (show TB w kt ad len cap kr kb base p ve (-1) true (1 + vm) (.slice none 0 0) W7 by rw [hW7]; exact ((HN3.out.s3 (-1)).s4 true).s5 (1 + vm))
      rw [← hW7]
      clear x3 f3 x4 f4 x5 f5
      have HOK := Lib.hid (right_mark (m := 1 + vm) h0 h1 hpos ve0 (by omega) (by omega))
      clear hW7
      have x0 := HSW7.out.box.c0
      have x1 := HSW7.out.box.c1
      have x2 := HSW7.out.box.c2
      have x3 := HSW7.out.box.c3
      have x4 := HSW7.out.box.c4
      have x5 := HSW7.out.box.c5
      have x6 := HSW7.out.box.c6
      have r0 := HSW7.out.res.c0
      have q0 := HSW7.out.res.free 0
      have r1 := HSW7.out.res.c1
      have q1 := HSW7.out.res.free 1
      have r2 := HSW7.out.res.c2
      have q2 := HSW7.out.res.free 2
      have r3 := HSW7.out.res.c3
      have q3 := HSW7.out.res.free 3
      have r4 := HSW7.out.res.c4
      have q4 := HSW7.out.res.free 4
      have r5 := HSW7.out.res.c5
      have q5 := HSW7.out.res.free 5
      have r6 := HSW7.out.res.c6
      have q6 := HSW7.out.res.free 6
      go_wp2
      exact bodyPost_ret (resultsTape (((((((HSW7.out.res.s0 (base)).s1 (p)).s2 (ve)).s3 (-1)).s4 (true)).s5 (1 + vm)).s6 (.slice none 0 0)) rfl) rfl (gives_tape HSW7.out rfl HOK.out (bat_wf ⟨by omega, by omega⟩ ⟨by omega, by omega⟩ ⟨by omega, by omega⟩ ⟨by omega, by omega⟩ ⟨by omega, by omega⟩) rfl (recsAt_nil _) (fun a h => by cases h))
    · have hqb : (vq == 0) = false := by simpa using hq
      obtain ⟨j3, hj3⟩ := HN2.out.tape
      go_wp2_with fail
      refine (tapeNext_any w5 kt ad len cap j3 6 hj3 (by omega) (by omega)).mono ?_
      rintro e w6 ⟨vs, m3, rfl, vs0, vs1, ht3, hg3⟩
      have HN3 := Lib.hid (HN2.out.next hg3 ⟨m3, ht3⟩)
      clear hj3 ht3 hg3
      obtain ⟨j4, hj4⟩ := HN3.out.tape
      go_wp2_with fail
      refine (tapeNext_any w6 kt ad len cap j4 2 hj4 (by omega) (by omega)).mono ?_
      rintro e w7 ⟨vt, m4, rfl, vt0, vt1, ht4, hg4⟩
      have HN4 := Lib.hid (HN3.out.next hg4 ⟨m4, ht4⟩)
      clear hj4 ht4 hg4
      obtain ⟨tb, htb⟩ : ∃ tb, (vt == 0) = tb := ⟨_, rfl⟩
      obtain ⟨j5, hj5⟩ := HN4.out.tape
      go_wp2_with fail
      refine (tapeRecs_any w7 kt ad len cap j5 4 hj5 (by omega) (by omega)).mono ?_
      rintro e w8 ⟨l, v', m5, rfl, hown, hl1, hl4, hsz, ht5, hg5⟩
      obtain ⟨ad3, c3, hv3, hrec, hblk⟩ := hown.at
      obtain ⟨nl, hnl⟩ : ∃ nl, l.length = nl := ⟨_, rfl⟩
      rw [hnl] at hv3 hrec hl1 hl4
      subst hv3
      have HN5 := Lib.hid (HN4.out.next hg5 ⟨m5, ht5⟩)
      have HBLK : Hid (∀ a, ad3 = some a → kr < a.block) := fun a h => by have h1 := hblk a h; have h2 := HN4.out.res.lt; omega
      have HBLB : Hid (∀ a, ad3 = some a → kb < a.block) := fun a h => by have h1 := hblk a h; have h2 := HN4.out.box.lt; omega
      have HREC := Lib.hid hrec
      have HNL := Lib.hid hnl
      have HSZ := Lib.hid hsz
      clear hown hrec hblk hnl hsz hj5 ht5 hg5
      have x3 := HN5.out.box.c3
      have f3 := HN5.out.box.free 3
      have x4 := HN5.out.box.c4
      have f4 := HN5.out.box.free 4
      have x6 := HN5.out.box.c6
      have f6 := HN5.out.box.free 6
      go_upto_region 10 with fail
      obtain ⟨W9, hW9⟩ : ∃ W, W = ((w8.setCell ⟨kb, 3, none⟩ (.int .i64 vs)).setCell ⟨kb, 4, none⟩ (.bool tb)).setCell ⟨kb, 6, none⟩ (.slice ad3 nl c3) := ⟨_, rfl⟩
      have HSW9 := Lib.hid (show TB w kt ad len cap kr kb base p ve vs tb 0 (.slice ad3 nl c3) W9 by rw [hW9]; exact ((HN5.out.s3 vs).s4 tb).s6 _)
      rw [← hW9]
      have HREC9 : Hid (RecsAt W9 ad3 nl c3 l) := by show RecsAt _ _ _ _ _; rw [hW9]; exact ((HREC.out.put HBLB.out).put HBLB.out).put HBLB.out
      clear hW9
      clear x3 f3 x4 f4 x6 f6
      obtain ⟨j6, hj6⟩ := HSW9.out.tape
      go_wp2_with fail
      refine (tapeNext_any W9 kt ad len cap j6 9 hj6 (by omega) (by omega)).mono ?_
      rintro e w10 ⟨vz, m6, rfl, vz0, vz1, ht6, hg6⟩
      have HGR := Lib.hid hg6
      have HN6 := Lib.hid (HSW9.out.next hg6 ⟨m6, ht6⟩)
      clear hj6 ht6 hg6
      have HREC10 := Lib.hid (HREC9.out.tape (w' := w10) (kt := kt) HGR.out (fun x hx => by have := HBLK.out x hx; have := HT2.out.lr; omega))
      by_cases hz : vz = 0
      · subst hz
        obtain ⟨j7, hj7⟩ := HN6.out.tape
        go_wp2_with fail
        refine (tapeNext_any w10 kt ad len cap j7 3 hj7 (by omega) (by omega)).mono ?_
        rintro e w11 ⟨vy, m7, rfl, vy0, vy1, ht7, hg7⟩
        have HGR7 := Lib.hid hg7
        have HN7 := Lib.hid (HN6.out.next hg7 ⟨m7, ht7⟩)
        clear hj7 ht7 hg7
        have HREC11 := Lib.hid (HREC10.out.tape (w' := w11) (kt := kt) HGR7.out (fun x hx => by have := HBLK.out x hx; have := HT2.out.lr; omega))
        have x3 := HN7.out.box.c3
        have f3 := HN7.out.box.free 3
        go_upto_region 12 with fail
        obtain ⟨W12, hW12⟩ : ∃ W, W = w11.setCell ⟨kb, 3, none⟩ (.int .i64 (2147483647 - vy)) := ⟨_, rfl⟩
        have HSW12 := Lib.hid (show TB w kt ad len cap kr kb base p ve (2147483647 - vy) tb 0 (.slice ad3 nl c3) W12 by rw [hW12]; exact HN7.out.s3 (2147483647 - vy))
        rw [← hW12]
        clear x3 f3
        have HREC12 : Hid (RecsAt W12 ad3 nl c3 l) := by show RecsAt _ _ _ _ _; rw [hW12]; exact HREC11.out.put HBLB.out
        have HOK := Lib.hid (right_data (p := p) (e := ve) (s := 2147483647 - vy) (t := tb) h0 h1 hpos ve0 (by omega) (by omega) (by omega) (by rw [HNL.out]; exact hl1) (by rw [HNL.out]; exact hl4) HSZ.out)
        clear hW12
        have x0 := HSW12.out.box.c0
        have x1 := HSW12.out.box.c1
        have x2 := HSW12.out.box.c2
        have x3 := HSW12.out.box.c3
        have x4 := HSW12.out.box.c4
        have x5 := HSW12.out.box.c5
        have x6 := HSW12.out.box.c6
        have r0 := HSW12.out.res.c0
        have q0 := HSW12.out.res.free 0
        have r1 := HSW12.out.res.c1
        have q1 := HSW12.out.res.free 1
        have r2 := HSW12.out.res.c2
        have q2 := HSW12.out.res.free 2
        have r3 := HSW12.out.res.c3
        have q3 := HSW12.out.res.free 3
        have r4 := HSW12.out.res.c4
        have q4 := HSW12.out.res.free 4
        have r5 := HSW12.out.res.c5
        have q5 := HSW12.out.res.free 5
        have r6 := HSW12.out.res.c6
        have q6 := HSW12.out.res.free 6
        go_wp2
        exact bodyPost_ret (resultsTape (((((((HSW12.out.res.s0 (base)).s1 (p)).s2 (ve)).s3 (2147483647 - vy)).s4 (tb)).s5 (0)).s6 (.slice ad3 nl c3)) rfl) rfl (gives_tape HSW12.out rfl HOK.out (bat_wf ⟨by omega, by omega⟩ ⟨by omega, by omega⟩ ⟨by omega, by omega⟩ ⟨by omega, by omega⟩ ⟨by omega, by omega⟩) HNL.out HREC12.out HBLK.out)
      · have hzb : (vz == 0) = false := by simpa using hz
        have HOK := Lib.hid (right_data (p := p) (e := ve) (s := vs) (t := tb) h0 h1 hpos ve0 (by omega) vs0 (by omega) (by rw [HNL.out]; exact hl1) (by rw [HNL.out]; exact hl4) HSZ.out)
        have x0 := HN6.out.box.c0
        have x1 := HN6.out.box.c1
        have x2 := HN6.out.box.c2
        have x3 := HN6.out.box.c3
        have x4 := HN6.out.box.c4
        have x5 := HN6.out.box.c5
        have x6 := HN6.out.box.c6
        have r0 := HN6.out.res.c0
        have q0 := HN6.out.res.free 0
        have r1 := HN6.out.res.c1
        have q1 := HN6.out.res.free 1
        have r2 := HN6.out.res.c2
        have q2 := HN6.out.res.free 2
        have r3 := HN6.out.res.c3
        have q3 := HN6.out.res.free 3
        have r4 := HN6.out.res.c4
        have q4 := HN6.out.res.free 4
        have r5 := HN6.out.res.c5
        have q5 := HN6.out.res.free 5
        have r6 := HN6.out.res.c6
        have q6 := HN6.out.res.free 6
        go_wp2
        exact bodyPost_ret (resultsTape (((((((HN6.out.res.s0 (base)).s1 (p)).s2 (ve)).s3 (vs)).s4 (tb)).s5 (0)).s6 (.slice ad3 nl c3)) rfl) rfl (gives_tape HN6.out rfl HOK.out (bat_wf ⟨by omega, by omega⟩ ⟨by omega, by omega⟩ ⟨by omega, by omega⟩ ⟨by omega, by omega⟩ ⟨by omega, by omega⟩) HNL.out HREC10.out HBLK.out)
end Go.Proofs.YtgohekjkbgfeeaaGreat
namespace Go.Proofs.YtgohekjkbgfeeaaGreat
open Go.RowKit
open Go.SeqMath
open Go.BatMath hiding AllB getD_lt take_all
open Go.VarMath (longB length_longB)
set_option linter.unusedVariables false

theorem texts_of {l : List Rc} (h : ∀ r ∈ l, r.key.size ≤ 64 ∧ r.val.size ≤ 64) : TextsOk l := fun r hr => by have := h r hr; omega
end Go.Proofs.YtgohekjkbgfeeaaGreat
namespace Go.Proofs.YtgohekjkbgfeeaaGreat
open Go.RowKit
open Go.SeqMath
open Go.ProdMath
open Go.BatMath hiding AllB getD_lt take_all
set_option linter.unusedVariables false

theorem infoTr : (Tryz.prog.info? 79).map (fun i => (i.zero, i.size, i.bytes)) = some (some (.agg #[.int .i64 0, .int .i64 0, .int .i64 0]), 3, 24) := by kernel_rfl
def trK : Kind Tr := ⟨fun x => [.int .i64 x.f, .int .i64 x.l, .int .i64 x.b], 3, 79, 76⟩
theorem trK_ok : trK.Ok 24 where
  und := Tryz.underlying76
  info := by
    obtain ⟨i, hi, hz, hs, hb⟩ := info_parts infoTr
    exact ⟨i, _, hi, hz, hs, hb, rfl⟩
  len := fun _ => rfl
  pos := by decide
  one := fun r u hu => by
    simp only [trK, List.mem_cons, List.not_mem_nil, or_false] at hu
    rcases hu with rfl | rfl | rfl <;> rfl
  few := by decide
theorem infoDr : (Tryz.prog.info? 58).map (fun i => (i.zero, i.size, i.bytes)) = some (some (.agg #[.int .i64 0, .int .i64 0, .int .i64 0]), 3, 24) := by kernel_rfl
def drK : Kind Dr := ⟨fun x => [.int .i64 x.prod, .int .i64 x.first, .int .i64 x.last], 3, 58, 28⟩
theorem drK_ok : drK.Ok 24 where
  und := Tryz.underlying28
  info := by
    obtain ⟨i, hi, hz, hs, hb⟩ := info_parts infoDr
    exact ⟨i, _, hi, hz, hs, hb, rfl⟩
  len := fun _ => rfl
  pos := by decide
  one := fun r u hu => by
    simp only [drK, List.mem_cons, List.not_mem_nil, or_false] at hu
    rcases hu with rfl | rfl | rfl <;> rfl
  few := by decide
/-- A producer, and where its latest batches lie. -/
structure PM where
  p : Pd
  ad : Option Addr
  cap : Nat
theorem infoPd : (Tryz.prog.info? 78).map (fun i => (i.zero, i.size, i.bytes)) = some (some (.agg #[.int .i64 0, .int .i64 0, .slice none 0 0, .int .i64 0]), 4, 48) := by kernel_rfl
def pdK : Kind PM := ⟨fun m => [.int .i64 m.p.id, .int .i64 m.p.epoch, .slice m.ad m.p.last.length m.cap, .int .i64 m.p.opn], 4, 78, 33⟩
theorem pdK_ok : pdK.Ok 48 where
  und := Tryz.underlying33
  info := by
    obtain ⟨i, hi, hz, hs, hb⟩ := info_parts infoPd
    exact ⟨i, _, hi, hz, hs, hb, rfl⟩
  len := fun _ => rfl
  pos := by decide
  one := fun r u hu => by
    simp only [pdK, List.mem_cons, List.not_mem_nil, or_false] at hu
    rcases hu with rfl | rfl | rfl | rfl <;> rfl
  few := by decide
/-- A batch, and where its records lie. -/
structure BM where
  b : Bat
  ad : Option Addr
  cap : Nat
theorem infoBat : (Tryz.prog.info? 56).map (fun i => (i.zero, i.size, i.bytes)) = some (some (.agg #[.int .i64 0, .int .i64 0, .int .i64 0, .int .i64 0, .bool false, .int .i64 0, .slice none 0 0]), 7, 72) := by kernel_rfl
def batK : Kind BM := ⟨fun m => [.int .i64 m.b.base, .int .i64 m.b.prod, .int .i64 m.b.epoch, .int .i64 m.b.seq, .bool m.b.txn, .int .i64 m.b.marker, .slice m.ad m.b.recs.length m.cap], 7, 56, 22⟩
theorem batK_ok : batK.Ok 72 where
  und := Tryz.underlying22
  info := by
    obtain ⟨i, hi, hz, hs, hb⟩ := info_parts infoBat
    exact ⟨i, _, hi, hz, hs, hb, rfl⟩
  len := fun _ => rfl
  pos := by decide
  one := fun r u hu => by
    simp only [batK, List.mem_cons, List.not_mem_nil, or_false] at hu
    rcases hu with rfl | rfl | rfl | rfl | rfl | rfl | rfl <;> rfl
  few := by decide
/-- A producer's latest batches in memory. -/
abbrev LastAt (w : World) (m : PM) : Prop := RowAt trK w m.ad m.p.last.length m.cap m.p.last
abbrev RecAt (w : World) (m : BM) : Prop := RecsAt w m.ad m.b.recs.length m.cap m.b.recs
def LastsAt (w : World) (ms : List PM) : Prop := ∀ m ∈ ms, LastAt w m
def RecssAt (w : World) (ms : List BM) : Prop := ∀ m ∈ ms, RecAt w m
theorem LastsAt.keep {w w' : World} {ms : List PM} (h : LastsAt w ms) (hb : Below w.heap.size w w') : LastsAt w' ms := fun m hm => (h m hm).keep hb
theorem RecssAt.keep {w w' : World} {ms : List BM} (h : RecssAt w ms) (hb : Below w.heap.size w w') : RecssAt w' ms := fun m hm => (h m hm).keep hb
/-- Producers, batches in a slice. -/
structure PdsAt (w : World) (ad : Option Addr) (len cap : Nat) (ms : List PM) : Prop where
  row : RowAt pdK w ad len cap ms
  ins : LastsAt w ms
theorem PdsAt.keep {w w' : World} {ad : Option Addr} {len cap : Nat} {ms : List PM} (h : PdsAt w ad len cap ms) (hb : Below w.heap.size w w') : PdsAt w' ad len cap ms := ⟨h.row.keep hb, h.ins.keep hb⟩
structure BatsAt (w : World) (ad : Option Addr) (len cap : Nat) (ms : List BM) : Prop where
  row : RowAt batK w ad len cap ms
  ins : RecssAt w ms
theorem BatsAt.keep {w w' : World} {ad : Option Addr} {len cap : Nat} {ms : List BM} (h : BatsAt w ad len cap ms) (hb : Below w.heap.size w w') : BatsAt w' ad len cap ms := ⟨h.row.keep hb, h.ins.keep hb⟩
/-- The cells of the batch at i. -/
theorem BatsAt.get {w : World} {ad : Option Addr} {len cap : Nat} {ms : List BM} (h : BatsAt w ad len cap ms) {i : Nat} (hi : i < len) :
    ∃ b off m, ad = some ⟨b, off, none⟩ ∧ b < w.heap.size ∧ ms[i]? = some m ∧ RecAt w m ∧ w.cell? ⟨b, off + i * 7, none⟩ = some (.int .i64 m.b.base) ∧ w.cell? ⟨b, off + i * 7 + 1, none⟩ = some (.int .i64 m.b.prod) ∧ w.cell? ⟨b, off + i * 7 + 2, none⟩ = some (.int .i64 m.b.epoch) ∧ w.cell? ⟨b, off + i * 7 + 3, none⟩ = some (.int .i64 m.b.seq) ∧ w.cell? ⟨b, off + i * 7 + 4, none⟩ = some (.bool m.b.txn) ∧ w.cell? ⟨b, off + i * 7 + 5, none⟩ = some (.int .i64 m.b.marker) ∧ w.cell? ⟨b, off + i * 7 + 6, none⟩ = some (.slice m.ad m.b.recs.length m.cap) := by
  obtain ⟨b, off, m, e, hb, hm, hc⟩ := h.row.get hi
  exact ⟨b, off, m, e, hb, hm, h.ins m (List.mem_of_getElem? hm), hc 0 _ rfl, hc 1 _ rfl, hc 2 _ rfl, hc 3 _ rfl, hc 4 _ rfl, hc 5 _ rfl, hc 6 _ rfl⟩
theorem PdsAt.get {w : World} {ad : Option Addr} {len cap : Nat} {ms : List PM} (h : PdsAt w ad len cap ms) {i : Nat} (hi : i < len) :
    ∃ b off m, ad = some ⟨b, off, none⟩ ∧ b < w.heap.size ∧ ms[i]? = some m ∧ LastAt w m ∧ w.cell? ⟨b, off + i * 4, none⟩ = some (.int .i64 m.p.id) ∧ w.cell? ⟨b, off + i * 4 + 1, none⟩ = some (.int .i64 m.p.epoch) ∧ w.cell? ⟨b, off + i * 4 + 2, none⟩ = some (.slice m.ad m.p.last.length m.cap) ∧ w.cell? ⟨b, off + i * 4 + 3, none⟩ = some (.int .i64 m.p.opn) := by
  obtain ⟨b, off, m, e, hb, hm, hc⟩ := h.row.get hi
  exact ⟨b, off, m, e, hb, hm, h.ins m (List.mem_of_getElem? hm), hc 0 _ rfl, hc 1 _ rfl, hc 2 _ rfl, hc 3 _ rfl⟩
theorem tr_get {w : World} {ad : Option Addr} {len cap : Nat} {l : List Tr} (h : RowAt trK w ad len cap l) {i : Nat} (hi : i < len) :
    ∃ b off x, ad = some ⟨b, off, none⟩ ∧ b < w.heap.size ∧ l[i]? = some x ∧ w.cell? ⟨b, off + i * 3, none⟩ = some (.int .i64 x.f) ∧ w.cell? ⟨b, off + i * 3 + 1, none⟩ = some (.int .i64 x.l) ∧ w.cell? ⟨b, off + i * 3 + 2, none⟩ = some (.int .i64 x.b) := by
  obtain ⟨b, off, m, e, hb, hm, hc⟩ := h.get hi
  exact ⟨b, off, m, e, hb, hm, hc 0 _ rfl, hc 1 _ rfl, hc 2 _ rfl⟩
/-- A block that is one producer; three numbers. -/
def PBox (w : World) (k : Nat) (b0 b1 : Int) (v : Value) (b3 : Int) : Prop := w.heap[k]? = some (.cells #[.int .i64 b0, .int .i64 b1, v, .int .i64 b3] 78 (0, 0))
section
variable {w w' : World} {k : Nat} {b0 b1 b3 : Int} {v : Value}
theorem PBox.c0 (h : PBox w k b0 b1 v b3) : w.cell? ⟨k, 0, none⟩ = some (.int .i64 b0) := by rw [cell_of_row _ _ 0 _ _ _ h]; rfl
theorem PBox.c1 (h : PBox w k b0 b1 v b3) : w.cell? ⟨k, 1, none⟩ = some (.int .i64 b1) := by rw [cell_of_row _ _ 1 _ _ _ h]; rfl
theorem PBox.c2 (h : PBox w k b0 b1 v b3) : w.cell? ⟨k, 2, none⟩ = some v := by rw [cell_of_row _ _ 2 _ _ _ h]; rfl
theorem PBox.c3 (h : PBox w k b0 b1 v b3) : w.cell? ⟨k, 3, none⟩ = some (.int .i64 b3) := by rw [cell_of_row _ _ 3 _ _ _ h]; rfl
theorem PBox.free (h : PBox w k b0 b1 v b3) (j : Nat) : w.frozen? ⟨k, j, none⟩ = false := frozen_of_row w k j _ _ h
theorem PBox.lt (h : PBox w k b0 b1 v b3) : k < w.heap.size := lt_of_block h
theorem PBox.keep {B : Nat} (h : PBox w k b0 b1 v b3) (hb : Below B w w') (hk : k < B) : PBox w' k b0 b1 v b3 := by
  unfold PBox at *
  rw [hb.block k hk]
  exact h
theorem PBox.on (h : PBox w k b0 b1 v b3) (hb : Below w.heap.size w w') : PBox w' k b0 b1 v b3 := h.keep hb h.lt
theorem PBox.s0 (h : PBox w k b0 b1 v b3) (n : Int) : PBox (w.setCell ⟨k, 0, none⟩ (.int .i64 n)) k n b1 v b3 := box_set h 0 _
theorem PBox.s1 (h : PBox w k b0 b1 v b3) (n : Int) : PBox (w.setCell ⟨k, 1, none⟩ (.int .i64 n)) k b0 n v b3 := box_set h 1 _
theorem PBox.s2 (h : PBox w k b0 b1 v b3) (u : Value) : PBox (w.setCell ⟨k, 2, none⟩ u) k b0 b1 u b3 := box_set h 2 _
theorem PBox.s3 (h : PBox w k b0 b1 v b3) (n : Int) : PBox (w.setCell ⟨k, 3, none⟩ (.int .i64 n)) k b0 b1 v n := box_set h 3 _
theorem PBox.off (h : PBox w k b0 b1 v b3) {j i : Nat} (hj : j ≠ k) (u : Value) : PBox (w.setCell ⟨j, i, none⟩ u) k b0 b1 v b3 := box_off h hj u
theorem PBox.grown {r : Option Nat} (h : PBox w k b0 b1 v b3) (hg : w.grownBy w' r) (hr : r ≠ some k) : PBox w' k b0 b1 v b3 := by
  have hlt := h.lt
  unfold PBox at *
  rw [hg.block k hlt (fun e => hr e.symm)]
  exact h
theorem pbox_new (w : World) (b0 b1 : Int) (v : Value) (b3 : Int) : PBox (w.alloc (.cells #[.int .i64 b0, .int .i64 b1, v, .int .i64 b3] 78)) w.heap.size b0 b1 v b3 := heap_alloc_new w _
theorem BoxAt.grows {b2 : Int} {b4 : Bool} {b5 : Int} {r : Option Nat} (h : BoxAt w k b0 b1 b2 b3 b4 b5 v) (hg : w.grownBy w' r) (hr : r ≠ some k) : BoxAt w' k b0 b1 b2 b3 b4 b5 v := by
  have hlt := h.lt
  unfold BoxAt at *
  rw [hg.block k hlt (fun e => hr e.symm)]
  exact h
end
theorem beq_dec (a b : Int) : (a == b) = decide (a = b) := by
  by_cases h : a = b
  · subst h; simp
  · rw [decide_eq_false h]; exact beq_false_of_ne h
theorem beq_dec2 (a b : Int) : (a == b) = decide (b = a) := by
  rw [beq_dec]
  by_cases h : a = b
  · subst h; rfl
  · rw [decide_eq_false h, decide_eq_false (fun e => h e.symm)]
theorem refAdd_any (n k : Int) (w : World) (v : Int) (k0 : 0 ≤ k) (k1 : k ≤ 1000000) (hv : addI n k = v) :
    Calls Tryz.prog 123 #[.int .i64 n, .int .i64 k] w fun e w' => e = .returned (.int .i64 v) ∧ w = w' := by
  rcases hr : rightB n with _ | _
  · have HV : Hid (v = -1) := by show _ = _; rw [← hv, add_no hr]
    have HR := Lib.hid hr
    clear hv hr
    go_enter Tryz.func123, Tryz.ntmps123
    go_wp2_with (go_at_call 120; refine (refSeq_any n _ false HR.out).mono ?_; rintro e w' ⟨rfl, rfl⟩)
    go_ret
    exact ⟨by rw [HV.out]; rfl, rfl⟩
  · obtain ⟨n0, n1⟩ := of_right hr
    have HV : Hid ((n + k) % 2147483648 = v) := by show _ = _; rw [← hv, add_yes n0 n1]
    have HR := Lib.hid hr
    clear hv hr
    go_enter Tryz.func123, Tryz.ntmps123
    go_wp2_with (go_at_call 120; refine (refSeq_any n _ true HR.out).mono ?_; rintro e w' ⟨rfl, rfl⟩)
    go_ret
    exact ⟨by show Ending.returned (.int .i64 (((n + k) % 2147483648 + 2147483648) % 2147483648)) = _; rw [← HV.out]; congr 2; omega, rfl⟩
theorem refLast_any (n : Int) (c : Nat) (w : World) (v : Int) (hc : c ≤ 140737488355328) (hv : lastI n c = v) :
    Calls Tryz.prog 94 #[.int .i64 n, .int .i64 (c : Int)] w fun e w' => e = .returned (.int .i64 v) ∧ w = w' := by
  by_cases h1 : c < 1
  · have HV : Hid (v = -1) := by show _ = _; rw [← hv, last_no (.inl (by omega))]
    have hd : decide ((c : Int) < 1) = true := decide_eq_true (by omega)
    clear hv
    go_enter Tryz.func94, Tryz.ntmps94
    go_wp2
    go_ret
    exact ⟨by rw [HV.out]; rfl, rfl⟩
  · have hd : decide ((c : Int) < 1) = false := decide_eq_false (by omega)
    by_cases h2 : 16 < c
    · have HV : Hid (v = -1) := by show _ = _; rw [← hv, last_no (.inr (by omega))]
      have hd2 : decide ((16 : Int) < (c : Int)) = true := decide_eq_true (by omega)
      clear hv
      go_enter Tryz.func94, Tryz.ntmps94
      go_wp2
      go_ret
      exact ⟨by rw [HV.out]; rfl, rfl⟩
    · have hd2 : decide ((16 : Int) < (c : Int)) = false := decide_eq_false (by omega)
      have HV : Hid (addI n ((c : Int) - 1) = v) := by show _ = _; rw [← hv, last_yes (by omega) (by omega)]
      clear hv
      go_enter Tryz.func94, Tryz.ntmps94
      go_wp2_with fail
      refine (refAdd_any n _ w v (by omega) (by omega) HV.out).mono ?_
      rintro e w' ⟨rfl, rfl⟩
      go_wp2
      go_ret
      exact ⟨rfl, rfl⟩
theorem refFollows_any (l f : Int) (w : World) (r : Bool) (hr : followsB l f = r) :
    Calls Tryz.prog 97 #[.int .i64 l, .int .i64 f] w fun e w' => e = .returned (.bool r) ∧ w = w' := by
  by_cases h1 : l = -1
  · subst h1
    have HV : Hid (decide (f = 0) = r) := by show _ = _; rw [← hr, follows_none]
    clear hr
    go_enter Tryz.func97, Tryz.ntmps97
    go_wp2
    go_ret
    exact ⟨by rw [← HV.out, ← beq_dec]; rfl, rfl⟩
  · have hd : (l == -1) = false := by simp [h1]
    rcases hs : rightB l with _ | _
    · have HV : Hid (r = false) := by show _ = _; rw [← hr, follows_no h1 hs]
      have HS := Lib.hid hs
      clear hr hs h1
      go_enter Tryz.func97, Tryz.ntmps97
      go_wp2_with (go_at_call 120; refine (refSeq_any l _ false HS.out).mono ?_; rintro e w' ⟨rfl, rfl⟩)
      go_ret
      exact ⟨by rw [HV.out]; rfl, rfl⟩
    · obtain ⟨n0, n1⟩ := of_right hs
      have HV : Hid (decide (f = addI l 1) = r) := by show _ = _; rw [← hr, follows_yes n0 n1]
      have HS := Lib.hid hs
      obtain ⟨v, hv⟩ : ∃ v, addI l 1 = v := ⟨_, rfl⟩
      rw [hv] at HV
      have HA := Lib.hid hv
      clear hr hs hv h1
      go_enter Tryz.func97, Tryz.ntmps97
      go_wp2_with (first | (go_at_call 120; refine (refSeq_any l _ true HS.out).mono ?_; rintro e w' ⟨rfl, rfl⟩) | (go_at_call 123; refine (refAdd_any l 1 _ v (by omega) (by omega) HA.out).mono ?_; rintro e w' ⟨rfl, rfl⟩))
      go_ret
      exact ⟨by rw [← HV.out, ← beq_dec2]; rfl, rfl⟩
end Go.Proofs.YtgohekjkbgfeeaaGreat
namespace Go.Proofs.YtgohekjkbgfeeaaGreat
open Go
set_option linter.unusedVariables false

section
variable {P : Program} {ops : Array Oper} {Q : Exit → Act → World → Prop} {md : Region.Mode} {S : World → Prop} {Z : List Nat}
/-- What has come up came up behind what it waits for. -/
def Closed (md : Region.Mode) (ops : Array Oper) (L : Array Bool) : Prop := ∀ j o, ops[j]? = some o → L.getD j false = true → ∀ e ∈ o.after, Region.binds md e = true → L.getD e.on false = true
def closedB (md : Region.Mode) (ops : Array Oper) (L : Array Bool) : Bool := (List.range ops.size).all fun j => !(L.getD j false) || match ops[j]? with | some o => o.after.all fun e => !(Region.binds md e) || L.getD e.on false | none => true
theorem closed_of {L : Array Bool} (h : closedB md ops L = true) : Closed md ops L := by
  intro j o ho hl e he hb
  have hj : j < ops.size := (Array.getElem?_eq_some_iff.1 ho).1
  have h1 := List.all_eq_true.1 h j (List.mem_range.2 hj)
  rw [hl, ho] at h1
  simp only [Bool.not_true, Bool.false_or, Array.all_eq_true'] at h1
  have h2 := h1 e he
  rw [hb] at h2
  simpa using h2
/-- Does z wait for i, by some steps? -/
def waitsB (md : Region.Mode) (ops : Array Oper) (i : Nat) : Nat → Nat → Bool
  | 0, _ => false
  | n + 1, z => match ops[z]? with | some o => o.after.any fun e => Region.binds md e && (e.on == i || waitsB md ops i n e.on) | none => false
theorem waits_closed {i : Nat} {L : Array Bool} (hc : Closed md ops L) : ∀ (n z : Nat), waitsB md ops i n z = true → L.getD z false = true → L.getD i false = true
  | 0, z, h, _ => by cases h
  | n + 1, z, h, hz => by
    unfold waitsB at h
    cases ho : ops[z]? with
    | none => rw [ho] at h; cases h
    | some o =>
      rw [ho] at h
      obtain ⟨e, he, h1⟩ := Array.any_eq_true'.1 h
      rw [Bool.and_eq_true, Bool.or_eq_true] at h1
      have h2 := hc z o ho hz e he h1.1
      rcases h1.2 with h3 | h3
      · rw [beq_iff_eq] at h3; rw [← h3]; exact h2
      · exact waits_closed hc n _ h3 h2
/-- None of Z has come up. -/
def ZFree (Z : List Nat) (L : Array Bool) : Prop := ∀ z ∈ Z, L.getD z false = false
/-- Whatever order is picked from here on; S holds behind every operation as long as none of Z has come up. -/
def wpAnyZ (P : Program) (md : Region.Mode) (ops : Array Oper) (Q : Exit → Act → World → Prop) (Z : List Nat) (S : World → Prop) : Nat → Array Bool → Act → World → Prop
  | 0, listed, a, w => Region.ready md ops listed = [] ∧ Q .normal a w
  | fuel + 1, listed, a, w =>
    (Region.ready md ops listed = [] → Q .normal a w) ∧
    ∀ i ∈ Region.ready md ops listed, wpOp P ops Q i (fun a' w' => (ZFree Z (listed.setIfInBounds i true) → S w') ∧ wpAnyZ P md ops Q Z S fuel (listed.setIfInBounds i true) a' w') a w
theorem wpAny_of_z : ∀ (fuel : Nat) (listed : Array Bool) (a : Act) (w : World), wpAnyZ P md ops Q Z S fuel listed a w → wpAny P md ops Q fuel listed a w
  | 0, _, _, _, h => h
  | fuel + 1, _, _, _, h => ⟨h.1, fun i hi => wpOp_mono (fun a' w' h' => wpAny_of_z fuel _ a' w' h'.2) (h.2 i hi)⟩
theorem closed_step {j : Nat} {L : Array Bool} (hc : Closed md ops L) (hj : j ∈ Region.ready md ops L) : Closed md ops (L.setIfInBounds j true) := by
  intro k o ho hl e he hb
  by_cases hkj : j = k
  · subst hkj
    obtain ⟨_, o', ho', hall⟩ := mem_ready.1 hj
    rw [ho] at ho'
    cases ho'
    exact getD_set_true (hall e he hb)
  · rw [getD_set_ne false hkj] at hl
    exact getD_set_true (hc k o ho hl e he hb)
theorem unlisted {i : Nat} {L : Array Bool} (h : L.getD i true = false) : L.getD i false = false := by
  rcases Nat.lt_or_ge i L.size with h' | h'
  · simp [h'] at h ⊢; exact h
  · simp [Array.getElem?_eq_none h'] at h
theorem wpAnyZ_first {i n : Nat} {oi : Oper} {v : Value} (hi : ops[i]? = some oi) (hsel : ∀ (j : Nat) (o : Oper) cs b, ops[j]? = some o → o.op ≠ .select cs b)
    (hQ : ∀ c a w, Q (.panic c) (a.put oi.dst v) w → Q (.panic c) a w) (hz : ∀ z ∈ Z, waitsB md ops i n z = true) (hiz : i ∉ Z) :
    ∀ (fuel : Nat) (listed : Array Bool) (a : Act) (w : World),
      (∀ j oj, ops[j]? = some oj → j ≠ i → listed.getD j true = false → (∀ e ∈ oj.after, Region.binds md e = true → e.on ≠ i) → oi.apart ops oj = true) →
      i ∈ Region.ready md ops listed → Closed md ops listed → YieldsIf P ops S oi v a → S w →
      wpAnyZ P md ops Q Z S fuel (listed.setIfInBounds i true) (a.put oi.dst v) w → wpAnyZ P md ops Q Z S (fuel + 1) listed a w := by
  have free : ∀ L, Closed md ops L → L.getD i true = false → ZFree Z L := fun L hc hu z hzZ => by
    cases hzl : L.getD z false
    · rfl
    · have := waits_closed hc n z (hz z hzZ) hzl
      rw [unlisted hu] at this
      cases this
  intro fuel
  induction fuel with
  | zero =>
    intro listed a w _ hr _ hy hS H
    refine ⟨fun h => (by rw [h] at hr; cases hr), fun j hj => ?_⟩
    by_cases hji : j = i
    · subst hji; exact hy.wpOp hi hS ⟨fun _ => hS, H⟩
    · have := ready_mono hj hji
      rw [H.1] at this
      cases this
  | succ fuel ih =>
    intro listed a w hfree hr hc hy hS H
    refine ⟨fun h => (by rw [h] at hr; cases hr), fun j hj => ?_⟩
    by_cases hji : j = i
    · subst hji; exact hy.wpOp hi hS ⟨fun _ => hS, H⟩
    · have h1 := H.2 j (ready_mono hj hji)
      obtain ⟨hjun, oj, hoj, hall⟩ := mem_ready.1 hj
      have hnot : ∀ e ∈ oj.after, Region.binds md e = true → e.on ≠ i := fun e he hb heq => by
        have h1 := hall e he hb
        have h0 := (mem_ready.1 hr).1
        rw [heq] at h1
        rw [unlisted h0] at h1
        cases h1
      have h2 := wpOp_putIf hoj (hfree j oj hoj hji hjun hnot) (fun cs b => hsel i oi cs b hi) (fun cs b => hsel j oj cs b hoj) hQ hy h1
      have hfree' : ∀ k ok, ops[k]? = some ok → k ≠ i → (listed.setIfInBounds j true).getD k true = false →
          (∀ e ∈ ok.after, Region.binds md e = true → e.on ≠ i) → oi.apart ops ok = true := fun k ok hk hki hun hno => by
        refine hfree k ok hk hki ?_ hno
        by_cases hjk : j = k
        · subst hjk; exact hjun
        · rw [getD_set_ne true hjk] at hun; exact hun
      have hr' := ready_mono hr (Ne.symm hji)
      have hc' := closed_step hc hj
      have hzf := free _ hc' (mem_ready.1 hr').1
      have hzf2 : ZFree Z ((listed.setIfInBounds i true).setIfInBounds j true) := fun z hzZ => by
        have hne : i ≠ z := fun e => hiz (e ▸ hzZ)
        rw [Array.setIfInBounds_comm _ _ (Ne.symm hji), getD_set_ne false hne]
        exact hzf z hzZ
      refine wpOp_mono (fun a' w' h3 => ⟨fun _ => h3.2.1 hzf2, ih (listed.setIfInBounds j true) a' w' hfree' hr' hc' h3.1 (h3.2.1 hzf2) ?_⟩) h2
      rw [Array.setIfInBounds_comm _ _ hji]
      exact h3.2.2
theorem wpAnyZ_take {i : Nat} {oi : Oper} {v : Value} {fuel : Nat} {listed : Array Bool} {a : Act} {w : World} (hi : ops[i]? = some oi)
    (hs : Region.noSelect ops = true) (hf : Region.free md ops listed i = true) (hr : (Region.ready md ops listed).contains i = true) (hc : closedB md ops listed = true) (hz : (Z.all fun z => waitsB md ops i 12 z && !(z == i)) = true)
    (hQ : ∀ c a w, Q (.panic c) (a.put oi.dst v) w → Q (.panic c) a w) (hy : YieldsIf P ops S oi v a) (hS : S w)
    (h : wpAnyZ P md ops Q Z S fuel (listed.setIfInBounds i true) (a.put oi.dst v) w) : wpAnyZ P md ops Q Z S (fuel + 1) listed a w := by
  have hz' := List.all_eq_true.1 hz
  refine wpAnyZ_first (n := 12) hi (Region.noSelect_spec hs) hQ (fun z hzZ => ?_) (fun hiZ => ?_) fuel listed a w (Region.free_spec hi hf) (by simpa using hr) (closed_of hc) hy hS h
  · have := hz' z hzZ; rw [Bool.and_eq_true] at this; exact this.1
  · have := hz' i hiZ; simp at this
/-- Each of the operations 'rs' comes up next. -/
def AllReadyZ (P : Program) (md : Region.Mode) (ops : Array Oper) (Q : Exit → Act → World → Prop) (Z : List Nat) (S : World → Prop) (fuel : Nat) (listed : Array Bool) (a : Act) (w : World) (rs : List Nat) : Prop :=
  ∀ i ∈ rs, wpOp P ops Q i (fun a' w' => (ZFree Z (listed.setIfInBounds i true) → S w') ∧ wpAnyZ P md ops Q Z S fuel (listed.setIfInBounds i true) a' w') a w
theorem AllReadyZ.nil {fuel : Nat} {listed : Array Bool} {a : Act} {w : World} : AllReadyZ P md ops Q Z S fuel listed a w [] := fun _ h => by cases h
theorem AllReadyZ.cons {fuel : Nat} {listed : Array Bool} {a : Act} {w : World} {i : Nat} {o : Oper} {rs : List Nat} (ho : ops[i]? = some o)
    (h : ∀ K' : Act → World → Prop, Shut (∀ a w, (ZFree Z (listed.setIfInBounds i true) → S w) → ((ZFree Z (listed.setIfInBounds i true) → S w) → wpAnyZ P md ops Q Z S fuel (listed.setIfInBounds i true) a w) → K' a w) → if Region.wanted o (yielded ops a.tmps) = true then Oper.wp P o a w K' Q else K' (a.put o.dst undef) w)
    (hs : AllReadyZ P md ops Q Z S fuel listed a w rs) : AllReadyZ P md ops Q Z S fuel listed a w (i :: rs) := fun j hj => by
  rcases List.mem_cons.1 hj with rfl | hj
  · exact wpOp_step ho (fun K' hK => h K' (fun a w hS hW => hK a w ⟨hS, hW hS⟩))
  · exact hs j hj
theorem wpAnyZ_ready {rs : List Nat} {fuel : Nat} {listed : Array Bool} {a : Act} {w : World} (hr : Region.ready md ops listed = rs) (hne : rs ≠ [])
    (h : AllReadyZ P md ops Q Z S fuel listed a w rs) : wpAnyZ P md ops Q Z S (fuel + 1) listed a w :=
  ⟨fun h0 => absurd (hr ▸ h0) hne, by rw [hr]; exact h⟩
theorem wpAnyZ_done {listed : Array Bool} {a : Act} {w : World} (hr : Region.ready md ops listed = []) (h : Q .normal a w) :
    ∀ fuel, wpAnyZ P md ops Q Z S fuel listed a w
  | 0 => ⟨hr, h⟩
  | _ + 1 => ⟨fun _ => h, by rw [hr]; simp⟩
theorem wp_region_z {id : Nat} {a : Act} {w : World} (Z : List Nat) (S : World → Prop) (hm : P.follows .mixedOrders = true)
    (h : wpAnyZ P .any ops Q Z S ops.size (Array.replicate ops.size false) a w.drew) : (Code.region id ops true).wp P Q a w :=
  wp_region_any hm (wpAny_of_z _ _ _ _ h)
theorem wpAnyZ_strengthen {S' : World → Prop} (h : ∀ w, S' w → S w) :
    ∀ (fuel : Nat) (listed : Array Bool) (a : Act) (w : World), wpAnyZ P md ops Q Z S' fuel listed a w → wpAnyZ P md ops Q Z S fuel listed a w
  | 0, _, _, _, hh => hh
  | fuel + 1, _, _, _, hh => ⟨hh.1, fun i hi => wpOp_mono (fun _ _ hk => ⟨fun hz => h _ (hk.1 hz), wpAnyZ_strengthen h fuel _ _ _ hk.2⟩) (hh.2 i hi)⟩
/-- One way alone is left, and one operation: it turns the worlds as it likes. -/
theorem zfree_no {i : Nat} {listed : Array Bool} {Z : List Nat} {p : Prop} (h : (Z.contains i && decide (i < listed.size)) = true) : ZFree Z (listed.setIfInBounds i true) → p := by
  intro hz
  rw [Bool.and_eq_true] at h
  have := hz i (by simpa using h.1)
  have hlt : i < listed.size := of_decide_eq_true h.2
  simp [hlt] at this
end
end Go.Proofs.YtgohekjkbgfeeaaGreat
