/- bordereaukeep's Tape: Batch: a batch that is right, of new memory. -/
import Derived.Test.YtlpmfhccfihnfaaTape
namespace Go.Proofs.Ytlpmfhccfihnfaa
open Go.RowKit
open Go.SeqMath
open Go.BatMath hiding AllB getD_lt take_all
set_option linter.unusedVariables false

theorem grow_new {w w1 : World} {kt k j : Nat} (h : w.grownBy w1 (some kt)) (hk : w.heap.size ≤ k) (u : Value) : w.grownBy (w1.setCell ⟨k, j, none⟩ u) (some kt) :=
  ⟨h.os, h.tape, h.output, by simpa using h.size, fun i hi hn => by
    show (w1.heap.modify k _)[i]? = _
    rw [Array.getElem?_modify, if_neg (by omega)]
    exact h.block i hi hn⟩
theorem TapeAt.other {w : World} {kt len cap i k j : Nat} {ad : Option Addr} (h : TapeAt w kt ad len cap i) (hk : kt < k) (u : Value) : TapeAt (w.setCell ⟨k, j, none⟩ u) kt ad len cap i := by
  have hx : ∀ b, b < k → (w.setCell ⟨k, j, none⟩ u).heap[b]? = w.heap[b]? := fun b hb => by
    show (w.heap.modify k _)[b]? = _
    rw [Array.getElem?_modify, if_neg (by omega)]
  refine ⟨(hx kt hk).trans h.blk, h.le, h.big, fun j' hj => ?_⟩
  obtain ⟨b, off, n, e, hne, hc, hn⟩ := h.nums j' hj
  exact ⟨b, off, n, e, hne, (World.cell?_of_block (a := ⟨b, off + j', none⟩) (hx b (by omega))).trans hc, hn⟩
/-- Block kt is a tape, wherever it stands. -/
def TapeT (w : World) (kt : Nat) (ad : Option Addr) (len cap : Nat) : Prop := ∃ i, TapeAt w kt ad len cap i
theorem TapeT.other {w : World} {kt len cap k j : Nat} {ad : Option Addr} (h : TapeT w kt ad len cap) (hk : kt < k) (u : Value) : TapeT (w.setCell ⟨k, j, none⟩ u) kt ad len cap := by
  obtain ⟨i, h⟩ := h
  exact ⟨i, h.other hk u⟩
/-- The walk's state: the batch that is being made, the result that is none yet, the tape, what has turned since w. -/
structure TB (w : World) (kt : Nat) (ad : Option Addr) (len cap kr kb : Nat) (b0 b1 b2 b3 : Int) (b4 : Bool) (b5 : Int) (v : Value) (W : World) : Prop where
  box : BoxAt W kb b0 b1 b2 b3 b4 b5 v
  res : BoxAt W kr 0 0 0 0 false 0 (.slice none 0 0)
  lo : w.heap.size ≤ kb
  lr : w.heap.size ≤ kr
  ne : kb ≠ kr
  ht : kt < w.heap.size
  tape : TapeT W kt ad len cap
  grow : w.grownBy W (some kt)
section
variable {w W W' : World} {kt len cap kr kb : Nat} {ad : Option Addr} {b0 b1 b2 b3 : Int} {b4 : Bool} {b5 : Int} {v : Value}
theorem TB.s2 (h : TB w kt ad len cap kr kb b0 b1 b2 b3 b4 b5 v W) (n : Int) : TB w kt ad len cap kr kb b0 b1 n b3 b4 b5 v (W.setCell ⟨kb, 2, none⟩ (.int .i64 n)) := ⟨h.box.s2 n, h.res.off h.ne _, h.lo, h.lr, h.ne, h.ht, h.tape.other (by have := h.lo; have := h.ht; omega) _, grow_new h.grow h.lo _⟩
theorem TB.s3 (h : TB w kt ad len cap kr kb b0 b1 b2 b3 b4 b5 v W) (n : Int) : TB w kt ad len cap kr kb b0 b1 b2 n b4 b5 v (W.setCell ⟨kb, 3, none⟩ (.int .i64 n)) := ⟨h.box.s3 n, h.res.off h.ne _, h.lo, h.lr, h.ne, h.ht, h.tape.other (by have := h.lo; have := h.ht; omega) _, grow_new h.grow h.lo _⟩
theorem TB.s4 (h : TB w kt ad len cap kr kb b0 b1 b2 b3 b4 b5 v W) (n : Bool) : TB w kt ad len cap kr kb b0 b1 b2 b3 n b5 v (W.setCell ⟨kb, 4, none⟩ (.bool n)) := ⟨h.box.s4 n, h.res.off h.ne _, h.lo, h.lr, h.ne, h.ht, h.tape.other (by have := h.lo; have := h.ht; omega) _, grow_new h.grow h.lo _⟩
theorem TB.s5 (h : TB w kt ad len cap kr kb b0 b1 b2 b3 b4 b5 v W) (n : Int) : TB w kt ad len cap kr kb b0 b1 b2 b3 b4 n v (W.setCell ⟨kb, 5, none⟩ (.int .i64 n)) := ⟨h.box.s5 n, h.res.off h.ne _, h.lo, h.lr, h.ne, h.ht, h.tape.other (by have := h.lo; have := h.ht; omega) _, grow_new h.grow h.lo _⟩
theorem TB.s6 (h : TB w kt ad len cap kr kb b0 b1 b2 b3 b4 b5 v W) (n : Value) : TB w kt ad len cap kr kb b0 b1 b2 b3 b4 b5 n (W.setCell ⟨kb, 6, none⟩ n) := ⟨h.box.s6 n, h.res.off h.ne _, h.lo, h.lr, h.ne, h.ht, h.tape.other (by have := h.lo; have := h.ht; omega) _, grow_new h.grow h.lo _⟩
theorem TB.next (h : TB w kt ad len cap kr kb b0 b1 b2 b3 b4 b5 v W) (hg : W.grownBy W' (some kt)) (ht : TapeT W' kt ad len cap) : TB w kt ad len cap kr kb b0 b1 b2 b3 b4 b5 v W' :=
  ⟨h.box.tape hg (by have := h.lo; have := h.ht; omega), h.res.tape hg (by have := h.lr; have := h.ht; omega), h.lo, h.lr, h.ne, h.ht, ht, grow_trans h.grow hg⟩
end
theorem results_cell_one {fn : Func} {p : Tmp} {ty : TypeId} (h : fn.results = #[.cell p ty]) (tmps : Array Value) (P : Program) (w : World) :
    (results fn tmps).run P w = ((asAddr (tmps.getD p undef)).run P w).andThen fun a w₁ => (loadVar ty a).run P w₁ := by
  simp only [results, h]
  simp [Sem.run_bind, Result.andThen]
theorem resultsTape {tmps : Array Value} {B : Nat} {W : World} {b0 b1 b2 b3 : Int} {b4 : Bool} {b5 : Int} {v : Value} (h : BoxAt W B b0 b1 b2 b3 b4 b5 v) (ht : tmps.getD 4 undef = .pointer (some ⟨B, 0, none⟩)) :
    (results Try.f9 tmps).run Try.prog W = .ok (.agg #[.int .i64 b0, .int .i64 b1, .int .i64 b2, .int .i64 b3, .bool b4, .int .i64 b5, v]) W := by
  rw [results_cell_one (p := 4) (ty := 24) Try.results9, ht]
  have hl := run_loadVar_row (P := Try.prog) W B 24 24 _ (0, 0) _ h Try.underlying24 rfl (by kernel_rfl)
  simp only [asAddr, Sem.run_pure, Result.andThen, hl]
/-- A batch that is right, with this base, its records in new memory. -/
def GivesTape (w : World) (kt : Nat) (ad : Option Addr) (len cap : Nat) (base : Int) (e : Ending) (w' : World) : Prop :=
  ∃ (b : Bat) (ad' : Option Addr) (cap' : Nat), e = .returned (.agg #[.int .i64 b.base, .int .i64 b.prod, .int .i64 b.epoch, .int .i64 b.seq, .bool b.txn, .int .i64 b.marker, .slice ad' b.recs.length cap']) ∧
    b.base = base ∧ rightE b = 0 ∧ b.wf ∧ RecsAt w' ad' b.recs.length cap' b.recs ∧ (∀ a, ad' = some a → w.heap.size ≤ a.block) ∧ TapeT w' kt ad len cap ∧ w.grownBy w' (some kt)
/-- What the last statement leaves: the batch is copied into the result. -/
theorem gives_tape {w W : World} {kt len cap kr kb n cap' : Nat} {ad ad' : Option Addr} {b : Bat} {base : Int} {x0 x1 x2 x3 : Int} {x4 : Bool} {x5 : Int} {xv : Value} {u0 u1 u2 u3 u4 u5 u6 : Value} (hT : TB w kt ad len cap kr kb x0 x1 x2 x3 x4 x5 xv W) (hb : b.base = base) (ho : rightE b = 0) (hw : b.wf) (hn : b.recs.length = n) (hr : RecsAt W ad' n cap' b.recs) (hk : ∀ a, ad' = some a → kr < a.block) :
    GivesTape w kt ad len cap base (.returned (.agg #[.int .i64 b.base, .int .i64 b.prod, .int .i64 b.epoch, .int .i64 b.seq, .bool b.txn, .int .i64 b.marker, .slice ad' n cap'])) (((((((W.setCell ⟨kr, 0, none⟩ u0).setCell ⟨kr, 1, none⟩ u1).setCell ⟨kr, 2, none⟩ u2).setCell ⟨kr, 3, none⟩ u3).setCell ⟨kr, 4, none⟩ u4).setCell ⟨kr, 5, none⟩ u5).setCell ⟨kr, 6, none⟩ u6) := by
  subst hn
  have hlr := hT.lr
  have hlt : kt < kr := by have := hT.ht; omega
  refine ⟨b, ad', cap', rfl, hb, ho, hw, ((((((hr.put hk).put hk).put hk).put hk).put hk).put hk).put hk, (fun a h => by have := hk a h; omega), ((((((hT.tape.other hlt _).other hlt _).other hlt _).other hlt _).other hlt _).other hlt _).other hlt _, ?_⟩
  exact grow_new (grow_new (grow_new (grow_new (grow_new (grow_new (grow_new hT.grow hlr _) hlr _) hlr _) hlr _) hlr _) hlr _) hlr _
theorem right_none {base : Int} {l : List Rc} (h0 : 0 ≤ base) (h1 : base ≤ 1099511627776) (hl : 1 ≤ l.length) (hm : l.length ≤ 4) (hs : ∀ r ∈ l, r.key.size ≤ 64 ∧ r.val.size ≤ 64) : rightE ⟨base, -1, -1, -1, false, 0, l⟩ = 0 := by
  refine e_fine h0 h1 rfl ⟨.inl rfl, fun h => ?_⟩ ?_
  · simp only at h; rw [h] at hl; simp at hl
  · rintro (h | ⟨r, hr, h⟩)
    · simp only at h; omega
    · have := hs r hr
      rcases h with h | h <;> omega
theorem right_data {base p e s : Int} {t : Bool} {l : List Rc} (h0 : 0 ≤ base) (h1 : base ≤ 1099511627776) (p0 : 0 ≤ p) (e0 : 0 ≤ e) (e1 : e ≤ 32767) (s0 : 0 ≤ s) (s1 : s ≤ 2147483647) (hl : 1 ≤ l.length) (hm : l.length ≤ 4) (hs : ∀ r ∈ l, r.key.size ≤ 64 ∧ r.val.size ≤ 64) : rightE ⟨base, p, e, s, t, 0, l⟩ = 0 := by
  refine e_fine h0 h1 rfl ⟨.inr ⟨?_, right_yes s0 s1⟩, fun h => ?_⟩ ?_
  · unfold headB; simp [p0, e0, e1]
  · simp only at h; rw [h] at hl; simp at hl
  · rintro (h | ⟨r, hr, h⟩)
    · simp only at h; omega
    · have := hs r hr
      rcases h with h | h <;> omega
theorem right_mark {base p e m : Int} (h0 : 0 ≤ base) (h1 : base ≤ 1099511627776) (p0 : 0 ≤ p) (e0 : 0 ≤ e) (e1 : e ≤ 32767) (hm : m = 1 ∨ m = 2) : rightE ⟨base, p, e, -1, true, m, []⟩ = 0 := by
  rw [e_mark h0 h1 (by simp only; omega), if_pos]
  refine ⟨hm, ?_, rfl, rfl, rfl⟩
  unfold headB; simp [p0, e0, e1]
theorem bat_wf {a b c d f : Int} {t : Bool} {l : List Rc} (h0 : In64 a) (h1 : In64 b) (h2 : In64 c) (h3 : In64 d) (h4 : In64 f) : (⟨a, b, c, d, t, f, l⟩ : Bat).wf := ⟨h0, h1, h2, h3, h4⟩
set_option maxRecDepth 100000 in
set_option maxHeartbeats 4000000 in
theorem tapeBatch_any (w : World) (kt : Nat) (ad : Option Addr) (len cap i : Nat) (base : Int) (h : TapeAt w kt ad len cap i) (h0 : 0 ≤ base) (h1 : base ≤ 1099511627776) :
    Calls Try.prog 9 #[.pointer (some ⟨kt, 0, none⟩), .int .i64 base] w (GivesTape w kt ad len cap base) := by
  have hkt := h.lt
  have HR0 := Lib.hid (boxAt_new w 0 0 0 0 false 0 (.slice none 0 0))
  have H := Lib.hid (h.on ((Below.refl w.heap.size w).alloc (Nat.le_refl _) (.cells #[.int .i64 0, .int .i64 0, .int .i64 0, .int .i64 0, .bool false, .int .i64 0, .slice none 0 0] 24)))
  have HG0 := Lib.hid (grow_alloc (grow_refl w (some kt)) (.cells #[.int .i64 0, .int .i64 0, .int .i64 0, .int .i64 0, .bool false, .int .i64 0, .slice none 0 0] 24))
  clear h
  go_enter Try.func9, Try.ntmps9
  go_wp2_with fail
  refine (tapeNext_any _ kt ad len cap i 4 H.out (by omega) (by omega)).mono ?_
  rintro e w1 ⟨v, i1, rfl, v0, v1, ht1, hg1⟩
  obtain ⟨kb, hkb⟩ : ∃ kb, kb = w1.heap.size := ⟨_, rfl⟩
  obtain ⟨kr, hkr⟩ : ∃ kr, kr = w.heap.size := ⟨_, rfl⟩
  have hkk : kr < kb := by rw [hkb, hkr]; exact Nat.lt_of_lt_of_le HR0.out.lt hg1.size
  obtain ⟨p, hp⟩ : ∃ p, p = v - 1 := ⟨_, rfl⟩
  obtain ⟨W2, hW2⟩ : ∃ W2, W2 = w1.alloc (.cells #[.int .i64 base, .int .i64 p, .int .i64 0, .int .i64 0, .bool false, .int .i64 0, .slice none 0 0] 24) := ⟨_, rfl⟩
  have HT2 : Hid (TB w kt ad len cap kr kb base p 0 0 false 0 (.slice none 0 0) W2) := by
    show TB _ _ _ _ _ _ _ _ _ _ _ _ _ _ _
    have hbb : Below w1.heap.size w1 W2 := by rw [hW2]; exact (Below.refl _ _).alloc (Nat.le_refl _) _
    refine ⟨by rw [hW2, hkb]; exact boxAt_new w1 _ _ _ _ _ _ _, ?_, by omega, by omega, by omega, hkt, ⟨i1, ht1.on hbb⟩, grow_below (grow_trans HG0.out hg1) hbb⟩
    have := (HR0.out.tape hg1 (by omega)).on hbb
    rw [hkr]; exact this
  have hpv : v - 1 = p := hp.symm
  have HW2 := Lib.hid hW2
  have p0 : -1 ≤ p := by omega
  have p2 : p ≤ 2 := by omega
  have HKB := Lib.hid hkb
  have HKR := Lib.hid hkr
  clear hkb hkr hW2 hp ht1 hg1
  by_cases hneg : p < 0
  · obtain rfl : p = -1 := by omega
    clear p0 p2
    go_upto_if 13 with (fail)
    rw [← HW2.out, ← HKB.out, ← HKR.out]
    obtain ⟨j1, hj1⟩ := HT2.out.tape
    go_wp2_with fail
    refine (tapeRecs_any W2 kt ad len cap j1 4 hj1 (by omega) (by omega)).mono ?_
    rintro e w3 ⟨l, v', m1, rfl, hown, hl1, hl4, hsz, ht1, hg1⟩
    obtain ⟨ad3, c3, hv3, hrec, hblk⟩ := hown.at
    obtain ⟨nl, hnl⟩ : ∃ nl, l.length = nl := ⟨_, rfl⟩
    rw [hnl] at hv3 hrec hl1 hl4
    subst hv3
    have HN1 := Lib.hid (HT2.out.next hg1 ⟨m1, ht1⟩)
    have HBLK : Hid (∀ a, ad3 = some a → kr < a.block) := fun a h => by have h1 := hblk a h; have h2 := HT2.out.res.lt; omega
    have HBLB : Hid (∀ a, ad3 = some a → kb < a.block) := fun a h => by have h1 := hblk a h; have h2 := HT2.out.box.lt; omega
    have HREC := Lib.hid hrec
    have HNL := Lib.hid hnl
    have HSZ := Lib.hid hsz
    clear hown hrec hblk hnl hsz hj1 ht1 hg1
    have x2 := HN1.out.box.c2
    have f2 := HN1.out.box.free 2
    have x3 := HN1.out.box.c3
    have f3 := HN1.out.box.free 3
    have x6 := HN1.out.box.c6
    have f6 := HN1.out.box.free 6
    go_upto_region 4 with fail
    obtain ⟨W4, hW4⟩ : ∃ W, W = ((w3.setCell ⟨kb, 2, none⟩ (.int .i64 (-1))).setCell ⟨kb, 3, none⟩ (.int .i64 (-1))).setCell ⟨kb, 6, none⟩ (.slice ad3 nl c3) := ⟨_, rfl⟩
    have HSW4 := Lib.hid (show TB w kt ad len cap kr kb base (-1) (-1) (-1) false 0 (.slice ad3 nl c3) W4 by rw [hW4]; exact ((HN1.out.s2 (-1)).s3 (-1)).s6 _)
    rw [← hW4]
    have HREC4 : Hid (RecsAt W4 ad3 nl c3 l) := by show RecsAt _ _ _ _ _; rw [hW4]; exact ((HREC.out.put HBLB.out).put HBLB.out).put HBLB.out
    have HOK := Lib.hid (right_none h0 h1 (by rw [HNL.out]; exact hl1) (by rw [HNL.out]; exact hl4) HSZ.out)
    clear hW4
    clear x2 f2 x3 f3 x6 f6
    have x0 := HSW4.out.box.c0
    have x1 := HSW4.out.box.c1
    have x2 := HSW4.out.box.c2
    have x3 := HSW4.out.box.c3
    have x4 := HSW4.out.box.c4
    have x5 := HSW4.out.box.c5
    have x6 := HSW4.out.box.c6
    have r0 := HSW4.out.res.c0
    have q0 := HSW4.out.res.free 0
    have r1 := HSW4.out.res.c1
    have q1 := HSW4.out.res.free 1
    have r2 := HSW4.out.res.c2
    have q2 := HSW4.out.res.free 2
    have r3 := HSW4.out.res.c3
    have q3 := HSW4.out.res.free 3
    have r4 := HSW4.out.res.c4
    have q4 := HSW4.out.res.free 4
    have r5 := HSW4.out.res.c5
    have q5 := HSW4.out.res.free 5
    have r6 := HSW4.out.res.c6
    have q6 := HSW4.out.res.free 6
    go_wp2
    exact bodyPost_ret (resultsTape (((((((HSW4.out.res.s0 (base)).s1 (-1)).s2 (-1)).s3 (-1)).s4 (false)).s5 (0)).s6 (.slice ad3 nl c3)) rfl) rfl (gives_tape HSW4.out rfl HOK.out (bat_wf ⟨by omega, by omega⟩ ⟨by omega, by omega⟩ ⟨by omega, by omega⟩ ⟨by omega, by omega⟩ ⟨by omega, by omega⟩) HNL.out HREC4.out HBLK.out)
  · have hpos : 0 ≤ p := by omega
    clear hneg p0
    go_upto_if 13 with (fail)
    rw [← HW2.out, ← HKB.out, ← HKR.out]
    obtain ⟨j1, hj1⟩ := HT2.out.tape
    go_wp2_with fail
    refine (tapeNext_any W2 kt ad len cap j1 3 hj1 (by omega) (by omega)).mono ?_
    rintro e w3 ⟨ve, m1, rfl, ve0, ve1, ht1, hg1⟩
    have HN1 := Lib.hid (HT2.out.next hg1 ⟨m1, ht1⟩)
    clear hj1 ht1 hg1
    have x2 := HN1.out.box.c2
    have f2 := HN1.out.box.free 2
    go_upto_region 6 with fail
    obtain ⟨W4, hW4⟩ : ∃ W, W = w3.setCell ⟨kb, 2, none⟩ (.int .i64 ve) := ⟨_, rfl⟩
    have HSW4 := Lib.hid (show TB w kt ad len cap kr kb base p ve 0 false 0 (.slice none 0 0) W4 by rw [hW4]; exact HN1.out.s2 ve)
    rw [← hW4]
    clear x2 f2
    clear hW4
    obtain ⟨j2, hj2⟩ := HSW4.out.tape
    go_wp2_with fail
    refine (tapeNext_any W4 kt ad len cap j2 4 hj2 (by omega) (by omega)).mono ?_
    rintro e w5 ⟨vq, m2, rfl, vq0, vq1, ht2, hg2⟩
    have HN2 := Lib.hid (HSW4.out.next hg2 ⟨m2, ht2⟩)
    clear hj2 ht2 hg2
    by_cases hq : vq = 0
    · subst hq
      obtain ⟨j3, hj3⟩ := HN2.out.tape
      go_wp2_with fail
      refine (tapeNext_any w5 kt ad len cap j3 2 hj3 (by omega) (by omega)).mono ?_
      rintro e w6 ⟨vm, m3, rfl, vm0, vm1, ht3, hg3⟩
      have HN3 := Lib.hid (HN2.out.next hg3 ⟨m3, ht3⟩)
      clear hj3 ht3 hg3
      have x3 := HN3.out.box.c3
      have f3 := HN3.out.box.free 3
      have x4 := HN3.out.box.c4
      have f4 := HN3.out.box.free 4
      have x5 := HN3.out.box.c5
      have f5 := HN3.out.box.free 5
      go_upto_region 8 with fail
      obtain ⟨W7, hW7⟩ : ∃ W, W = ((w6.setCell ⟨kb, 3, none⟩ (.int .i64 (-1))).setCell ⟨kb, 4, none⟩ (.bool true)).setCell ⟨kb, 5, none⟩ (.int .i64 (1 + vm)) := ⟨_, rfl⟩
      have HSW7 := Lib.hid (show TB w kt ad len cap kr kb base p ve (-1) true (1 + vm) (.slice none 0 0) W7 by rw [hW7]; exact ((HN3.out.s3 (-1)).s4 true).s5 (1 + vm))
      rw [← hW7]
      clear x3 f3 x4 f4 x5 f5
      have HOK := Lib.hid (right_mark (m := 1 + vm) h0 h1 hpos ve0 (by omega) (by omega))
      clear hW7
      have x0 := HSW7.out.box.c0
      have x1 := HSW7.out.box.c1
      have x2 := HSW7.out.box.c2
      have x3 := HSW7.out.box.c3
      have x4 := HSW7.out.box.c4
      have x5 := HSW7.out.box.c5
      have x6 := HSW7.out.box.c6
      have r0 := HSW7.out.res.c0
      have q0 := HSW7.out.res.free 0
      have r1 := HSW7.out.res.c1
      have q1 := HSW7.out.res.free 1
      have r2 := HSW7.out.res.c2
      have q2 := HSW7.out.res.free 2
      have r3 := HSW7.out.res.c3
      have q3 := HSW7.out.res.free 3
      have r4 := HSW7.out.res.c4
      have q4 := HSW7.out.res.free 4
      have r5 := HSW7.out.res.c5
      have q5 := HSW7.out.res.free 5
      have r6 := HSW7.out.res.c6
      have q6 := HSW7.out.res.free 6
      go_wp2
      exact bodyPost_ret (resultsTape (((((((HSW7.out.res.s0 (base)).s1 (p)).s2 (ve)).s3 (-1)).s4 (true)).s5 (1 + vm)).s6 (.slice none 0 0)) rfl) rfl (gives_tape HSW7.out rfl HOK.out (bat_wf ⟨by omega, by omega⟩ ⟨by omega, by omega⟩ ⟨by omega, by omega⟩ ⟨by omega, by omega⟩ ⟨by omega, by omega⟩) rfl (recsAt_nil _) (fun a h => by cases h))
    · have hqb : (vq == 0) = false := by simpa using hq
      obtain ⟨j3, hj3⟩ := HN2.out.tape
      go_wp2_with fail
      refine (tapeNext_any w5 kt ad len cap j3 6 hj3 (by omega) (by omega)).mono ?_
      rintro e w6 ⟨vs, m3, rfl, vs0, vs1, ht3, hg3⟩
      have HN3 := Lib.hid (HN2.out.next hg3 ⟨m3, ht3⟩)
      clear hj3 ht3 hg3
      obtain ⟨j4, hj4⟩ := HN3.out.tape
      go_wp2_with fail
      refine (tapeNext_any w6 kt ad len cap j4 2 hj4 (by omega) (by omega)).mono ?_
      rintro e w7 ⟨vt, m4, rfl, vt0, vt1, ht4, hg4⟩
      have HN4 := Lib.hid (HN3.out.next hg4 ⟨m4, ht4⟩)
      clear hj4 ht4 hg4
      obtain ⟨tb, htb⟩ : ∃ tb, (vt == 0) = tb := ⟨_, rfl⟩
      obtain ⟨j5, hj5⟩ := HN4.out.tape
      go_wp2_with fail
      refine (tapeRecs_any w7 kt ad len cap j5 4 hj5 (by omega) (by omega)).mono ?_
      rintro e w8 ⟨l, v', m5, rfl, hown, hl1, hl4, hsz, ht5, hg5⟩
      obtain ⟨ad3, c3, hv3, hrec, hblk⟩ := hown.at
      obtain ⟨nl, hnl⟩ : ∃ nl, l.length = nl := ⟨_, rfl⟩
      rw [hnl] at hv3 hrec hl1 hl4
      subst hv3
      have HN5 := Lib.hid (HN4.out.next hg5 ⟨m5, ht5⟩)
      have HBLK : Hid (∀ a, ad3 = some a → kr < a.block) := fun a h => by have h1 := hblk a h; have h2 := HN4.out.res.lt; omega
      have HBLB : Hid (∀ a, ad3 = some a → kb < a.block) := fun a h => by have h1 := hblk a h; have h2 := HN4.out.box.lt; omega
      have HREC := Lib.hid hrec
      have HNL := Lib.hid hnl
      have HSZ := Lib.hid hsz
      clear hown hrec hblk hnl hsz hj5 ht5 hg5
      have x3 := HN5.out.box.c3
      have f3 := HN5.out.box.free 3
      have x4 := HN5.out.box.c4
      have f4 := HN5.out.box.free 4
      have x6 := HN5.out.box.c6
      have f6 := HN5.out.box.free 6
      go_upto_region 10 with fail
      obtain ⟨W9, hW9⟩ : ∃ W, W = ((w8.setCell ⟨kb, 3, none⟩ (.int .i64 vs)).setCell ⟨kb, 4, none⟩ (.bool tb)).setCell ⟨kb, 6, none⟩ (.slice ad3 nl c3) := ⟨_, rfl⟩
      have HSW9 := Lib.hid (show TB w kt ad len cap kr kb base p ve vs tb 0 (.slice ad3 nl c3) W9 by rw [hW9]; exact ((HN5.out.s3 vs).s4 tb).s6 _)
      rw [← hW9]
      have HREC9 : Hid (RecsAt W9 ad3 nl c3 l) := by show RecsAt _ _ _ _ _; rw [hW9]; exact ((HREC.out.put HBLB.out).put HBLB.out).put HBLB.out
      clear hW9
      clear x3 f3 x4 f4 x6 f6
      obtain ⟨j6, hj6⟩ := HSW9.out.tape
      go_wp2_with fail
      refine (tapeNext_any W9 kt ad len cap j6 9 hj6 (by omega) (by omega)).mono ?_
      rintro e w10 ⟨vz, m6, rfl, vz0, vz1, ht6, hg6⟩
      have HGR := Lib.hid hg6
      have HN6 := Lib.hid (HSW9.out.next hg6 ⟨m6, ht6⟩)
      clear hj6 ht6 hg6
      have HREC10 := Lib.hid (HREC9.out.tape (w' := w10) (kt := kt) HGR.out (fun x hx => by have := HBLK.out x hx; have := HT2.out.lr; omega))
      by_cases hz : vz = 0
      · subst hz
        obtain ⟨j7, hj7⟩ := HN6.out.tape
        go_wp2_with fail
        refine (tapeNext_any w10 kt ad len cap j7 3 hj7 (by omega) (by omega)).mono ?_
        rintro e w11 ⟨vy, m7, rfl, vy0, vy1, ht7, hg7⟩
        have HGR7 := Lib.hid hg7
        have HN7 := Lib.hid (HN6.out.next hg7 ⟨m7, ht7⟩)
        clear hj7 ht7 hg7
        have HREC11 := Lib.hid (HREC10.out.tape (w' := w11) (kt := kt) HGR7.out (fun x hx => by have := HBLK.out x hx; have := HT2.out.lr; omega))
        have x3 := HN7.out.box.c3
        have f3 := HN7.out.box.free 3
        go_upto_region 12 with fail
        obtain ⟨W12, hW12⟩ : ∃ W, W = w11.setCell ⟨kb, 3, none⟩ (.int .i64 (2147483647 - vy)) := ⟨_, rfl⟩
        have HSW12 := Lib.hid (show TB w kt ad len cap kr kb base p ve (2147483647 - vy) tb 0 (.slice ad3 nl c3) W12 by rw [hW12]; exact HN7.out.s3 (2147483647 - vy))
        rw [← hW12]
        clear x3 f3
        have HREC12 : Hid (RecsAt W12 ad3 nl c3 l) := by show RecsAt _ _ _ _ _; rw [hW12]; exact HREC11.out.put HBLB.out
        have HOK := Lib.hid (right_data (p := p) (e := ve) (s := 2147483647 - vy) (t := tb) h0 h1 hpos ve0 (by omega) (by omega) (by omega) (by rw [HNL.out]; exact hl1) (by rw [HNL.out]; exact hl4) HSZ.out)
        clear hW12
        have x0 := HSW12.out.box.c0
        have x1 := HSW12.out.box.c1
        have x2 := HSW12.out.box.c2
        have x3 := HSW12.out.box.c3
        have x4 := HSW12.out.box.c4
        have x5 := HSW12.out.box.c5
        have x6 := HSW12.out.box.c6
        have r0 := HSW12.out.res.c0
        have q0 := HSW12.out.res.free 0
        have r1 := HSW12.out.res.c1
        have q1 := HSW12.out.res.free 1
        have r2 := HSW12.out.res.c2
        have q2 := HSW12.out.res.free 2
        have r3 := HSW12.out.res.c3
        have q3 := HSW12.out.res.free 3
        have r4 := HSW12.out.res.c4
        have q4 := HSW12.out.res.free 4
        have r5 := HSW12.out.res.c5
        have q5 := HSW12.out.res.free 5
        have r6 := HSW12.out.res.c6
        have q6 := HSW12.out.res.free 6
        go_wp2
        exact bodyPost_ret (resultsTape (((((((HSW12.out.res.s0 (base)).s1 (p)).s2 (ve)).s3 (2147483647 - vy)).s4 (tb)).s5 (0)).s6 (.slice ad3 nl c3)) rfl) rfl (gives_tape HSW12.out rfl HOK.out (bat_wf ⟨by omega, by omega⟩ ⟨by omega, by omega⟩ ⟨by omega, by omega⟩ ⟨by omega, by omega⟩ ⟨by omega, by omega⟩) HNL.out HREC12.out HBLK.out)
      · have hzb : (vz == 0) = false := by simpa using hz
        have HOK := Lib.hid (right_data (p := p) (e := ve) (s := vs) (t := tb) h0 h1 hpos ve0 (by omega) vs0 (by omega) (by rw [HNL.out]; exact hl1) (by rw [HNL.out]; exact hl4) HSZ.out)
        have x0 := HN6.out.box.c0
        have x1 := HN6.out.box.c1
        have x2 := HN6.out.box.c2
        have x3 := HN6.out.box.c3
        have x4 := HN6.out.box.c4
        have x5 := HN6.out.box.c5
        have x6 := HN6.out.box.c6
        have r0 := HN6.out.res.c0
        have q0 := HN6.out.res.free 0
        have r1 := HN6.out.res.c1
        have q1 := HN6.out.res.free 1
        have r2 := HN6.out.res.c2
        have q2 := HN6.out.res.free 2
        have r3 := HN6.out.res.c3
        have q3 := HN6.out.res.free 3
        have r4 := HN6.out.res.c4
        have q4 := HN6.out.res.free 4
        have r5 := HN6.out.res.c5
        have q5 := HN6.out.res.free 5
        have r6 := HN6.out.res.c6
        have q6 := HN6.out.res.free 6
        go_wp2
        exact bodyPost_ret (resultsTape (((((((HN6.out.res.s0 (base)).s1 (p)).s2 (ve)).s3 (vs)).s4 (tb)).s5 (0)).s6 (.slice ad3 nl c3)) rfl) rfl (gives_tape HN6.out rfl HOK.out (bat_wf ⟨by omega, by omega⟩ ⟨by omega, by omega⟩ ⟨by omega, by omega⟩ ⟨by omega, by omega⟩ ⟨by omega, by omega⟩) HNL.out HREC10.out HBLK.out)
end Go.Proofs.Ytlpmfhccfihnfaa
