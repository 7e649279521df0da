/- Parts of a proof. -/
import Derived.Deep.CutBlock
import Derived.Test.YtjmfdildnojknaaGreatKP6
set_option maxRecDepth 100000
set_option maxHeartbeats 16000000
set_option linter.unusedVariables false
namespace Go.Proofs.YtjmfdildnojknaaGreat
open Go.RowKit
open Go.SeqMath
open Go.BatMath hiding AllB getD_lt take_all
theorem TapeAt.other {w : World} {kt len cap i k j : Nat} {ad : Option Addr} (h : TapeAt w kt ad len cap i) (hk : kt < k) (u : Value) : TapeAt (w.setCell ⟨k, j, none⟩ u) kt ad len cap i := by
 have hx : ∀ b, b < k → (w.setCell ⟨k, j, none⟩ u).heap[b]? = w.heap[b]? := fun b hb => by
  show (w.heap.modify k _)[b]? = _
  rw [Array.getElem?_modify, if_neg (by omega)]
 refine ⟨(hx kt hk).trans h.blk, h.le, h.big, fun j' hj => ?_⟩
 obtain ⟨b, off, n, e, hne, hc, hn⟩ := h.nums j' hj
 exact ⟨b, off, n, e, hne, (World.cell?_of_block (a := ⟨b, off + j', none⟩) (hx b (by omega))).trans hc, hn⟩
def TapeT (w : World) (kt : Nat) (ad : Option Addr) (len cap : Nat) : Prop := ∃ i, TapeAt w kt ad len cap i
theorem TapeT.other {w : World} {kt len cap k j : Nat} {ad : Option Addr} (h : TapeT w kt ad len cap) (hk : kt < k) (u : Value) : TapeT (w.setCell ⟨k, j, none⟩ u) kt ad len cap := by
 obtain ⟨i, h⟩ := h
 exact ⟨i, h.other hk u⟩
structure TB (w : World) (kt : Nat) (ad : Option Addr) (len cap kr kb : Nat) (b0 b1 b2 b3 : Int) (b4 : Bool) (b5 : Int) (v : Value) (W : World) : Prop where
 box : BoxAt W kb b0 b1 b2 b3 b4 b5 v
 res : BoxAt W kr 0 0 0 0 false 0 (.slice none 0 0)
 lo : w.heap.size ≤ kb
 lr : w.heap.size ≤ kr
 ne : kb ≠ kr
 ht : kt < w.heap.size
 tape : TapeT W kt ad len cap
 grow : w.grownBy W (some kt)
section
variable {w W W' : World} {kt len cap kr kb : Nat} {ad : Option Addr} {b0 b1 b2 b3 : Int} {b4 : Bool} {b5 : Int} {v : Value}
theorem TB.s2 (h : TB w kt ad len cap kr kb b0 b1 b2 b3 b4 b5 v W) (n : Int) : TB w kt ad len cap kr kb b0 b1 n b3 b4 b5 v (W.setCell ⟨kb, 2, none⟩ (.int .i64 n)) := ⟨h.box.s2 n, h.res.off h.ne _, h.lo, h.lr, h.ne, h.ht, h.tape.other (by have := h.lo; have := h.ht; omega) _, grow_new h.grow h.lo _⟩
theorem TB.s3 (h : TB w kt ad len cap kr kb b0 b1 b2 b3 b4 b5 v W) (n : Int) : TB w kt ad len cap kr kb b0 b1 b2 n b4 b5 v (W.setCell ⟨kb, 3, none⟩ (.int .i64 n)) := ⟨h.box.s3 n, h.res.off h.ne _, h.lo, h.lr, h.ne, h.ht, h.tape.other (by have := h.lo; have := h.ht; omega) _, grow_new h.grow h.lo _⟩
theorem TB.s4 (h : TB w kt ad len cap kr kb b0 b1 b2 b3 b4 b5 v W) (n : Bool) : TB w kt ad len cap kr kb b0 b1 b2 b3 n b5 v (W.setCell ⟨kb, 4, none⟩ (.bool n)) := ⟨h.box.s4 n, h.res.off h.ne _, h.lo, h.lr, h.ne, h.ht, h.tape.other (by have := h.lo; have := h.ht; omega) _, grow_new h.grow h.lo _⟩
theorem TB.s5 (h : TB w kt ad len cap kr kb b0 b1 b2 b3 b4 b5 v W) (n : Int) : TB w kt ad len cap kr kb b0 b1 b2 b3 b4 n v (W.setCell ⟨kb, 5, none⟩ (.int .i64 n)) := ⟨h.box.s5 n, h.res.off h.ne _, h.lo, h.lr, h.ne, h.ht, h.tape.other (by have := h.lo; have := h.ht; omega) _, grow_new h.grow h.lo _⟩
theorem TB.s6 (h : TB w kt ad len cap kr kb b0 b1 b2 b3 b4 b5 v W) (n : Value) : TB w kt ad len cap kr kb b0 b1 b2 b3 b4 b5 n (W.setCell ⟨kb, 6, none⟩ n) := ⟨h.box.s6 n, h.res.off h.ne _, h.lo, h.lr, h.ne, h.ht, h.tape.other (by have := h.lo; have := h.ht; omega) _, grow_new h.grow h.lo _⟩
theorem TB.next (h : TB w kt ad len cap kr kb b0 b1 b2 b3 b4 b5 v W) (hg : W.grownBy W' (some kt)) (ht : TapeT W' kt ad len cap) : TB w kt ad len cap kr kb b0 b1 b2 b3 b4 b5 v W' :=
 ⟨h.box.tape hg (by have := h.lo; have := h.ht; omega), h.res.tape hg (by have := h.lr; have := h.ht; omega), h.lo, h.lr, h.ne, h.ht, ht, grow_trans h.grow hg⟩
end
theorem resultsTape {tmps : Array Value} {B : Nat} {W : World} {b0 b1 b2 b3 : Int} {b4 : Bool} {b5 : Int} {v : Value} (h : BoxAt W B b0 b1 b2 b3 b4 b5 v) (ht : tmps.getD 4 undef = .pointer (some ⟨B, 0, none⟩)) :
 (results Tryz.f22 tmps).run Tryz.prog W = .ok (.agg #[.int .i64 b0, .int .i64 b1, .int .i64 b2, .int .i64 b3, .bool b4, .int .i64 b5, v]) W := by
 rw [results_cell_one (p := 4) (ty := 29) Tryz.results22, ht]
 have hl := run_loadVar_row (P := Tryz.prog) W B 29 29 _ (0, 0) _ h Tryz.underlying29 rfl (by kernel_rfl)
 simp only [asAddr, Sem.run_pure, Result.andThen, hl]
def GivesTape (w : World) (kt : Nat) (ad : Option Addr) (len cap : Nat) (base : Int) (e : Ending) (w' : World) : Prop :=
 ∃ (b : Bat) (ad' : Option Addr) (cap' : Nat), e = .returned (.agg #[.int .i64 b.base, .int .i64 b.prod, .int .i64 b.epoch, .int .i64 b.seq, .bool b.txn, .int .i64 b.marker, .slice ad' b.recs.length cap']) ∧
   b.base = base ∧ rightE b = 0 ∧ b.wf ∧ RecsAt w' ad' b.recs.length cap' b.recs ∧ (∀ a, ad' = some a → w.heap.size ≤ a.block) ∧ TapeT w' kt ad len cap ∧ w.grownBy w' (some kt)
theorem gives_tape {w W : World} {kt len cap kr kb n cap' : Nat} {ad ad' : Option Addr} {b : Bat} {base : Int} {x0 x1 x2 x3 : Int} {x4 : Bool} {x5 : Int} {xv : Value} {u0 u1 u2 u3 u4 u5 u6 : Value} (hT : TB w kt ad len cap kr kb x0 x1 x2 x3 x4 x5 xv W) (hb : b.base = base) (ho : rightE b = 0) (hw : b.wf) (hn : b.recs.length = n) (hr : RecsAt W ad' n cap' b.recs) (hk : ∀ a, ad' = some a → kr < a.block) :
 GivesTape w kt ad len cap base (.returned (.agg #[.int .i64 b.base, .int .i64 b.prod, .int .i64 b.epoch, .int .i64 b.seq, .bool b.txn, .int .i64 b.marker, .slice ad' n cap'])) (((((((W.setCell ⟨kr, 0, none⟩ u0).setCell ⟨kr, 1, none⟩ u1).setCell ⟨kr, 2, none⟩ u2).setCell ⟨kr, 3, none⟩ u3).setCell ⟨kr, 4, none⟩ u4).setCell ⟨kr, 5, none⟩ u5).setCell ⟨kr, 6, none⟩ u6) := by
 subst hn
 have hlr := hT.lr
 have hlt : kt < kr := by have := hT.ht; omega
 refine ⟨b, ad', cap', rfl, hb, ho, hw, ((((((hr.put hk).put hk).put hk).put hk).put hk).put hk).put hk, (fun a h => by have := hk a h; omega), ((((((hT.tape.other hlt _).other hlt _).other hlt _).other hlt _).other hlt _).other hlt _).other hlt _, ?_⟩
 exact grow_new (grow_new (grow_new (grow_new (grow_new (grow_new (grow_new hT.grow hlr _) hlr _) hlr _) hlr _) hlr _) hlr _) hlr _
theorem right_none {base : Int} {l : List Rc} (h0 : 0 ≤ base) (h1 : base ≤ 1099511627776) (hl : 1 ≤ l.length) (hm : l.length ≤ 4) (hs : ∀ r ∈ l, r.key.size ≤ 64 ∧ r.val.size ≤ 64) : rightE ⟨base, -1, -1, -1, false, 0, l⟩ = 0 := by
 refine e_fine h0 h1 rfl ⟨.inl rfl, fun h => ?_⟩ ?_
 · simp only at h; rw [h] at hl; simp at hl
 rintro (h | ⟨r, hr, h⟩)
 · simp only at h; omega
 have := hs r hr
 rcases h with h | h <;> omega
theorem right_data {base p e s : Int} {t : Bool} {l : List Rc} (h0 : 0 ≤ base) (h1 : base ≤ 1099511627776) (p0 : 0 ≤ p) (e0 : 0 ≤ e) (e1 : e ≤ 32767) (s0 : 0 ≤ s) (s1 : s ≤ 2147483647) (hl : 1 ≤ l.length) (hm : l.length ≤ 4) (hs : ∀ r ∈ l, r.key.size ≤ 64 ∧ r.val.size ≤ 64) : rightE ⟨base, p, e, s, t, 0, l⟩ = 0 := by
 refine e_fine h0 h1 rfl ⟨.inr ⟨?_, right_yes s0 s1⟩, fun h => ?_⟩ ?_
 · unfold headB; simp [p0, e0, e1]
 · simp only at h; rw [h] at hl; simp at hl
 rintro (h | ⟨r, hr, h⟩)
 · simp only at h; omega
 have := hs r hr
 rcases h with h | h <;> omega
theorem right_mark {base p e m : Int} (h0 : 0 ≤ base) (h1 : base ≤ 1099511627776) (p0 : 0 ≤ p) (e0 : 0 ≤ e) (e1 : e ≤ 32767) (hm : m = 1 ∨ m = 2) : rightE ⟨base, p, e, -1, true, m, []⟩ = 0 := by
 rw [e_mark h0 h1 (by simp only; omega), if_pos]
 refine ⟨hm, ?_, rfl, rfl, rfl⟩
 unfold headB; simp [p0, e0, e1]
theorem bat_wf {a b c d f : Int} {t : Bool} {l : List Rc} (h0 : In64 a) (h1 : In64 b) (h2 : In64 c) (h3 : In64 d) (h4 : In64 f) : (⟨a, b, c, d, t, f, l⟩ : Bat).wf := ⟨h0, h1, h2, h3, h4⟩
theorem tapeBatch_any (w : World) (kt : Nat) (ad : Option Addr) (len cap i : Nat) (base : Int) (h : TapeAt w kt ad len cap i) (h0 : 0 ≤ base) (h1 : base ≤ 1099511627776) :
 Calls Tryz.prog 22 #[.pointer (some ⟨kt, 0, none⟩), .int .i64 base] w (GivesTape w kt ad len cap base) := by
 have hkt := h.lt
 have HR0 := qh (boxAt_new w 0 0 0 0 false 0 (.slice none 0 0))
 have H := qh (h.on ((Below.refl w.heap.size w).alloc (Nat.le_refl _) (.cells #[.int .i64 0, .int .i64 0, .int .i64 0, .int .i64 0, .bool false, .int .i64 0, .slice none 0 0] 29)))
 have HG0 := qh (grow_alloc (grow_refl w (some kt)) (.cells #[.int .i64 0, .int .i64 0, .int .i64 0, .int .i64 0, .bool false, .int .i64 0, .slice none 0 0] 29))
 clear h
 go_enter Tryz.func22, Tryz.ntmps22
 go_wp2_with fail
 refine (tapeNext_any _ kt ad len cap i 4 H.out (by omega) (by omega)).mono ?_
 rintro e w1 ⟨v, i1, rfl, v0, v1, ht1, hg1⟩
 obtain ⟨kb, hkb⟩ := exq w1.heap.size
 obtain ⟨kr, hkr⟩ := exq w.heap.size
 have hkk : kr < kb := by rw [hkb, hkr]; exact Nat.lt_of_lt_of_le HR0.out.lt hg1.size
 obtain ⟨p, hp⟩ := exq (v - 1)
 obtain ⟨W2, hW2⟩ := exq (w1.alloc (.cells #[.int .i64 base, .int .i64 p, .int .i64 0, .int .i64 0, .bool false, .int .i64 0, .slice none 0 0] 29))
 have HT2 : Hid (TB w kt ad len cap kr kb base p 0 0 false 0 (.slice none 0 0) W2) := by
  show TB _ _ _ _ _ _ _ _ _ _ _ _ _ _ _
  have hbb := wbq hW2
  refine ⟨by rw [hW2, hkb]; exact boxAt_new w1 _ _ _ _ _ _ _, ?_, by omega, by omega, by omega, hkt, ⟨i1, ht1.on hbb⟩, grow_below (grow_trans HG0.out hg1) hbb⟩
  have := (HR0.out.tape hg1 (by omega)).on hbb
  rw [hkr]; exact this
 have hpv : v - 1 = p := hp.symm
 have HW2 := qh hW2
 have p0 : -1 ≤ p := by omega
 have p2 : p ≤ 2 := by omega
 have HKB := qh hkb
 have HKR := qh hkr
 clear hkb hkr hW2 hp ht1 hg1
 by_cases hneg : p < 0
 · obtain rfl : p = -1 := by omega
   clear p0 p2
   go_upto_if 13 with (fail)
   rw [← HW2.out, ← HKB.out, ← HKR.out]
   obtain ⟨j1, hj1⟩ := HT2.out.tape
   go_wp2_with fail
   refine (tapeRecs_any W2 kt ad len cap j1 4 hj1 (by omega) (by omega)).mono ?_
   rintro e w3 ⟨l, v', m1, rfl, hown, hl1, hl4, hsz, ht1, hg1⟩
   obtain ⟨ad3, c3, hv3, hrec, hblk⟩ := hown.at
   obtain ⟨nl, hnl⟩ : ∃ nl, l.length = nl := ⟨_, rfl⟩
   rw [hnl] at hv3 hrec hl1 hl4
   subst hv3
   have HN1 := qh (HT2.out.next hg1 ⟨m1, ht1⟩)
   have HBLK : Hid (∀ a, ad3 = some a → kr < a.block) := fun a h => by have h1 := hblk a h; have h2 := HT2.out.res.lt; omega
   have HBLB : Hid (∀ a, ad3 = some a → kb < a.block) := fun a h => by have h1 := hblk a h; have h2 := HT2.out.box.lt; omega
   have HREC := qh hrec
   have HNL := qh hnl
   have HSZ := qh hsz
   clear hown hrec hblk hnl hsz hj1 ht1 hg1
   have x2 := HN1.out.box.c2
   have f2 := HN1.out.box.free 2
   have x3 := HN1.out.box.c3
   have f3 := HN1.out.box.free 3
   have x6 := HN1.out.box.c6
   have f6 := HN1.out.box.free 6
   go_upto_region 4 with fail
   obtain ⟨W4, hW4⟩ : ∃ W, W = ((w3.setCell ⟨kb, 2, none⟩ (.int .i64 (-1))).setCell ⟨kb, 3, none⟩ (.int .i64 (-1))).setCell ⟨kb, 6, none⟩ (.slice ad3 nl c3) := ⟨_, rfl⟩
   have HSW4 := qh (show TB w kt ad len cap kr kb base (-1) (-1) (-1) false 0 (.slice ad3 nl c3) W4 by rw [hW4]; exact ((HN1.out.s2 (-1)).s3 (-1)).s6 _)
   rw [← hW4]
   have HREC4 : Hid (RecsAt W4 ad3 nl c3 l) := by rw [hW4]; exact ((HREC.out.put HBLB.out).put HBLB.out).put HBLB.out
   have HOK := qh (right_none h0 h1 (by rw [HNL.out]; exact hl1) (by rw [HNL.out]; exact hl4) HSZ.out)
   clear hW4
   clear x2 f2 x3 f3 x6 f6
   obtain ⟨x0, x1, x2, x3, x4, x5, x6⟩ := HSW4.out.box.cs
   have r0 := HSW4.out.res.c0
   have q0 := HSW4.out.res.free 0
   have r1 := HSW4.out.res.c1
   have q1 := HSW4.out.res.free 1
   have r2 := HSW4.out.res.c2
   have q2 := HSW4.out.res.free 2
   have r3 := HSW4.out.res.c3
   have q3 := HSW4.out.res.free 3
   have r4 := HSW4.out.res.c4
   have q4 := HSW4.out.res.free 4
   have r5 := HSW4.out.res.c5
   have q5 := HSW4.out.res.free 5
   have r6 := HSW4.out.res.c6
   have q6 := HSW4.out.res.free 6
   go_wp2
   exact bodyPost_ret (resultsTape (((((((HSW4.out.res.s0 (base)).s1 (-1)).s2 (-1)).s3 (-1)).s4 (false)).s5 (0)).s6 (.slice ad3 nl c3)) rfl) rfl (gives_tape HSW4.out rfl HOK.out (bat_wf ⟨by omega, by omega⟩ ⟨by omega, by omega⟩ ⟨by omega, by omega⟩ ⟨by omega, by omega⟩ ⟨by omega, by omega⟩) HNL.out HREC4.out HBLK.out)
 have hpos : 0 ≤ p := by omega
 clear hneg p0
 go_upto_if 13 with (fail)
 rw [← HW2.out, ← HKB.out, ← HKR.out]
 obtain ⟨j1, hj1⟩ := HT2.out.tape
 go_wp2_with fail
 refine (tapeNext_any W2 kt ad len cap j1 3 hj1 (by omega) (by omega)).mono ?_
 rintro e w3 ⟨ve, m1, rfl, ve0, ve1, ht1, hg1⟩
 have HN1 := qh (HT2.out.next hg1 ⟨m1, ht1⟩)
 clear hj1 ht1 hg1
 have x2 := HN1.out.box.c2
 have f2 := HN1.out.box.free 2
 go_upto_region 6 with fail
 obtain ⟨W4, hW4⟩ := exq (w3.setCell ⟨kb, 2, none⟩ (.int .i64 ve))
 have HSW4 := qh (show TB w kt ad len cap kr kb base p ve 0 false 0 (.slice none 0 0) W4 by rw [hW4]; exact HN1.out.s2 ve)
 rw [← hW4]
 clear x2 f2
 clear hW4
 obtain ⟨j2, hj2⟩ := HSW4.out.tape
 go_wp2_with fail
 refine (tapeNext_any W4 kt ad len cap j2 4 hj2 (by omega) (by omega)).mono ?_
 rintro e w5 ⟨vq, m2, rfl, vq0, vq1, ht2, hg2⟩
 have HN2 := qh (HSW4.out.next hg2 ⟨m2, ht2⟩)
 clear hj2 ht2 hg2
 by_cases hq : vq = 0
 · subst hq
   obtain ⟨j3, hj3⟩ := HN2.out.tape
   go_wp2_with fail
   refine (tapeNext_any w5 kt ad len cap j3 2 hj3 (by omega) (by omega)).mono ?_
   rintro e w6 ⟨vm, m3, rfl, vm0, vm1, ht3, hg3⟩
   have HN3 := qh (HN2.out.next hg3 ⟨m3, ht3⟩)
   clear hj3 ht3 hg3
   have x3 := HN3.out.box.c3
   have f3 := HN3.out.box.free 3
   have x4 := HN3.out.box.c4
   have f4 := HN3.out.box.free 4
   have x5 := HN3.out.box.c5
   have f5 := HN3.out.box.free 5
   go_upto_region 8 with fail
   obtain ⟨W7, hW7⟩ : ∃ W, W = ((w6.setCell ⟨kb, 3, none⟩ (.int .i64 (-1))).setCell ⟨kb, 4, none⟩ (.bool true)).setCell ⟨kb, 5, none⟩ (.int .i64 (1 + vm)) := ⟨_, rfl⟩
   have HSW7 := qh (show TB w kt ad len cap kr kb base p ve (-1) true (1 + vm) (.slice none 0 0) W7 by rw [hW7]; exact ((HN3.out.s3 (-1)).s4 true).s5 (1 + vm))
   rw [← hW7]
   clear x3 f3 x4 f4 x5 f5
   have HOK := qh (right_mark (m := 1 + vm) h0 h1 hpos ve0 (by omega) (by omega))
   clear hW7
   obtain ⟨x0, x1, x2, x3, x4, x5, x6⟩ := HSW7.out.box.cs
   have r0 := HSW7.out.res.c0
   have q0 := HSW7.out.res.free 0
   have r1 := HSW7.out.res.c1
   have q1 := HSW7.out.res.free 1
   have r2 := HSW7.out.res.c2
   have q2 := HSW7.out.res.free 2
   have r3 := HSW7.out.res.c3
   have q3 := HSW7.out.res.free 3
   have r4 := HSW7.out.res.c4
   have q4 := HSW7.out.res.free 4
   have r5 := HSW7.out.res.c5
   have q5 := HSW7.out.res.free 5
   have r6 := HSW7.out.res.c6
   have q6 := HSW7.out.res.free 6
   go_wp2
   exact bodyPost_ret (resultsTape (((((((HSW7.out.res.s0 (base)).s1 (p)).s2 (ve)).s3 (-1)).s4 (true)).s5 (1 + vm)).s6 (.slice none 0 0)) rfl) rfl (gives_tape HSW7.out rfl HOK.out (bat_wf ⟨by omega, by omega⟩ ⟨by omega, by omega⟩ ⟨by omega, by omega⟩ ⟨by omega, by omega⟩ ⟨by omega, by omega⟩) rfl (recsAt_nil _) (fun a h => by cases h))
 have hqb : (vq == 0) = false := by simpa using hq
 obtain ⟨j3, hj3⟩ := HN2.out.tape
 go_wp2_with fail
 refine (tapeNext_any w5 kt ad len cap j3 6 hj3 (by omega) (by omega)).mono ?_
 rintro e w6 ⟨vs, m3, rfl, vs0, vs1, ht3, hg3⟩
 have HN3 := qh (HN2.out.next hg3 ⟨m3, ht3⟩)
 clear hj3 ht3 hg3
 obtain ⟨j4, hj4⟩ := HN3.out.tape
 go_wp2_with fail
 refine (tapeNext_any w6 kt ad len cap j4 2 hj4 (by omega) (by omega)).mono ?_
 rintro e w7 ⟨vt, m4, rfl, vt0, vt1, ht4, hg4⟩
 have HN4 := qh (HN3.out.next hg4 ⟨m4, ht4⟩)
 clear hj4 ht4 hg4
 obtain ⟨tb, htb⟩ : ∃ tb, (vt == 0) = tb := ⟨_, rfl⟩
 obtain ⟨j5, hj5⟩ := HN4.out.tape
 go_wp2_with fail
 refine (tapeRecs_any w7 kt ad len cap j5 4 hj5 (by omega) (by omega)).mono ?_
 rintro e w8 ⟨l, v', m5, rfl, hown, hl1, hl4, hsz, ht5, hg5⟩
 obtain ⟨ad3, c3, hv3, hrec, hblk⟩ := hown.at
 obtain ⟨nl, hnl⟩ : ∃ nl, l.length = nl := ⟨_, rfl⟩
 rw [hnl] at hv3 hrec hl1 hl4
 subst hv3
 have HN5 := qh (HN4.out.next hg5 ⟨m5, ht5⟩)
 have HBLK : Hid (∀ a, ad3 = some a → kr < a.block) := fun a h => by have h1 := hblk a h; have h2 := HN4.out.res.lt; omega
 have HBLB : Hid (∀ a, ad3 = some a → kb < a.block) := fun a h => by have h1 := hblk a h; have h2 := HN4.out.box.lt; omega
 have HREC := qh hrec
 have HNL := qh hnl
 have HSZ := qh hsz
 clear hown hrec hblk hnl hsz hj5 ht5 hg5
 have x3 := HN5.out.box.c3
 have f3 := HN5.out.box.free 3
 have x4 := HN5.out.box.c4
 have f4 := HN5.out.box.free 4
 have x6 := HN5.out.box.c6
 have f6 := HN5.out.box.free 6
 go_upto_region 10 with fail
 obtain ⟨W9, hW9⟩ : ∃ W, W = ((w8.setCell ⟨kb, 3, none⟩ (.int .i64 vs)).setCell ⟨kb, 4, none⟩ (.bool tb)).setCell ⟨kb, 6, none⟩ (.slice ad3 nl c3) := ⟨_, rfl⟩
 have HSW9 := qh (show TB w kt ad len cap kr kb base p ve vs tb 0 (.slice ad3 nl c3) W9 by rw [hW9]; exact ((HN5.out.s3 vs).s4 tb).s6 _)
 rw [← hW9]
 have HREC9 : Hid (RecsAt W9 ad3 nl c3 l) := by rw [hW9]; exact ((HREC.out.put HBLB.out).put HBLB.out).put HBLB.out
 clear hW9
 clear x3 f3 x4 f4 x6 f6
 obtain ⟨j6, hj6⟩ := HSW9.out.tape
 go_wp2_with fail
 refine (tapeNext_any W9 kt ad len cap j6 9 hj6 (by omega) (by omega)).mono ?_
 rintro e w10 ⟨vz, m6, rfl, vz0, vz1, ht6, hg6⟩
 have HGR := qh hg6
 have HN6 := qh (HSW9.out.next hg6 ⟨m6, ht6⟩)
 clear hj6 ht6 hg6
 have HREC10 := qh (HREC9.out.tape (w' := w10) (kt := kt) HGR.out (fun x hx => by have := HBLK.out x hx; have := HT2.out.lr; omega))
 by_cases hz : vz = 0
 rotate_left
 · have hzb : (vz == 0) = false := by simpa using hz
   have HOK := qh (right_data (p := p) (e := ve) (s := vs) (t := tb) h0 h1 hpos ve0 (by omega) vs0 (by omega) (by rw [HNL.out]; exact hl1) (by rw [HNL.out]; exact hl4) HSZ.out)
   obtain ⟨x0, x1, x2, x3, x4, x5, x6⟩ := HN6.out.box.cs
   have r0 := HN6.out.res.c0
   have q0 := HN6.out.res.free 0
   have r1 := HN6.out.res.c1
   have q1 := HN6.out.res.free 1
   have r2 := HN6.out.res.c2
   have q2 := HN6.out.res.free 2
   have r3 := HN6.out.res.c3
   have q3 := HN6.out.res.free 3
   have r4 := HN6.out.res.c4
   have q4 := HN6.out.res.free 4
   have r5 := HN6.out.res.c5
   have q5 := HN6.out.res.free 5
   have r6 := HN6.out.res.c6
   have q6 := HN6.out.res.free 6
   go_wp2
   exact bodyPost_ret (resultsTape (((((((HN6.out.res.s0 (base)).s1 (p)).s2 (ve)).s3 (vs)).s4 (tb)).s5 (0)).s6 (.slice ad3 nl c3)) rfl) rfl (gives_tape HN6.out rfl HOK.out (bat_wf ⟨by omega, by omega⟩ ⟨by omega, by omega⟩ ⟨by omega, by omega⟩ ⟨by omega, by omega⟩ ⟨by omega, by omega⟩) HNL.out HREC10.out HBLK.out)
 subst hz
 obtain ⟨j7, hj7⟩ := HN6.out.tape
 go_wp2_with fail
 refine (tapeNext_any w10 kt ad len cap j7 3 hj7 (by omega) (by omega)).mono ?_
 rintro e w11 ⟨vy, m7, rfl, vy0, vy1, ht7, hg7⟩
 have HGR7 := qh hg7
 have HN7 := qh (HN6.out.next hg7 ⟨m7, ht7⟩)
 clear hj7 ht7 hg7
 have HREC11 := qh (HREC10.out.tape (w' := w11) (kt := kt) HGR7.out (fun x hx => by have := HBLK.out x hx; have := HT2.out.lr; omega))
 have x3 := HN7.out.box.c3
 have f3 := HN7.out.box.free 3
 go_upto_region 12 with fail
 obtain ⟨W12, hW12⟩ := exq (w11.setCell ⟨kb, 3, none⟩ (.int .i64 (2147483647 - vy)))
 have HSW12 := qh (show TB w kt ad len cap kr kb base p ve (2147483647 - vy) tb 0 (.slice ad3 nl c3) W12 by rw [hW12]; exact HN7.out.s3 (2147483647 - vy))
 rw [← hW12]
 clear x3 f3
 have HREC12 : Hid (RecsAt W12 ad3 nl c3 l) := by rw [hW12]; exact HREC11.out.put HBLB.out
 have HOK := qh (right_data (p := p) (e := ve) (s := 2147483647 - vy) (t := tb) h0 h1 hpos ve0 (by omega) (by omega) (by omega) (by rw [HNL.out]; exact hl1) (by rw [HNL.out]; exact hl4) HSZ.out)
 clear hW12
 obtain ⟨x0, x1, x2, x3, x4, x5, x6⟩ := HSW12.out.box.cs
 have r0 := HSW12.out.res.c0
 have q0 := HSW12.out.res.free 0
 have r1 := HSW12.out.res.c1
 have q1 := HSW12.out.res.free 1
 have r2 := HSW12.out.res.c2
 have q2 := HSW12.out.res.free 2
 have r3 := HSW12.out.res.c3
 have q3 := HSW12.out.res.free 3
 have r4 := HSW12.out.res.c4
 have q4 := HSW12.out.res.free 4
 have r5 := HSW12.out.res.c5
 have q5 := HSW12.out.res.free 5
 have r6 := HSW12.out.res.c6
 have q6 := HSW12.out.res.free 6
 go_wp2
 exact bodyPost_ret (resultsTape (((((((HSW12.out.res.s0 (base)).s1 (p)).s2 (ve)).s3 (2147483647 - vy)).s4 (tb)).s5 (0)).s6 (.slice ad3 nl c3)) rfl) rfl (gives_tape HSW12.out rfl HOK.out (bat_wf ⟨by omega, by omega⟩ ⟨by omega, by omega⟩ ⟨by omega, by omega⟩ ⟨by omega, by omega⟩ ⟨by omega, by omega⟩) HNL.out HREC12.out HBLK.out)
end Go.Proofs.YtjmfdildnojknaaGreat
namespace Go.Proofs.YtjmfdildnojknaaGreat
open Go.RowKit
open Go.SeqMath
open Go.BatMath hiding AllB getD_lt take_all
open Go.VarMath (longB length_longB)
theorem texts_of {l : List Rc} (h : ∀ r ∈ l, r.key.size ≤ 64 ∧ r.val.size ≤ 64) : TextsOk l := fun r hr => by have := h r hr; omega
end Go.Proofs.YtjmfdildnojknaaGreat
namespace Go.Proofs.YtjmfdildnojknaaGreat
open Go.RowKit
open Go.SeqMath
open Go.ProdMath
open Go.BatMath hiding AllB getD_lt take_all
theorem infoTr : (Tryz.prog.info? 59).map (fun i => (i.zero, i.size, i.bytes)) = some (some (.agg #[.int .i64 0, .int .i64 0, .int .i64 0]), 3, 24) := by kernel_rfl
def trK : Kind Tr := ⟨fun x => [.int .i64 x.f, .int .i64 x.l, .int .i64 x.b], 3, 59, 56⟩
theorem trK_ok : trK.Ok 24 where
 und := Tryz.underlying56
 info := by
  obtain ⟨i, hi, hz, hs, hb⟩ := info_parts infoTr
  exact ⟨i, _, hi, hz, hs, hb, rfl⟩
 len := fun _ => rfl
 pos := by decide
 one := fun r u hu => by
  simp only [trK, List.mem_cons, List.not_mem_nil, or_false] at hu
  rcases hu with rfl | rfl | rfl <;> rfl
 few := by decide
theorem infoDr : (Tryz.prog.info? 116).map (fun i => (i.zero, i.size, i.bytes)) = some (some (.agg #[.int .i64 0, .int .i64 0, .int .i64 0]), 3, 24) := by kernel_rfl
def drK : Kind Dr := ⟨fun x => [.int .i64 x.prod, .int .i64 x.first, .int .i64 x.last], 3, 116, 71⟩
theorem drK_ok : drK.Ok 24 where
 und := Tryz.underlying71
 info := by
  obtain ⟨i, hi, hz, hs, hb⟩ := info_parts infoDr
  exact ⟨i, _, hi, hz, hs, hb, rfl⟩
 len := fun _ => rfl
 pos := by decide
 one := fun r u hu => by
  simp only [drK, List.mem_cons, List.not_mem_nil, or_false] at hu
  rcases hu with rfl | rfl | rfl <;> rfl
 few := by decide
structure PM where
 p : Pd
 ad : Option Addr
 cap : Nat
theorem infoPd : (Tryz.prog.info? 58).map (fun i => (i.zero, i.size, i.bytes)) = some (some (.agg #[.int .i64 0, .int .i64 0, .slice none 0 0, .int .i64 0]), 4, 48) := by kernel_rfl
def pdK : Kind PM := ⟨fun m => [.int .i64 m.p.id, .int .i64 m.p.epoch, .slice m.ad m.p.last.length m.cap, .int .i64 m.p.opn], 4, 58, 54⟩
theorem pdK_ok : pdK.Ok 48 where
 und := Tryz.underlying54
 info := by
  obtain ⟨i, hi, hz, hs, hb⟩ := info_parts infoPd
  exact ⟨i, _, hi, hz, hs, hb, rfl⟩
 len := fun _ => rfl
 pos := by decide
 one := fun r u hu => by
  simp only [pdK, List.mem_cons, List.not_mem_nil, or_false] at hu
  rcases hu with rfl | rfl | rfl | rfl <;> rfl
 few := by decide
structure BM where
 b : Bat
 ad : Option Addr
 cap : Nat
theorem infoBat : (Tryz.prog.info? 29).map (fun i => (i.zero, i.size, i.bytes)) = some (some (.agg #[.int .i64 0, .int .i64 0, .int .i64 0, .int .i64 0, .bool false, .int .i64 0, .slice none 0 0]), 7, 72) := by kernel_rfl
def batK : Kind BM := ⟨fun m => [.int .i64 m.b.base, .int .i64 m.b.prod, .int .i64 m.b.epoch, .int .i64 m.b.seq, .bool m.b.txn, .int .i64 m.b.marker, .slice m.ad m.b.recs.length m.cap], 7, 29, 42⟩
theorem batK_ok : batK.Ok 72 where
 und := Tryz.underlying42
 info := by
  obtain ⟨i, hi, hz, hs, hb⟩ := info_parts infoBat
  exact ⟨i, _, hi, hz, hs, hb, rfl⟩
 len := fun _ => rfl
 pos := by decide
 one := fun r u hu => by
  simp only [batK, List.mem_cons, List.not_mem_nil, or_false] at hu
  rcases hu with rfl | rfl | rfl | rfl | rfl | rfl | rfl <;> rfl
 few := by decide
abbrev LastAt (w : World) (m : PM) : Prop := RowAt trK w m.ad m.p.last.length m.cap m.p.last
abbrev RecAt (w : World) (m : BM) : Prop := RecsAt w m.ad m.b.recs.length m.cap m.b.recs
def LastsAt (w : World) (ms : List PM) : Prop := ∀ m ∈ ms, LastAt w m
def RecssAt (w : World) (ms : List BM) : Prop := ∀ m ∈ ms, RecAt w m
theorem LastsAt.keep {w w' : World} {ms : List PM} (h : LastsAt w ms) (hb : Below w.heap.size w w') : LastsAt w' ms := fun m hm => (h m hm).keep hb
theorem RecssAt.keep {w w' : World} {ms : List BM} (h : RecssAt w ms) (hb : Below w.heap.size w w') : RecssAt w' ms := fun m hm => (h m hm).keep hb
structure PdsAt (w : World) (ad : Option Addr) (len cap : Nat) (ms : List PM) : Prop where
 row : RowAt pdK w ad len cap ms
 ins : LastsAt w ms
theorem PdsAt.keep {w w' : World} {ad : Option Addr} {len cap : Nat} {ms : List PM} (h : PdsAt w ad len cap ms) (hb : Below w.heap.size w w') : PdsAt w' ad len cap ms := ⟨h.row.keep hb, h.ins.keep hb⟩
structure BatsAt (w : World) (ad : Option Addr) (len cap : Nat) (ms : List BM) : Prop where
 row : RowAt batK w ad len cap ms
 ins : RecssAt w ms
theorem BatsAt.keep {w w' : World} {ad : Option Addr} {len cap : Nat} {ms : List BM} (h : BatsAt w ad len cap ms) (hb : Below w.heap.size w w') : BatsAt w' ad len cap ms := ⟨h.row.keep hb, h.ins.keep hb⟩
theorem BatsAt.get {w : World} {ad : Option Addr} {len cap : Nat} {ms : List BM} (h : BatsAt w ad len cap ms) {i : Nat} (hi : i < len) :
 ∃ b off m, ad = some ⟨b, off, none⟩ ∧ b < w.heap.size ∧ ms[i]? = some m ∧ RecAt w m ∧ w.cell? ⟨b, off + i * 7, none⟩ = some (.int .i64 m.b.base) ∧ w.cell? ⟨b, off + i * 7 + 1, none⟩ = some (.int .i64 m.b.prod) ∧ w.cell? ⟨b, off + i * 7 + 2, none⟩ = some (.int .i64 m.b.epoch) ∧ w.cell? ⟨b, off + i * 7 + 3, none⟩ = some (.int .i64 m.b.seq) ∧ w.cell? ⟨b, off + i * 7 + 4, none⟩ = some (.bool m.b.txn) ∧ w.cell? ⟨b, off + i * 7 + 5, none⟩ = some (.int .i64 m.b.marker) ∧ w.cell? ⟨b, off + i * 7 + 6, none⟩ = some (.slice m.ad m.b.recs.length m.cap) := by
 obtain ⟨b, off, m, e, hb, hm, hc⟩ := h.row.get hi
 exact ⟨b, off, m, e, hb, hm, h.ins m (List.mem_of_getElem? hm), hc 0 _ rfl, hc 1 _ rfl, hc 2 _ rfl, hc 3 _ rfl, hc 4 _ rfl, hc 5 _ rfl, hc 6 _ rfl⟩
theorem PdsAt.get {w : World} {ad : Option Addr} {len cap : Nat} {ms : List PM} (h : PdsAt w ad len cap ms) {i : Nat} (hi : i < len) :
 ∃ b off m, ad = some ⟨b, off, none⟩ ∧ b < w.heap.size ∧ ms[i]? = some m ∧ LastAt w m ∧ w.cell? ⟨b, off + i * 4, none⟩ = some (.int .i64 m.p.id) ∧ w.cell? ⟨b, off + i * 4 + 1, none⟩ = some (.int .i64 m.p.epoch) ∧ w.cell? ⟨b, off + i * 4 + 2, none⟩ = some (.slice m.ad m.p.last.length m.cap) ∧ w.cell? ⟨b, off + i * 4 + 3, none⟩ = some (.int .i64 m.p.opn) := by
 obtain ⟨b, off, m, e, hb, hm, hc⟩ := h.row.get hi
 exact ⟨b, off, m, e, hb, hm, h.ins m (List.mem_of_getElem? hm), hc 0 _ rfl, hc 1 _ rfl, hc 2 _ rfl, hc 3 _ rfl⟩
theorem tr_get {w : World} {ad : Option Addr} {len cap : Nat} {l : List Tr} (h : RowAt trK w ad len cap l) {i : Nat} (hi : i < len) :
 ∃ b off x, ad = some ⟨b, off, none⟩ ∧ b < w.heap.size ∧ l[i]? = some x ∧ w.cell? ⟨b, off + i * 3, none⟩ = some (.int .i64 x.f) ∧ w.cell? ⟨b, off + i * 3 + 1, none⟩ = some (.int .i64 x.l) ∧ w.cell? ⟨b, off + i * 3 + 2, none⟩ = some (.int .i64 x.b) := by
 obtain ⟨b, off, m, e, hb, hm, hc⟩ := h.get hi
 exact ⟨b, off, m, e, hb, hm, hc 0 _ rfl, hc 1 _ rfl, hc 2 _ rfl⟩
def PBox (w : World) (k : Nat) (b0 b1 : Int) (v : Value) (b3 : Int) : Prop := w.heap[k]? = some (.cells #[.int .i64 b0, .int .i64 b1, v, .int .i64 b3] 58 (0, 0))
section
variable {w w' : World} {k : Nat} {b0 b1 b3 : Int} {v : Value}
theorem PBox.c0 (h : PBox w k b0 b1 v b3) : w.cell? ⟨k, 0, none⟩ = some (.int .i64 b0) := by rw [cell_of_row _ _ 0 _ _ _ h]; rfl
theorem PBox.c1 (h : PBox w k b0 b1 v b3) : w.cell? ⟨k, 1, none⟩ = some (.int .i64 b1) := by rw [cell_of_row _ _ 1 _ _ _ h]; rfl
theorem PBox.c2 (h : PBox w k b0 b1 v b3) : w.cell? ⟨k, 2, none⟩ = some v := by rw [cell_of_row _ _ 2 _ _ _ h]; rfl
theorem PBox.c3 (h : PBox w k b0 b1 v b3) : w.cell? ⟨k, 3, none⟩ = some (.int .i64 b3) := by rw [cell_of_row _ _ 3 _ _ _ h]; rfl
theorem PBox.free (h : PBox w k b0 b1 v b3) (j : Nat) : w.frozen? ⟨k, j, none⟩ = false := frozen_of_row w k j _ _ h
theorem PBox.lt (h : PBox w k b0 b1 v b3) : k < w.heap.size := lt_of_block h
theorem PBox.keep {B : Nat} (h : PBox w k b0 b1 v b3) (hb : Below B w w') (hk : k < B) : PBox w' k b0 b1 v b3 := by
 unfold PBox at *
 rw [hb.block k hk]
 exact h
theorem PBox.on (h : PBox w k b0 b1 v b3) (hb : Below w.heap.size w w') : PBox w' k b0 b1 v b3 := h.keep hb h.lt
theorem PBox.s0 (h : PBox w k b0 b1 v b3) (n : Int) : PBox (w.setCell ⟨k, 0, none⟩ (.int .i64 n)) k n b1 v b3 := box_set h 0 _
theorem PBox.s1 (h : PBox w k b0 b1 v b3) (n : Int) : PBox (w.setCell ⟨k, 1, none⟩ (.int .i64 n)) k b0 n v b3 := box_set h 1 _
theorem PBox.s2 (h : PBox w k b0 b1 v b3) (u : Value) : PBox (w.setCell ⟨k, 2, none⟩ u) k b0 b1 u b3 := box_set h 2 _
theorem PBox.s3 (h : PBox w k b0 b1 v b3) (n : Int) : PBox (w.setCell ⟨k, 3, none⟩ (.int .i64 n)) k b0 b1 v n := box_set h 3 _
theorem PBox.off (h : PBox w k b0 b1 v b3) {j i : Nat} (hj : j ≠ k) (u : Value) : PBox (w.setCell ⟨j, i, none⟩ u) k b0 b1 v b3 := box_off h hj u
theorem PBox.grown {r : Option Nat} (h : PBox w k b0 b1 v b3) (hg : w.grownBy w' r) (hr : r ≠ some k) : PBox w' k b0 b1 v b3 := by
 have hlt := h.lt
 unfold PBox at *
 rw [hg.block k hlt (fun e => hr e.symm)]
 exact h
theorem pbox_new (w : World) (b0 b1 : Int) (v : Value) (b3 : Int) : PBox (w.alloc (.cells #[.int .i64 b0, .int .i64 b1, v, .int .i64 b3] 58)) w.heap.size b0 b1 v b3 := heap_alloc_new w _
theorem BoxAt.grows {b2 : Int} {b4 : Bool} {b5 : Int} {r : Option Nat} (h : BoxAt w k b0 b1 b2 b3 b4 b5 v) (hg : w.grownBy w' r) (hr : r ≠ some k) : BoxAt w' k b0 b1 b2 b3 b4 b5 v := by
 have hlt := h.lt
 unfold BoxAt at *
 rw [hg.block k hlt (fun e => hr e.symm)]
 exact h
end
theorem beq_dec (a b : Int) : (a == b) = decide (a = b) := by
 by_cases h : a = b
 · subst h; simp
 rw [decide_eq_false h]; exact beq_false_of_ne h
theorem beq_dec2 (a b : Int) : (a == b) = decide (b = a) := by
 rw [beq_dec]
 by_cases h : a = b
 · subst h; rfl
 rw [decide_eq_false h, decide_eq_false (fun e => h e.symm)]
theorem refAdd_any (n k : Int) (w : World) (v : Int) (k0 : 0 ≤ k) (k1 : k ≤ 1000000) (hv : addI n k = v) :
 Calls Tryz.prog 153 #[.int .i64 n, .int .i64 k] w fun e w' => e = .returned (.int .i64 v) ∧ w = w' := by
 rcases hr : rightB n with _ | _
 · have HV : Hid (v = -1) := by show _ = _; rw [← hv, add_no hr]
   have HR := qh hr
   clear hv hr
   go_enter Tryz.func153, Tryz.ntmps153
   go_wp2_with (go_at_call 112; refine (refSeq_any n _ false HR.out).mono ?_; rintro e w' ⟨rfl, rfl⟩)
   go_ret
   exact ⟨by rw [HV.out]; rfl, rfl⟩
 obtain ⟨n0, n1⟩ := of_right hr
 have HV : Hid ((n + k) % 2147483648 = v) := by show _ = _; rw [← hv, add_yes n0 n1]
 have HR := qh hr
 clear hv hr
 go_enter Tryz.func153, Tryz.ntmps153
 go_wp2_with (go_at_call 112; refine (refSeq_any n _ true HR.out).mono ?_; rintro e w' ⟨rfl, rfl⟩)
 go_ret
 exact ⟨by show Ending.returned (.int .i64 (((n + k) % 2147483648 + 2147483648) % 2147483648)) = _; rw [← HV.out]; congr 2; omega, rfl⟩
theorem refLast_any (n : Int) (c : Nat) (w : World) (v : Int) (hc : c ≤ 140737488355328) (hv : lastI n c = v) :
 Calls Tryz.prog 144 #[.int .i64 n, .int .i64 (c : Int)] w fun e w' => e = .returned (.int .i64 v) ∧ w = w' := by
 by_cases h1 : c < 1
 · have HV : Hid (v = -1) := by show _ = _; rw [← hv, last_no (.inl (by omega))]
   have hd : decide ((c : Int) < 1) = true := decide_eq_true (by omega)
   clear hv
   go_enter Tryz.func144, Tryz.ntmps144
   go_wp2
   go_ret
   exact ⟨by rw [HV.out]; rfl, rfl⟩
 have hd : decide ((c : Int) < 1) = false := decide_eq_false (by omega)
 by_cases h2 : 16 < c
 · have HV : Hid (v = -1) := by show _ = _; rw [← hv, last_no (.inr (by omega))]
   have hd2 : decide ((16 : Int) < (c : Int)) = true := decide_eq_true (by omega)
   clear hv
   go_enter Tryz.func144, Tryz.ntmps144
   go_wp2
   go_ret
   exact ⟨by rw [HV.out]; rfl, rfl⟩
 have hd2 : decide ((16 : Int) < (c : Int)) = false := decide_eq_false (by omega)
 have HV : Hid (addI n ((c : Int) - 1) = v) := by show _ = _; rw [← hv, last_yes (by omega) (by omega)]
 clear hv
 go_enter Tryz.func144, Tryz.ntmps144
 go_wp2_with fail
 refine (refAdd_any n _ w v (by omega) (by omega) HV.out).mono ?_
 rintro e w' ⟨rfl, rfl⟩
 go_wp2
 go_ret
 exact ⟨rfl, rfl⟩
theorem refFollows_any (l f : Int) (w : World) (r : Bool) (hr : followsB l f = r) :
 Calls Tryz.prog 137 #[.int .i64 l, .int .i64 f] w fun e w' => e = .returned (.bool r) ∧ w = w' := by
 by_cases h1 : l = -1
 · subst h1
   have HV : Hid (decide (f = 0) = r) := by show _ = _; rw [← hr, follows_none]
   clear hr
   go_enter Tryz.func137, Tryz.ntmps137
   go_wp2
   go_ret
   exact ⟨by rw [← HV.out, ← beq_dec]; rfl, rfl⟩
 have hd : (l == -1) = false := by simp [h1]
 rcases hs : rightB l with _ | _
 · have HV : Hid (r = false) := by show _ = _; rw [← hr, follows_no h1 hs]
   have HS := qh hs
   clear hr hs h1
   go_enter Tryz.func137, Tryz.ntmps137
   go_wp2_with (go_at_call 112; refine (refSeq_any l _ false HS.out).mono ?_; rintro e w' ⟨rfl, rfl⟩)
   go_ret
   exact ⟨by rw [HV.out]; rfl, rfl⟩
 obtain ⟨n0, n1⟩ := of_right hs
 have HV : Hid (decide (f = addI l 1) = r) := by show _ = _; rw [← hr, follows_yes n0 n1]
 have HS := qh hs
 obtain ⟨v, hv⟩ : ∃ v, addI l 1 = v := ⟨_, rfl⟩
 rw [hv] at HV
 have HA := qh hv
 clear hr hs hv h1
 go_enter Tryz.func137, Tryz.ntmps137
 go_wp2_with (first | (go_at_call 112; refine (refSeq_any l _ true HS.out).mono ?_; rintro e w' ⟨rfl, rfl⟩) | (go_at_call 153; refine (refAdd_any l 1 _ v (by omega) (by omega) HA.out).mono ?_; rintro e w' ⟨rfl, rfl⟩))
 go_ret
 exact ⟨by rw [← HV.out, ← beq_dec2]; rfl, rfl⟩
def TBox (w : World) (k : Nat) (x : Tr) : Prop := w.heap[k]? = some (.cells #[.int .i64 x.f, .int .i64 x.l, .int .i64 x.b] 59 (0, 0))
theorem TBox.c0 {w : World} {k : Nat} {x : Tr} (h : TBox w k x) : w.cell? ⟨k, 0, none⟩ = some (.int .i64 x.f) := by rw [cell_of_row _ _ 0 _ _ _ h]; rfl
theorem TBox.c1 {w : World} {k : Nat} {x : Tr} (h : TBox w k x) : w.cell? ⟨k, 1, none⟩ = some (.int .i64 x.l) := by rw [cell_of_row _ _ 1 _ _ _ h]; rfl
theorem TBox.c2 {w : World} {k : Nat} {x : Tr} (h : TBox w k x) : w.cell? ⟨k, 2, none⟩ = some (.int .i64 x.b) := by rw [cell_of_row _ _ 2 _ _ _ h]; rfl
theorem TBox.on {w w' : World} {k : Nat} {x : Tr} (h : TBox w k x) (hb : Below w.heap.size w w') : TBox w' k x := by
 have hlt := lt_of_block h
 unfold TBox at *
 rw [hb.block k hlt]
 exact h
theorem tbox_new (w : World) (x : Tr) : TBox (w.alloc (.cells #[.int .i64 x.f, .int .i64 x.l, .int .i64 x.b] 59)) w.heap.size x := heap_alloc_new w _
def GivesDup (w : World) (r : Option Int) (e : Ending) (w' : World) : Prop := e = .returned (.tuple #[.int .i64 (r.getD (-1)), .bool r.isSome]) ∧ Below w.heap.size w w'
theorem gives_dup_none {w w' : World} {r : Option Int} (h : r = none) (hb : Below w.heap.size w w') : GivesDup w r (.returned (.tuple #[.int .i64 (-1), .bool false])) w' := ⟨by rw [h]; rfl, hb⟩
theorem gives_dup_some {w w' : World} {r : Option Int} {v : Int} (h : r = some v) (hb : Below w.heap.size w w') : GivesDup w r (.returned (.tuple #[.int .i64 v, .bool true])) w' := ⟨by rw [h]; rfl, hb⟩
theorem refDup_any (w : World) (id ep op : Int) (last : List Tr) (ad : Option Addr) (n cap : Nat) (hl : RowAt trK w ad n cap last) (hn : n ≤ 100000000000) (b0 b1 b2 b3 : Int) (b4 : Bool) (b5 : Int) (rd : Option Addr) (rn rc : Nat) (hrn : rn ≤ 140737488355328) (r : Option Int) (hr : (if b2 = ep ∧ b5 = 0 then dupL last b3 rn else none) = r) :
 Calls Tryz.prog 136 #[.agg #[.int .i64 id, .int .i64 ep, .slice ad n cap, .int .i64 op], .agg #[.int .i64 b0, .int .i64 b1, .int .i64 b2, .int .i64 b3, .bool b4, .int .i64 b5, .slice rd rn rc]] w (GivesDup w r) := by
 obtain ⟨W0, hW0⟩ : ∃ W0, W0 = ((w.alloc (.cells #[.int .i64 id, .int .i64 ep, .slice ad n cap, .int .i64 op] 58)).alloc (.cells #[.int .i64 b0, .int .i64 b1, .int .i64 b2, .int .i64 b3, .bool b4, .int .i64 b5, .slice rd rn rc] 29)) := ⟨_, rfl⟩
 have HB0 : Hid (Below w.heap.size w W0) := by rw [hW0]; exact (bal _ _).alloc (by simp) _
 have HP0 : Hid (PBox W0 w.heap.size id ep (.slice ad n cap) op) := by
  show PBox _ _ _ _ _ _
  rw [hW0]
  exact (pbox_new w id ep (.slice ad n cap) op).keep (bal _ _) (by simp)
 have HX0 : Hid (BoxAt W0 (w.heap.size + 1) b0 b1 b2 b3 b4 b5 (.slice rd rn rc)) := by
  show BoxAt _ _ _ _ _ _ _ _ _
  rw [hW0]
  have := boxAt_new (w.alloc (.cells #[.int .i64 id, .int .i64 ep, .slice ad n cap, .int .i64 op] 58)) b0 b1 b2 b3 b4 b5 (.slice rd rn rc)
  simpa using this
 have HL0 := qh (hl.keep HB0.out)
 have HR := qh hr
 have HW0 := qh hW0
 clear hl hr hW0
 obtain ⟨B1, hB1⟩ := exq w.heap.size
 obtain ⟨B2, hB2⟩ := exq (w.heap.size + 1)
 rw [← hB1] at HP0
 rw [← hB2] at HX0
 go_enter Tryz.func136, Tryz.ntmps136
 go_upto_region 1 with fail
 rw [← HW0.out, ← hB2, ← hB1]
 clear HW0 hB1 hB2
 have q0 := HP0.out.c0
 have q1 := HP0.out.c1
 have q2 := HP0.out.c2
 have q3 := HP0.out.c3
 have p2 := HX0.out.c2
 have p5 := HX0.out.c5
 by_cases he : b2 = ep
 rotate_left
 · have hd1 : (b2 == ep) = false := beq_false_of_ne he
   have HEND : Hid (r = none) := by show r = none; rw [← HR.out, if_neg (fun h => he h.1)]
   clear HR
   go_wp2
   go_ret2
   exact gives_dup_none HEND.out HB0.out
 have hd1 : (b2 == ep) = true := by rw [he]; simp
 by_cases hm : b5 = 0
 rotate_left
 · have hd2 : (b5 == 0) = false := beq_false_of_ne hm
   have HEND : Hid (r = none) := by show r = none; rw [← HR.out, if_neg (fun h => hm h.2)]
   clear HR
   go_wp2
   go_ret2
   exact gives_dup_none HEND.out HB0.out
 have hd2 : (b5 == 0) = true := by rw [hm]; rfl
 have HRR : Hid (dupL (last.drop 0) b3 rn = r) := by show _ = _; rw [← HR.out, if_pos ⟨he, hm⟩]; rfl
 clear HR he hm
 go_wp2
 go_loopw [21] (fun v21 wr => ∃ j : Nat, v21 = .int .i64 (j : Int) ∧ j ≤ n ∧ dupL (last.drop j) b3 rn = r ∧ Below W0.heap.size W0 wr) (fun v21 _ => n - (intOf v21).toNat)
 case atStart => exact ⟨0, rfl, Nat.zero_le _, HRR.out, Below.refl _ _⟩
 obtain ⟨j, rfl, hj, hdu, hbel⟩ := hrel
 have HD := qh hdu
 have HB := qh hbel
 clear hdu hbel HRR q0 q1 q2 q3 p2 p5
 obtain ⟨wo, hwo⟩ := exq wr
 subst hwo
 by_cases hlt : j < n
 rotate_left
 · have hd3 : decide (j < n) = false := decide_eq_false hlt
   have hln := HL0.out.length
   have HEND : Hid (r = none) := by show r = none; rw [← HD.out, List.drop_of_length_le (by omega), dup_none]
   clear hln
   go_wp2
   go_ret2
   exact gives_dup_none HEND.out (HB0.out.trans (HB.out.mono HB0.out.size))
 have hd3 : decide (j < n) = true := decide_eq_true hlt
 have hjn : (j : Int) < (n : Int) := by omega
 obtain ⟨bk, off, x, rfl, hbk, hx, c0, c1, c2⟩ := tr_get (HL0.out.keep HB.out) hlt
 have hdrop : last.drop j = x :: last.drop (j + 1) := by
  obtain ⟨hjl, hxe⟩ := List.getElem?_eq_some_iff.1 hx
  rw [List.drop_eq_getElem_cons hjl, hxe]
 have HDR := qh hdrop
 clear hdrop hx hbk
 go_upto_region 5 with fail
 obtain ⟨W1, hW1⟩ := exq (wo.alloc (.cells #[.int .i64 x.f, .int .i64 x.l, .int .i64 x.b] 59))
 have HB1 : Hid (Below W0.heap.size W0 W1) := by rw [hW1]; exact HB.out.alloc HB.out.size _
 obtain ⟨K, hK⟩ := exq wo.heap.size
 have HT1 : Hid (TBox W1 K x) := by rw [hW1, hK]; exact tbox_new wo x
 have HX1 := qh (HX0.out.on HB1.out)
 rw [← hW1, ← hK]
 clear hW1 hK c0 c1 c2 HB
 have KS : Hid (∀ W, Below W1.heap.size W1 W → (fun W => W.cell? ⟨K, 0, none⟩ = some (.int .i64 x.f) ∧ W.cell? ⟨K, 1, none⟩ = some (.int .i64 x.l) ∧ W.cell? ⟨K, 2, none⟩ = some (.int .i64 x.b) ∧ W.cell? ⟨B2, 0, none⟩ = some (.int .i64 b0) ∧ W.cell? ⟨B2, 1, none⟩ = some (.int .i64 b1) ∧ W.cell? ⟨B2, 2, none⟩ = some (.int .i64 b2) ∧ W.cell? ⟨B2, 3, none⟩ = some (.int .i64 b3) ∧ W.cell? ⟨B2, 4, none⟩ = some (.bool b4) ∧ W.cell? ⟨B2, 5, none⟩ = some (.int .i64 b5) ∧ W.cell? ⟨B2, 6, none⟩ = some (.slice rd rn rc) ∧ Below W1.heap.size W1 W) W) := by
  intro W hW
  have hX := HX1.out.on hW
  have hT := HT1.out.on hW
  exact ⟨hT.c0, hT.c1, hT.c2, hX.c0, hX.c1, hX.c2, hX.c3, hX.c4, hX.c5, hX.c6, hW⟩
 have hb1d : Below W1.heap.size W1 W1.drew := (Below.refl _ W1).drew
 by_cases hf : x.f = b3
 rotate_left
 · have hd4 : (x.f == b3) = false := beq_false_of_ne hf
   have HNX : Hid (dupL (last.drop (j + 1)) b3 rn = r) := by
    show _ = _
    rw [← HD.out, HDR.out, dup_miss]
    unfold hitB
    rw [decide_eq_false hf, Bool.false_and]
   refine wp_region_noPanic ?_
   refine zk [] KS ?_
   have hHeld := KS.out _ hb1d
   obtain ⟨u0, hu0⟩ := exq W1.drew
   rw [← hu0] at hHeld hb1d
   rw [← hu0]
   clear hu0
   have HU := qh hb1d
   clear hb1d
   refine zt 0 ?_
   refine zt 1 ?_
   refine zt 2 ?_
   refine zt 3 ?_
   refine zt 4 ?_
   refine zt 5 ?_
   refine zt 6 ?_
   refine zt 7 ?_
   refine zt 8 ?_
   refine zt 9 ?_
   refine zt 10 ?_
   refine zt 11 ?_
   refine zt 12 ?_
   refine zt 13 ?_
   refine zt 14 ?_
   refine zt 15 ?_
   refine zd ?_
   clear hHeld
   have HBU := qh (HB1.out.trans (HU.out.mono HB1.out.size))
   go_wp2
   go_roundw
   case rel => exact ⟨j + 1, by go_num, by omega, HNX.out, HBU.out⟩
   simp [intOf]; omega
 have hd4 : (x.f == b3) = true := by rw [hf]; simp
 obtain ⟨lv, hlv⟩ : ∃ lv, lastI b3 rn = lv := ⟨_, rfl⟩
 have HLV := qh hlv
 by_cases hll : x.l = lv
 · have hd5 : (x.l == lv) = true := by rw [hll]; simp
   have HEND : Hid (r = some x.b) := by
    show r = _
    rw [← HD.out, HDR.out, dup_hit]
    unfold hitB
    rw [hf, hlv, hll]
    simp
   clear hlv
   refine wp_region_noPanic ?_
   refine zk [] KS ?_
   have hHeld := KS.out _ hb1d
   obtain ⟨u0, hu0⟩ := exq W1.drew
   rw [← hu0] at hHeld hb1d
   rw [← hu0]
   clear hu0
   have HU0 := qh hb1d
   clear hb1d
   refine zt 0 ?_
   refine zt 1 ?_
   refine zt 2 ?_
   refine zt 3 ?_
   refine zt 4 ?_
   refine zt 5 ?_
   refine zt 6 ?_
   refine zt 7 ?_
   refine zt 8 ?_
   refine zt 9 ?_
   refine zt 10 ?_
   refine zt 11 ?_
   refine zt 12 ?_
   refine zr 13 (fun C hC => ?_)
   go_simp
   refine (refLast_any b3 rn u0 lv hrn HLV.out).mono ?_
   rintro e u1 ⟨rfl, rfl⟩
   go_wp2_with fail
   have hHeld := hq KS _ (hHeld)
   refine zc hC hHeld ?_
   clear hC C
   refine zt 14 ?_
   refine zt 15 ?_
   refine zd ?_
   have HU := HU0
   clear hHeld
   have k2 := (KS.out _ HU.out).2.2.1
   go_wp2
   go_ret2
   exact gives_dup_some HEND.out (HB0.out.trans ((HB1.out.trans (HU.out.mono HB1.out.size)).mono HB0.out.size))
 have hd5 : (x.l == lv) = false := beq_false_of_ne hll
 have HNX : Hid (dupL (last.drop (j + 1)) b3 rn = r) := by
  show _ = _
  rw [← HD.out, HDR.out, dup_miss]
  unfold hitB
  rw [hlv, decide_eq_false hll, Bool.and_false]
 clear hlv
 refine wp_region_noPanic ?_
 refine zk [] KS ?_
 have hHeld := KS.out _ hb1d
 obtain ⟨u0, hu0⟩ := exq W1.drew
 rw [← hu0] at hHeld hb1d
 rw [← hu0]
 clear hu0
 have HU0 := qh hb1d
 clear hb1d
 refine zt 0 ?_
 refine zt 1 ?_
 refine zt 2 ?_
 refine zt 3 ?_
 refine zt 4 ?_
 refine zt 5 ?_
 refine zt 6 ?_
 refine zt 7 ?_
 refine zt 8 ?_
 refine zt 9 ?_
 refine zt 10 ?_
 refine zt 11 ?_
 refine zt 12 ?_
 refine zr 13 (fun C hC => ?_)
 go_simp
 refine (refLast_any b3 rn u0 lv hrn HLV.out).mono ?_
 rintro e u1 ⟨rfl, rfl⟩
 go_wp2_with fail
 have hHeld := hq KS _ (hHeld)
 refine zc hC hHeld ?_
 clear hC C
 refine zt 14 ?_
 refine zt 15 ?_
 refine zd ?_
 have HU := HU0
 clear hHeld
 have HBU := qh (HB1.out.trans (HU.out.mono HB1.out.size))
 go_wp2
 go_roundw
 case rel => exact ⟨j + 1, by go_num, by omega, HNX.out, HBU.out⟩
 simp [intOf]; omega
def dupC (r : Option Int) (last : List Tr) (op s : Int) (t : Bool) : Int × Int := match r with
 | some n => (n, 0)
 | none => if last ≠ [] ∧ followsB (lastSeq last) s = false then (-1, 15) else if 0 ≤ op ∧ t = false then (-1, 16) else (-1, 0)
def GivesPair (w : World) (c : Int × Int) (e : Ending) (w' : World) : Prop := e = .returned (.tuple #[.int .i64 c.1, .int .i64 c.2]) ∧ Below w.heap.size w w'
theorem gives_pair {w w' : World} {c : Int × Int} {a b : Int} (h : c = (a, b)) (hb : Below w.heap.size w w') : GivesPair w c (.returned (.tuple #[.int .i64 a, .int .i64 b])) w' := ⟨by rw [h], hb⟩
theorem refCheck_any (w : World) (id ep op : Int) (last : List Tr) (ad : Option Addr) (n cap : Nat) (hl : RowAt trK w ad n cap last) (hn : n ≤ 100000000000) (known : Bool) (b0 b1 b2 b3 : Int) (b4 : Bool) (b5 : Int) (recs : List Rc) (rd : Option Addr) (rn rc : Nat) (hrl : recs.length = rn) (hrn : rn ≤ 140737488355328) (c : Int × Int) (hc : checkD ⟨id, ep, last, op⟩ known ⟨b0, b1, b2, b3, b4, b5, recs⟩ = c) :
 Calls Tryz.prog 106 #[.agg #[.int .i64 id, .int .i64 ep, .slice ad n cap, .int .i64 op], .bool known, .agg #[.int .i64 b0, .int .i64 b1, .int .i64 b2, .int .i64 b3, .bool b4, .int .i64 b5, .slice rd rn rc]] w (GivesPair w c) := by
 obtain ⟨W0, hW0⟩ : ∃ W0, W0 = ((w.alloc (.cells #[.int .i64 id, .int .i64 ep, .slice ad n cap, .int .i64 op] 58)).alloc (.cells #[.int .i64 b0, .int .i64 b1, .int .i64 b2, .int .i64 b3, .bool b4, .int .i64 b5, .slice rd rn rc] 29)) := ⟨_, rfl⟩
 have HB0 : Hid (Below w.heap.size w W0) := by rw [hW0]; exact (bal _ _).alloc (by simp) _
 have HP0 : Hid (PBox W0 w.heap.size id ep (.slice ad n cap) op) := by
  show PBox _ _ _ _ _ _
  rw [hW0]
  exact (pbox_new w id ep (.slice ad n cap) op).keep (bal _ _) (by simp)
 have HX0 : Hid (BoxAt W0 (w.heap.size + 1) b0 b1 b2 b3 b4 b5 (.slice rd rn rc)) := by
  show BoxAt _ _ _ _ _ _ _ _ _
  rw [hW0]
  have := boxAt_new (w.alloc (.cells #[.int .i64 id, .int .i64 ep, .slice ad n cap, .int .i64 op] 58)) b0 b1 b2 b3 b4 b5 (.slice rd rn rc)
  simpa using this
 have HL0 := qh (hl.keep HB0.out)
 have HC : Hid (checkD ⟨id, ep, last, op⟩ known ⟨b0, b1, b2, b3, b4, b5, recs⟩ = c) := hc
 have HW0 := qh hW0
 have HRL := qh hrl
 clear hl hc hW0 hrl
 obtain ⟨B1, hB1⟩ := exq w.heap.size
 obtain ⟨B2, hB2⟩ := exq (w.heap.size + 1)
 rw [← hB1] at HP0
 rw [← hB2] at HX0
 go_enter Tryz.func106, Tryz.ntmps106
 go_upto_region 1 with fail
 rw [← HW0.out, ← hB2, ← hB1]
 clear HW0 hB1 hB2
 have q0 := HP0.out.c0
 have q1 := HP0.out.c1
 have q2 := HP0.out.c2
 have q3 := HP0.out.c3
 obtain ⟨p0, p1, p2, p3, p4, p5, p6⟩ := HX0.out.cs
 by_cases hm : b5 = 0
 rotate_left
 · have hd1 : (b5 == 0) = false := beq_false_of_ne hm
   cases hkn : known
   · have HEND : Hid (c = (-1, 16)) := by show c = _; rw [← HC.out]; simp [checkD, hm, hkn]
     clear HC
     go_wp2
     go_ret2
     exact gives_pair HEND.out HB0.out
   by_cases h1 : b2 < ep
   · have hd2 : decide (b2 < ep) = true := decide_eq_true h1
     have HEND : Hid (c = (-1, 14)) := by show c = _; rw [← HC.out]; simp [checkD, hm, hkn, h1]
     clear HC
     go_wp2
     go_ret2
     exact gives_pair HEND.out HB0.out
   have hd2 : decide (b2 < ep) = false := decide_eq_false h1
   by_cases h3 : op < 0
   · have hd4 : decide (op < 0) = true := decide_eq_true h3
     have HEND : Hid (c = (-1, 16)) := by show c = _; rw [← HC.out]; simp [checkD, hm, hkn, h1, h3]
     clear HC
     go_wp2
     go_ret2
     exact gives_pair HEND.out HB0.out
   have hd4 : decide (op < 0) = false := decide_eq_false h3
   have HEND : Hid (c = (-1, 0)) := by show c = _; rw [← HC.out]; simp [checkD, hm, hkn, h1, h3]
   clear HC
   go_wp2
   go_ret2
   exact gives_pair HEND.out HB0.out
 have hd1 : (b5 == 0) = true := by rw [hm]; rfl
 cases hkn : known
 · have HEND : Hid (c = (-1, 0)) := by show c = _; rw [← HC.out]; simp [checkD, hm, hkn]
   clear HC
   go_wp2
   go_ret2
   exact gives_pair HEND.out HB0.out
 by_cases h1 : b2 < ep
 · have hd2 : decide (b2 < ep) = true := decide_eq_true h1
   have HEND : Hid (c = (-1, 14)) := by show c = _; rw [← HC.out]; simp [checkD, hm, hkn, h1]
   clear HC
   go_wp2
   go_ret2
   exact gives_pair HEND.out HB0.out
 have hd2 : decide (b2 < ep) = false := decide_eq_false h1
 by_cases h2 : ep < b2
 · have hd3 : decide (ep < b2) = true := decide_eq_true h2
   by_cases h3 : 0 ≤ op
   · have hd4 : decide (0 ≤ op) = true := decide_eq_true h3
     have HEND : Hid (c = (-1, 16)) := by show c = _; rw [← HC.out]; simp [checkD, hm, hkn, h1, h2, h3]
     clear HC
     go_wp2
     go_ret2
     exact gives_pair HEND.out HB0.out
   have hd4 : decide (0 ≤ op) = false := decide_eq_false h3
   by_cases h4 : b3 = 0
   · have hd5 : (b3 == 0) = true := by rw [h4]; rfl
     have HEND : Hid (c = (-1, 0)) := by show c = _; rw [← HC.out]; simp [checkD, hm, hkn, h1, h2, h3, h4]
     clear HC
     go_wp2
     go_ret2
     exact gives_pair HEND.out HB0.out
   have hd5 : (b3 == 0) = false := beq_false_of_ne h4
   have HEND : Hid (c = (-1, 15)) := by show c = _; rw [← HC.out]; simp [checkD, hm, hkn, h1, h2, h3, h4]
   clear HC
   go_wp2
   go_ret2
   exact gives_pair HEND.out HB0.out
 have hd3 : decide (ep < b2) = false := decide_eq_false h2
 have heq : b2 = ep := by omega
 obtain ⟨r, hr⟩ : ∃ r, dupL last b3 rn = r := ⟨_, rfl⟩
 have HRR : Hid ((if b2 = ep ∧ b5 = 0 then dupL last b3 rn else none) = r) := by show _ = _; rw [if_pos ⟨heq, hm⟩]; exact hr
 have HCC : Hid (c = dupC r last op b3 b4) := by
  show c = _
  rw [← HC.out, ← hr, ← HRL.out]
  simp [checkD, hm, hkn, h1, h2, dupC]
  cases dupL last b3 recs.length <;> rfl
 clear HC hr heq h1 h2 hm
 go_wp2_with fail
 refine (refDup_any W0 id ep op last ad n cap HL0.out hn b0 b1 b2 b3 b4 b5 rd rn rc hrn r HRR.out).mono ?_
 rintro e w1 ⟨rfl, hb1⟩
 have HB1 := qh hb1
 have HP1 := qh (HP0.out.on hb1)
 have HX1 := qh (HX0.out.on hb1)
 have HL1 := qh (HL0.out.keep hb1)
 have HBB := qh (HB0.out.trans (hb1.mono HB0.out.size))
 clear hb1 HRR q0 q1 q2 q3 p0 p1 p2 p3 p4 p5 p6
 cases r with
 | some v =>
   have HEND : Hid (c = (v, 0)) := HCC.out
   clear HCC
   simp only [Option.getD_some, Option.isSome_some]
   go_wp2
   go_ret2
   exact gives_pair HEND.out HBB.out
 | none =>
   simp only [Option.getD_none, Option.isSome_none]
   have HCD : Hid (c = (if last ≠ [] ∧ followsB (lastSeq last) b3 = false then (-1, 15) else if 0 ≤ op ∧ b4 = false then (-1, 16) else (-1, 0))) := HCC.out
   clear HCC
   have q0 := HP1.out.c0
   have q1 := HP1.out.c1
   have q2 := HP1.out.c2
   have q3 := HP1.out.c3
   obtain ⟨p0, p1, p2, p3, p4, p5, p6⟩ := HX1.out.cs
   by_cases h0 : n = 0
   · subst h0
     have hln := HL1.out.length
     have HCE : Hid (c = (if 0 ≤ op ∧ b4 = false then (-1, 16) else (-1, 0))) := by
      show c = _
      rw [HCD.out, if_neg (fun h => h.1 (List.eq_nil_of_length_eq_zero hln))]
     clear hln HCD
     go_upto_region 23 with fail
     have hb1d : Below w1.heap.size w1 w1.drew := (Below.refl _ w1).drew
     refine wp_region_noPanic ?_
     refine wp_region_z [] (fun (W : World) => True) (by kernel_rfl) ?_
     have hHeld : (fun (W : World) => True) w1.drew := trivial
     obtain ⟨u0, hu0⟩ := exq w1.drew
     rw [← hu0] at hb1d
     rw [← hu0]
     clear hu0
     have HU := qh hb1d
     clear hb1d
     refine zt 0 ?_
     refine zt 1 ?_
     refine zt 2 ?_
     refine zt 3 ?_
     refine zt 4 ?_
     refine zt 5 ?_
     refine zt 6 ?_
     refine zt 7 ?_
     refine zt 8 ?_
     refine zt 9 ?_
     refine zt 10 ?_
     refine zt 11 ?_
     refine zt 12 ?_
     refine zt 13 ?_
     refine zt 14 ?_
     refine zd ?_
     clear hHeld
     have hP := HP1.out.on HU.out
     have hX := HX1.out.on HU.out
     have HBU := qh (HBB.out.trans (HU.out.mono HBB.out.size))
     clear q0 q1 q2 q3 p0 p1 p2 p3 p4 p5 p6
     have q3 := hP.c3
     have p4 := hX.c4
     clear hP hX
     by_cases h3 : 0 ≤ op
     rotate_left
     · have hd4 : decide (0 ≤ op) = false := decide_eq_false h3
       have HEND : Hid (c = (-1, 0)) := by show c = _; rw [HCE.out, if_neg (fun h => h3 h.1)]
       clear HCE
       go_wp2
       go_ret2
       exact gives_pair HEND.out HBU.out
     have hd4 : decide (0 ≤ op) = true := decide_eq_true h3
     cases hb4 : b4
     · have HEND : Hid (c = (-1, 16)) := by show c = _; rw [HCE.out, if_pos ⟨h3, hb4⟩]
       clear HCE
       rw [hb4] at p4
       go_wp2
       go_ret2
       exact gives_pair HEND.out HBU.out
     have HEND : Hid (c = (-1, 0)) := by show c = _; rw [HCE.out, if_neg (fun h => by rw [hb4] at h; cases h.2)]
     clear HCE
     rw [hb4] at p4
     go_wp2
     go_ret2
     exact gives_pair HEND.out HBU.out
   obtain ⟨bk, off, x, rfl, hbk, hx, c0, c1, c2⟩ := tr_get HL1.out (i := n - 1) (by omega)
   have hlast : lastSeq last = x.l := by
    have hln := HL1.out.length
    unfold lastSeq
    rw [List.getLast?_eq_getElem?, hln, hx]
   have hne : last ≠ [] := fun h => by rw [h] at hx; cases hx
   obtain ⟨fo, hfo⟩ : ∃ fo, followsB x.l b3 = fo := ⟨_, rfl⟩
   have HFO := qh hfo
   have HCF : Hid (c = (if fo = false then (-1, 15) else if 0 ≤ op ∧ b4 = false then (-1, 16) else (-1, 0))) := by
    show c = _
    rw [HCD.out, hlast, hfo]
    simp [hne]
   clear HCD hlast hne hfo hx hbk
   have hn0 : decide ((0 : Int) < (n : Int)) = true := decide_eq_true (by omega)
   have hn00 : decide (0 < n) = true := decide_eq_true (by omega)
   have hnp : 0 < n := by omega
   have hi1 : (1 : Int) ≤ (n : Int) := by omega
   have hi2 : (n : Int) - 1 < (n : Int) := by omega
   have hi3 : ((n : Int) - 1).toNat = n - 1 := by omega
   have hi4 : IntKind.i64.wrap ((n : Int) - 1) = (n : Int) - 1 := IntWalk.i64_in _ (by omega)
   have KS : Hid (∀ W, Below w1.heap.size w1 W → (fun (W : World) => W.cell? ⟨B1, 0, none⟩ = some (.int .i64 id) ∧ W.cell? ⟨B1, 1, none⟩ = some (.int .i64 ep) ∧ W.cell? ⟨B1, 2, none⟩ = some (.slice (some ⟨bk, off, none⟩) n cap) ∧ W.cell? ⟨B1, 3, none⟩ = some (.int .i64 op) ∧ W.cell? ⟨B2, 0, none⟩ = some (.int .i64 b0) ∧ W.cell? ⟨B2, 1, none⟩ = some (.int .i64 b1) ∧ W.cell? ⟨B2, 2, none⟩ = some (.int .i64 b2) ∧ W.cell? ⟨B2, 3, none⟩ = some (.int .i64 b3) ∧ W.cell? ⟨B2, 4, none⟩ = some (.bool b4) ∧ W.cell? ⟨B2, 5, none⟩ = some (.int .i64 b5) ∧ W.cell? ⟨B2, 6, none⟩ = some (.slice rd rn rc) ∧ W.cell? ⟨bk, off + (n - 1) * 3 + 1, none⟩ = some (.int .i64 x.l)) W) := by
    intro W hW
    have hP := HP1.out.on hW
    have hX := HX1.out.on hW
    obtain ⟨bk', off', x', e', _, hx', _, c1', _⟩ := tr_get (HL1.out.keep hW) (i := n - 1) (by omega)
    cases e'
    refine ⟨hP.c0, hP.c1, hP.c2, hP.c3, hX.c0, hX.c1, hX.c2, hX.c3, hX.c4, hX.c5, hX.c6, ?_⟩
    rw [hW.cell (p := ⟨bk, off + (n - 1) * 3 + 1, none⟩) (World.block_lt_of_cell? _ _ c1)]
    exact c1
   have hb1d : Below w1.heap.size w1 w1.drew := (Below.refl _ w1).drew
   go_upto_region 23 with fail
   refine wp_region_noPanic ?_
   refine zk [] KS ?_
   have hHeld := KS.out _ hb1d
   obtain ⟨u0, hu0⟩ := exq w1.drew
   rw [← hu0] at hHeld hb1d
   rw [← hu0]
   clear hu0
   have HU := qh hb1d
   clear hb1d
   refine zt 0 ?_
   refine zt 1 ?_
   refine zt 2 ?_
   refine zt 3 ?_
   refine zt 4 ?_
   refine zt 5 ?_
   refine zt 6 ?_
   refine zt 7 ?_
   refine zt 8 ?_
   refine zt 9 ?_
   refine zt 10 ?_
   refine zt 11 ?_
   refine zr 12 (fun C hC => ?_)
   go_simp
   refine (refFollows_any x.l b3 u0 fo HFO.out).mono ?_
   rintro e u1 ⟨rfl, rfl⟩
   go_wp2_with fail
   have hHeld := hq KS _ (hHeld)
   refine zc hC hHeld ?_
   clear hC C
   refine zt 13 ?_
   refine zt 14 ?_
   refine zd ?_
   clear hHeld
   have hP := HP1.out.on HU.out
   have hX := HX1.out.on HU.out
   have HBU := qh (HBB.out.trans (HU.out.mono HBB.out.size))
   have q3 := hP.c3
   have p4 := hX.c4
   clear hP hX KS c0 c1 c2
   cases fo with
   | false =>
     have HEND : Hid (c = (-1, 15)) := HCF.out
     clear HCF
     go_wp2
     go_ret2
     exact gives_pair HEND.out HBU.out
   | true =>
     have HCE : Hid (c = (if 0 ≤ op ∧ b4 = false then (-1, 16) else (-1, 0))) := HCF.out
     clear HCF
     by_cases h3 : 0 ≤ op
     rotate_left
     · have hd4 : decide (0 ≤ op) = false := decide_eq_false h3
       have HEND : Hid (c = (-1, 0)) := by show c = _; rw [HCE.out, if_neg (fun h => h3 h.1)]
       clear HCE
       go_wp2
       go_ret2
       exact gives_pair HEND.out HBU.out
     have hd4 : decide (0 ≤ op) = true := decide_eq_true h3
     cases hb4 : b4
     · have HEND : Hid (c = (-1, 16)) := by show c = _; rw [HCE.out, if_pos ⟨h3, hb4⟩]
       clear HCE
       rw [hb4] at p4
       go_wp2
       go_ret2
       exact gives_pair HEND.out HBU.out
     have HEND : Hid (c = (-1, 0)) := by show c = _; rw [HCE.out, if_neg (fun h => by rw [hb4] at h; cases h.2)]
     clear HCE
     rw [hb4] at p4
     go_wp2
     go_ret2
     exact gives_pair HEND.out HBU.out
section
variable {α : Type} {K : Kind α} {bytes : Nat} {w w' : World}
theorem add_block (a : Addr) (n : Nat) : (a.add n).block = a.block := by
 unfold Addr.add
 split <;> rfl
theorem Kind.Ok.elem (hK : K.Ok bytes) : Tryz.prog.elem K.sl = K.ty := by unfold Program.elem; rw [hK.und]
theorem Kind.Ok.sizeOf (hK : K.Ok bytes) (W : World) : (sizeOf (Tryz.prog.elem K.sl)).run Tryz.prog W = .ok K.size W := by
 obtain ⟨i, z, hi, _, hs, _, _⟩ := hK.info
 rw [hK.elem]
 simp [Go.sizeOf, typeInfo, hi, hs]
theorem row_upto (hK : K.Ok bytes) (ad : Option Addr) (len cap h : Nat) (hc : h ≤ cap) (W : World) :
 (Instr.slice K.sl (.slice ad len cap) none (some (.int .i64 (h : Int))) none).run Tryz.prog W = .ok (.slice ad h cap) W := by
 rw [run_slice_h _ _ _ _ _ (by rw [hK.elem]; exact hK.und) _ _ (by omega) (by omega), hK.sizeOf]
 simp only [Result.andThen, sliced, Int.toNat_natCast]
 rcases ad with _ | a
 · simp
 simp [Addr.add]
theorem RowAt.take {ad : Option Addr} {len cap : Nat} {l : List α} (h : RowAt K w ad len cap l) (k : Nat) (hk : k ≤ len) : RowAt K w ad k cap (l.take k) := by
 have hl := h.length
 have hf := h.fits
 refine ⟨by rw [List.length_take]; omega, by omega, h.room, ?_⟩
 rcases h.cells with h0 | ⟨b, off, e, hlt, hc⟩
 · exact .inl (by omega)
 refine .inr ⟨b, off, e, hlt, fun i x hi j u hj => hc i x ?_ j u hj⟩
 rw [List.getElem?_take] at hi
 split at hi
 · exact hi
 cases hi
theorem row_from (hK : K.Ok bytes) {ad : Option Addr} {len cap : Nat} {l : List α} (h : RowAt K w ad len cap l) (k : Nat) (hk : k ≤ len) :
 ∃ ad' cap', (∀ W, (Instr.slice K.sl (.slice ad len cap) (some (.int .i64 (k : Int))) none none).run Tryz.prog W = .ok (.slice ad' (len - k) cap') W) ∧ RowAt K w ad' (len - k) cap' (l.drop k) ∧ (∀ a, ad' = some a → ∃ a0, ad = some a0 ∧ a.block = a0.block) := by
 have hl := h.length
 have hf := h.fits
 rcases ad with _ | ⟨b, off, x⟩
 · have hc := h.room rfl
   have hk0 : k = 0 := by omega
   have hl0 : len = 0 := by omega
   subst hk0 hl0 hc
   refine ⟨none, 0, fun W => ?_, ?_, fun a ha => by cases ha⟩
   · rw [run_slice_l _ _ _ _ _ (by rw [hK.elem]; exact hK.und) _ _ (by omega) (by omega), hK.sizeOf]
     simp [Result.andThen, sliced]
   obtain rfl := List.eq_nil_of_length_eq_zero hl
   exact rowAt_nil w
 refine ⟨some ((⟨b, off, x⟩ : Addr).add (if cap = k then 0 else k * K.size)), cap - k, fun W => ?_, ?_, fun a ha => ⟨_, rfl, by cases ha; exact add_block _ _⟩⟩
 · rw [run_slice_l _ _ _ _ _ (by rw [hK.elem]; exact hK.und) _ _ (by omega) (by omega), hK.sizeOf]
   simp only [Result.andThen, sliced, Int.toNat_natCast]
   by_cases h1 : cap = k
   · simp [h1, Addr.add]
   simp [h1]
 refine ⟨by rw [List.length_drop]; omega, by omega, (fun e => by cases e), ?_⟩
 by_cases h0 : len - k = 0
 · exact .inl h0
 rcases h.cells with h1 | ⟨b', off', e, hlt, hc⟩
 · omega
 cases e
 rw [if_neg (by omega), add_at]
 refine .inr ⟨b, off + k * K.size, rfl, hlt, fun i x hi j u hj => ?_⟩
 rw [List.getElem?_drop] at hi
 have := hc (k + i) x hi j u hj
 rw [Nat.add_mul] at this
 rw [show off + k * K.size + (i * K.size + j) = off + (k * K.size + i * K.size + j) by omega]
 exact this
theorem grow_one (w : World) (k j : Nat) (u : Value) : w.grownBy (w.setCell ⟨k, j, none⟩ u) (some k) := grow_set (grow_refl w (some k)) j u
theorem OwnRow.off {base k : Nat} {v : Value} {l : List α} (h : OwnRow K w base v l) (hk : k < base) (j : Nat) (u : Value) : OwnRow K (w.setCell ⟨k, j, none⟩ u) base v l :=
 h.grown (grow_one w k j u) fun q hq e => by have := (h.lt q hq).1; cases e; omega
theorem RowAt.off {ad : Option Addr} {len cap k : Nat} {l : List α} (h : RowAt K w ad len cap l) (hk : ∀ a, ad = some a → a.block ≠ k) (j : Nat) (u : Value) : RowAt K (w.setCell ⟨k, j, none⟩ u) ad len cap l :=
 h.grown (grow_one w k j u) fun a ha e => hk a ha (by cases e; rfl)
theorem RowAt.lt {ad : Option Addr} {len cap : Nat} {l : List α} (h : RowAt K w ad len cap l) (h0 : 0 < len) : ∀ a, ad = some a → a.block < w.heap.size := by
 intro a ha
 rcases h.cells with h1 | ⟨b, off, e, hlt, _⟩
 · omega
 rw [ha] at e; cases e; exact hlt
theorem OwnRow.row (hK : K.Ok bytes) {base n : Nat} {v : Value} {l : List α} (h : OwnRow K w base v l) (hn : l.length = n) : ∃ ad cap, v = .slice ad n cap ∧ RowAt K w ad n cap l ∧ (∀ a, ad = some a → base ≤ a.block ∧ a.block < w.heap.size) := by
 subst hn
 exact h.at hK
theorem appended_below {base B : Nat} {v v' : Value} {l m : List α} (hap : Appended K w base v l v' w') (ho : OwnRow K w base v m) {w0 : World} (hb : Below B w0 w) (hB : B ≤ base) (hs : B ≤ w.heap.size) : Below B w0 w' := by
 refine hb.grown hap.2.1 hs fun k hk => ?_
 have := (ho.lt k hk).1
 omega
end
structure AS (w : World) (po xo : Obj) (b1 b2 : Int) (v : Value) (o : Int) (W : World) : Prop where
 pb : W.heap[w.heap.size]? = some po
 xb : W.heap[w.heap.size + 1]? = some xo
 rb : PBox W (w.heap.size + 2) 0 0 (.slice none 0 0) 0
 ob : PBox W (w.heap.size + 3) b1 b2 v o
 bel : Below w.heap.size w W
section
variable {w W W' : World} {po xo : Obj} {b1 b2 o : Int} {v : Value}
theorem AS.s2 (h : AS w po xo b1 b2 v o W) (u : Value) : AS w po xo b1 b2 u o (W.setCell ⟨w.heap.size + 3, 2, none⟩ u) := ⟨box_off h.pb (by omega) _, box_off h.xb (by omega) _, h.rb.off (by omega) _, h.ob.s2 u, h.bel.setCell (Nat.le_add_right _ _) _⟩
theorem AS.s3 (h : AS w po xo b1 b2 v o W) (n : Int) : AS w po xo b1 b2 v n (W.setCell ⟨w.heap.size + 3, 3, none⟩ (.int .i64 n)) := ⟨box_off h.pb (by omega) _, box_off h.xb (by omega) _, h.rb.off (by omega) _, h.ob.s3 n, h.bel.setCell (Nat.le_add_right _ _) _⟩
theorem AS.on (h : AS w po xo b1 b2 v o W) (hb : Below W.heap.size W W') : AS w po xo b1 b2 v o W' := by
 have h1 := lt_of_block h.pb
 have h2 := lt_of_block h.xb
 exact ⟨by rw [hb.block _ h1]; exact h.pb, by rw [hb.block _ h2]; exact h.xb, h.rb.on hb, h.ob.on hb, h.bel.trans (hb.mono h.bel.size)⟩
theorem AS.grown (h : AS w po xo b1 b2 v o W) {r : Option Nat} (hg : W.grownBy W' r) (hr : ∀ k, r = some k → w.heap.size + 4 ≤ k) : AS w po xo b1 b2 v o W' := by
 have h1 := lt_of_block h.pb
 have h2 := lt_of_block h.xb
 refine ⟨by rw [hg.block _ h1 (fun e => by have := hr _ e.symm; omega)]; exact h.pb, by rw [hg.block _ h2 (fun e => by have := hr _ e.symm; omega)]; exact h.xb, h.rb.grown hg (fun e => by have := hr _ e; omega), h.ob.grown hg (fun e => by have := hr _ e; omega), h.bel.grown hg h.bel.size fun k hk => by have := hr k hk; omega⟩
theorem AS.lt (h : AS w po xo b1 b2 v o W) : w.heap.size + 4 ≤ W.heap.size := h.ob.lt
end
def GivesApply (w : World) (p : Pd) (e : Ending) (w' : World) : Prop :=
 ∃ ad n cap, e = .returned (.agg #[.int .i64 p.id, .int .i64 p.epoch, .slice ad n cap, .int .i64 p.opn]) ∧ RowAt trK w' ad n cap p.last ∧ (∀ a, ad = some a → w.heap.size ≤ a.block ∧ a.block < w'.heap.size) ∧ Below w.heap.size w w'
theorem resultsApply {tmps : Array Value} {B : Nat} {W : World} {b0 b1 b3 : Int} {v : Value} (h : PBox W B b0 b1 v b3) (ht : tmps.getD 6 undef = .pointer (some ⟨B, 0, none⟩)) :
 (results Tryz.f122 tmps).run Tryz.prog W = .ok (.agg #[.int .i64 b0, .int .i64 b1, v, .int .i64 b3]) W := by
 rw [results_cell_one (p := 6) (ty := 58) Tryz.results122, ht]
 have hl := run_loadVar_row (P := Tryz.prog) W B 58 58 _ (0, 0) _ h Tryz.underlying58 rfl (by kernel_rfl)
 simp only [asAddr, Sem.run_pure, Result.andThen, hl]
theorem gives_apply {w W : World} {po xo : Obj} {b1 b2 o : Int} {v : Value} {p : Pd} {ad : Option Addr} {n cap : Nat} {l : List Tr} {u0 u1 u2 u3 : Value} (h : AS w po xo b1 b2 v o W) (hp : p = ⟨b1, b2, l, o⟩) (hr : RowAt trK W ad n cap l) (hk : ∀ a, ad = some a → w.heap.size + 4 ≤ a.block ∧ a.block < W.heap.size) :
 GivesApply w p (.returned (.agg #[.int .i64 b1, .int .i64 b2, .slice ad n cap, .int .i64 o])) ((((W.setCell ⟨w.heap.size + 2, 0, none⟩ u0).setCell ⟨w.heap.size + 2, 1, none⟩ u1).setCell ⟨w.heap.size + 2, 2, none⟩ u2).setCell ⟨w.heap.size + 2, 3, none⟩ u3) := by
 subst hp
 have hk2 : ∀ a, ad = some a → a.block ≠ w.heap.size + 2 := fun a ha => by have := (hk a ha).1; omega
 refine ⟨ad, n, cap, rfl, (((hr.off hk2 _ _).off hk2 _ _).off hk2 _ _).off hk2 _ _, (fun a ha => ⟨by have := (hk a ha).1; omega, by rw [size_set, size_set, size_set, size_set]; exact (hk a ha).2⟩), ?_⟩
 exact (((h.bel.setCell (Nat.le_add_right _ _) _).setCell (Nat.le_add_right _ _) _).setCell (Nat.le_add_right _ _) _).setCell (Nat.le_add_right _ _) _
theorem refApply_any (w : World) (id ep op : Int) (last : List Tr) (ad : Option Addr) (n cap : Nat) (hl : RowAt trK w ad n cap last) (hn : n ≤ 1000000) (known : Bool) (b0 b1 b2 b3 : Int) (b4 : Bool) (b5 : Int) (recs : List Rc) (rd : Option Addr) (rn rc : Nat) (hrl : recs.length = rn) (hrn : rn ≤ 140737488355328) (p : Pd) (hp : applyD ⟨id, ep, last, op⟩ known ⟨b0, b1, b2, b3, b4, b5, recs⟩ = p) :
 Calls Tryz.prog 122 #[.agg #[.int .i64 id, .int .i64 ep, .slice ad n cap, .int .i64 op], .bool known, .agg #[.int .i64 b0, .int .i64 b1, .int .i64 b2, .int .i64 b3, .bool b4, .int .i64 b5, .slice rd rn rc]] w (GivesApply w p) := by
 obtain ⟨po, hpo⟩ : ∃ po : Obj, po = (.cells #[.int .i64 id, .int .i64 ep, .slice ad n cap, .int .i64 op] 58 (0, 0)) := ⟨_, rfl⟩
 obtain ⟨xo, hxo⟩ : ∃ xo : Obj, xo = (.cells #[.int .i64 b0, .int .i64 b1, .int .i64 b2, .int .i64 b3, .bool b4, .int .i64 b5, .slice rd rn rc] 29 (0, 0)) := ⟨_, rfl⟩
 obtain ⟨W0, hW0⟩ : ∃ W0, W0 = ((((w.alloc (.cells #[.int .i64 id, .int .i64 ep, .slice ad n cap, .int .i64 op] 58)).alloc (.cells #[.int .i64 b0, .int .i64 b1, .int .i64 b2, .int .i64 b3, .bool b4, .int .i64 b5, .slice rd rn rc] 29)).alloc (.cells #[.int .i64 0, .int .i64 0, .slice none 0 0, .int .i64 0] 58)).alloc (.cells #[.int .i64 b1, .int .i64 b2, .slice none 0 0, .int .i64 (-1)] 58)) := ⟨_, rfl⟩
 have HA0 : Hid (AS w po xo b1 b2 (.slice none 0 0) (-1) W0) := by
  show AS _ _ _ _ _ _ _ _
  rw [hW0, hpo, hxo]
  have e2 := Below.refl w.heap.size w
  refine ⟨?_, ?_, ?_, ?_, (((e2.alloc (Nat.le_refl _) _).alloc (by simp) _).alloc (by simp <;> omega) _).alloc (by simp <;> omega) _⟩
  · rw [heap_alloc_old _ _ (by simp <;> omega), heap_alloc_old _ _ (by simp <;> omega), heap_alloc_old _ _ (by simp)]
    (try exact heap_alloc_new w _)
  · rw [heap_alloc_old _ _ (by simp <;> omega), heap_alloc_old _ _ (by simp)]
    have := heap_alloc_new (w.alloc (.cells #[.int .i64 id, .int .i64 ep, .slice ad n cap, .int .i64 op] 58)) (.cells #[.int .i64 b0, .int .i64 b1, .int .i64 b2, .int .i64 b3, .bool b4, .int .i64 b5, .slice rd rn rc] 29)
    simpa using this
  · show (_ : World).heap[_]? = _
    rw [heap_alloc_old _ _ (by simp)]
    have := heap_alloc_new ((w.alloc (.cells #[.int .i64 id, .int .i64 ep, .slice ad n cap, .int .i64 op] 58)).alloc (.cells #[.int .i64 b0, .int .i64 b1, .int .i64 b2, .int .i64 b3, .bool b4, .int .i64 b5, .slice rd rn rc] 29)) (.cells #[.int .i64 0, .int .i64 0, .slice none 0 0, .int .i64 0] 58)
    simpa using this
  have := pbox_new (((w.alloc (.cells #[.int .i64 id, .int .i64 ep, .slice ad n cap, .int .i64 op] 58)).alloc (.cells #[.int .i64 b0, .int .i64 b1, .int .i64 b2, .int .i64 b3, .bool b4, .int .i64 b5, .slice rd rn rc] 29)).alloc (.cells #[.int .i64 0, .int .i64 0, .slice none 0 0, .int .i64 0] 58)) b1 b2 (.slice none 0 0) (-1)
  simpa using this
 have HL0 := qh hl
 have HPP : Hid (applyD ⟨id, ep, last, op⟩ known ⟨b0, b1, b2, b3, b4, b5, recs⟩ = p) := hp
 have HRL := qh hrl
 have hpb : PBox W0 w.heap.size id ep (.slice ad n cap) op := by have := HA0.out.pb; rw [hpo] at this; exact this
 have hxb : BoxAt W0 (w.heap.size + 1) b0 b1 b2 b3 b4 b5 (.slice rd rn rc) := by have := HA0.out.xb; rw [hxo] at this; exact this
 have HXO := qh hxo
 have HPB := qh hpb
 have HXB := qh hxb
 clear hl hp hrl hpo hxo hpb hxb
 go_enter Tryz.func122, Tryz.ntmps122
 go_upto_if 13 with (fail)
 rw [← hW0]
 clear hW0
 obtain ⟨l0, hl0⟩ := exq (oldLast ⟨id, ep, last, op⟩ known ⟨b0, b1, b2, b3, b4, b5, recs⟩)
 obtain ⟨o0, ho0⟩ := exq (oldOpen ⟨id, ep, last, op⟩ known)
 go_cut [] from 8 (fun wx => ∃ v, AS w po xo b1 b2 v o0 wx ∧ OwnRow trK wx (w.heap.size + 4) v l0)
 case first =>
  have q1 := HPB.out.c1
  have q2 := HPB.out.c2
  have q3 := HPB.out.c3
  have p2 := HXB.out.c2
  have o2 := HA0.out.ob.c2
  have o3 := HA0.out.ob.c3
  have f2 := HA0.out.ob.free 2
  have f3 := HA0.out.ob.free 3
  cases known
  · have e1 : l0 = [] := by rw [hl0]; simp [oldLast]
    have e2 : o0 = -1 := by rw [ho0]; simp [oldOpen]
    clear hl0 ho0
    go_wp2
    go_meet
    case rel => exact ⟨_, by rw [e2]; exact HA0.out, by rw [e1]; exact ownRow_nil _ _ _⟩
  have e2 : o0 = op := by rw [ho0]; simp [oldOpen]
  by_cases hee : ep = b2
  rotate_left
  · have hd : (ep == b2) = false := beq_false_of_ne hee
    have e1 : l0 = [] := by rw [hl0]; simp [oldLast, hee]
    clear hl0 ho0 hee
    go_wp2
    go_meet
    case rel => exact ⟨_, by rw [e2]; exact HA0.out.s3 op, by rw [e1]; exact ownRow_nil _ _ _⟩
  have hd : (ep == b2) = true := by rw [hee]; simp
  have e1 : l0 = last := by rw [hl0]; simp [oldLast, hee]
  have HE1 := qh e1
  have HE2 := qh e2
  clear hl0 ho0 hee e1 e2
  go_upto_region 5 with fail
  obtain ⟨W1, hW1⟩ := exq (W0.setCell ⟨w.heap.size + 3, 3, none⟩ (.int .i64 op))
  have HA1 : Hid (AS w po xo b1 b2 (.slice none 0 0) op W1) := by rw [hW1]; exact HA0.out.s3 op
  have HPB1 : Hid (PBox W1 w.heap.size id ep (.slice ad n cap) op) := by rw [hW1]; exact HPB.out.off (by omega) _
  rw [← hW1]
  clear hW1 q1 q2 q3 o2 o3 f2 f3
  have q2 := (HPB1.out.on (bal _ (.cells #[] 59))).c2
  have HAE : Hid (AS w po xo b1 b2 (.slice none 0 0) op (W1.alloc (.cells #[] 59))) := HA1.out.on (bal _ _)
  have HL1 := qh (HL0.out.keep HAE.out.bel)
  have HVE : Hid (OwnRow trK (W1.alloc (.cells #[] 59)) (w.heap.size + 4) (.slice (some ⟨W1.heap.size, 0, none⟩) 0 0) []) := ownRow_lit trK_ok W1 _ [] HA1.out.lt (by simp) _ rfl 0 rfl
  go_wp2_with (at_builtin; refine list_row (by rfl) trK_ok (.tmp 22) (.tmp 24) rfl (w.heap.size + 4) [] last _ rfl HVE.out HAE.out.lt ad n cap rfl HL1.out (by rw [List.length_nil]; omega) ?_)
  intro v2 w2 hap
  obtain ⟨ad2, cap2, hv2, _, _⟩ := OwnRow.row trK_ok (l := last) (n := n) hap.1 HL0.out.length
  subst hv2
  have HO2 : Hid (OwnRow trK w2 (w.heap.size + 4) (.slice ad2 n cap2) last) := hap.1
  have HA2 : Hid (AS w po xo b1 b2 (.slice none 0 0) op w2) := HAE.out.grown hap.2.1 fun k hk => (HVE.out.lt k hk).1
  clear hap HVE
  have o2 := HA2.out.ob.c2
  have f2 := HA2.out.ob.free 2
  go_wp2
  go_meet
  case rel => exact ⟨_, by rw [HE2.out]; exact HA2.out.s2 (.slice ad2 n cap2), by rw [HE1.out]; exact HO2.out.off (by omega) _ _⟩
 case rest =>
  obtain ⟨v, ha, ho⟩ := hcut
  have HA := qh ha
  have HO := qh ho
  have hxb : BoxAt wc (w.heap.size + 1) b0 b1 b2 b3 b4 b5 (.slice rd rn rc) := by have := ha.xb; rw [HXO.out] at this; exact this
  have HXC := qh hxb
  clear hxb HPB HXB HA0
  have hn0 : l0.length ≤ 1000000 := by
   have hll := HL0.out.length
   rw [hl0]
   unfold oldLast
   split
   · show last.length ≤ _; omega
   exact Nat.zero_le _
  have HPE1 : Hid (b5 ≠ 0 → p = ⟨b1, b2, l0, -1⟩) := by
   intro hm
   rw [← HPP.out, hl0]
   simp [applyD, hm]
  have HPE2 : Hid (b5 = 0 → ∀ oz, oz = (if b4 = true ∧ o0 < 0 then b0 else o0) → p = ⟨b1, b2, newLast l0 ⟨b3, lastI b3 rn, b0⟩, oz⟩) := by
   intro hm oz hoz
   rw [hoz, ← HPP.out, hl0, ho0, ← HRL.out]
   simp [applyD, hm]
  clear hl0 ho0 HPP HRL HL0 ha ho
  obtain ⟨n0, hln0⟩ : ∃ n0, l0.length = n0 := ⟨_, rfl⟩
  rw [hln0] at hn0
  obtain ⟨ad0, cap0, hv0, hr0, hk0⟩ := OwnRow.row trK_ok HO.out hln0
  subst hv0
  have HLN := qh hln0
  have HR0 := qh hr0
  have HK0 : Hid (∀ a, ad0 = some a → w.heap.size + 4 ≤ a.block ∧ a.block < wc.heap.size) := fun a ha => hk0 a ha
  clear hln0 hr0 hk0
  have p5 := HXC.out.c5
  by_cases hm : b5 = 0
  rotate_left
  · have hd : (b5 == 0) = false := beq_false_of_ne hm
    have HPE := qh (HPE1.out hm)
    clear HPE1 HPE2 hm
    have oc0 := HA.out.ob.c0
    have g0 := HA.out.ob.free 0
    have r0 := HA.out.rb.c0
    have f0 := HA.out.rb.free 0
    have oc1 := HA.out.ob.c1
    have g1 := HA.out.ob.free 1
    have r1 := HA.out.rb.c1
    have f1 := HA.out.rb.free 1
    have oc2 := HA.out.ob.c2
    have g2 := HA.out.ob.free 2
    have r2 := HA.out.rb.c2
    have f2 := HA.out.rb.free 2
    have oc3 := HA.out.ob.c3
    have g3 := HA.out.ob.free 3
    have r3 := HA.out.rb.c3
    have f3 := HA.out.rb.free 3
    go_wp2
    exact bodyPost_ret (resultsApply (((((HA.out.s3 (-1)).rb.s0 b1).s1 b2).s2 (.slice ad0 n0 cap0)).s3 (-1)) rfl) rfl (gives_apply (HA.out.s3 (-1)) HPE.out (HR0.out.off (fun a ha => by have := (HK0.out a ha).1; omega) _ _) (fun a ha => by rw [size_set]; exact HK0.out a ha))
  have hd : (b5 == 0) = true := by rw [hm]; rfl
  have HPE : Hid (∀ oz, oz = (if b4 = true ∧ o0 < 0 then b0 else o0) → p = ⟨b1, b2, newLast l0 ⟨b3, lastI b3 rn, b0⟩, oz⟩) := HPE2.out hm
  obtain ⟨lv, hlv⟩ : ∃ lv, lastI b3 rn = lv := ⟨_, rfl⟩
  rw [hlv] at HPE
  have HLV := qh hlv
  clear HPE1 HPE2 hm hlv
  go_upto_region 9 with fail
  clear p5
  have KS : Hid (∀ W, AS w po xo b1 b2 (.slice ad0 n0 cap0) o0 W → (fun (W : World) => W.cell? ⟨(w.heap.size + 1), 0, none⟩ = some (.int .i64 b0) ∧ W.cell? ⟨(w.heap.size + 1), 1, none⟩ = some (.int .i64 b1) ∧ W.cell? ⟨(w.heap.size + 1), 2, none⟩ = some (.int .i64 b2) ∧ W.cell? ⟨(w.heap.size + 1), 3, none⟩ = some (.int .i64 b3) ∧ W.cell? ⟨(w.heap.size + 1), 4, none⟩ = some (.bool b4) ∧ W.cell? ⟨(w.heap.size + 1), 5, none⟩ = some (.int .i64 b5) ∧ W.cell? ⟨(w.heap.size + 1), 6, none⟩ = some (.slice rd rn rc) ∧ W.cell? ⟨(w.heap.size + 3), 0, none⟩ = some (.int .i64 b1) ∧ W.cell? ⟨(w.heap.size + 3), 1, none⟩ = some (.int .i64 b2) ∧ W.cell? ⟨(w.heap.size + 3), 2, none⟩ = some (.slice ad0 n0 cap0) ∧ W.cell? ⟨(w.heap.size + 3), 3, none⟩ = some (.int .i64 o0) ∧ W.frozen? ⟨w.heap.size + 3, 2, none⟩ = false) W) := by
   intro W hW
   have hX : BoxAt W (w.heap.size + 1) b0 b1 b2 b3 b4 b5 (.slice rd rn rc) := by have := hW.xb; rw [HXO.out] at this; exact this
   exact ⟨hX.c0, hX.c1, hX.c2, hX.c3, hX.c4, hX.c5, hX.c6, hW.ob.c0, hW.ob.c1, hW.ob.c2, hW.ob.c3, hW.ob.free 2⟩
  have hdr : Below wc.heap.size wc wc.drew := (Below.refl _ wc).drew
  have HAd := qh (HA.out.on hdr)
  have HOd := qh (HO.out.on hdr)
  refine wp_region_noPanic ?_
  refine zk [16] KS ?_
  have hHeld := KS.out _ HAd.out
  obtain ⟨u0, hu0⟩ := exq wc.drew
  rw [← hu0] at hHeld HAd HOd
  rw [← hu0]
  clear hu0
  refine zt 0 ?_
  refine zt 1 ?_
  refine zt 2 ?_
  refine zt 3 ?_
  refine zt 4 ?_
  refine zt 5 ?_
  refine zt 6 ?_
  refine zt 7 ?_
  refine zt 8 ?_
  refine zt 10 ?_
  refine zt 11 ?_
  refine zr 9 (fun C hC => ?_)
  go_simp
  refine (refLast_any b3 rn u0 lv hrn HLV.out).mono ?_
  rintro e u1 ⟨rfl, rfl⟩
  go_wp2_with fail
  have hHeld := hq KS _ (hHeld)
  refine zc hC hHeld ?_
  clear hC C
  refine zt 12 ?_
  refine zr 13 (fun C hC => ?_)
  go_simp
  obtain ⟨u1, hu1⟩ := exq (u0.alloc (.cells #[.int .i64 b3, .int .i64 lv, .int .i64 b0] 59))
  have hb1 := wbq hu1
  have HA1 := qh (HAd.out.on hb1)
  have HO1 := qh (HOd.out.on hb1)
  have HX1 : Hid (RowAt trK u1 (some ⟨u0.heap.size, 0, none⟩) 1 1 [⟨b3, lv, b0⟩]) := by rw [hu1]; exact rowAt_lit trK_ok u0 [⟨b3, lv, b0⟩] (by simp) _ rfl 1 rfl
  obtain ⟨G0, hG0⟩ := exq u0.heap.size
  rw [← hG0] at HX1
  rw [← hu1, ← hG0]
  clear hu1 hb1 hG0
  have hHeld := KS.out _ HA1.out
  refine zc hC hHeld ?_
  clear hC C
  refine zr 14 (fun C hC => ?_)
  refine held_row (by rfl) trK_ok (.tmp 33) (.tmp 45) rfl (w.heap.size + 4) l0 [⟨b3, lv, b0⟩] _ rfl HO1.out HA1.out.lt (some ⟨G0, 0, none⟩) 1 1 rfl HX1.out (by rw [HLN.out]; omega) ?_
  rintro v2 u2 hap
  obtain ⟨ad2, cap2, hv2, hr2, hk2⟩ := OwnRow.row trK_ok hap.1 (n := n0 + 1) (by rw [List.length_append, HLN.out]; rfl)
  subst hv2
  have HA2 : Hid (AS w po xo b1 b2 (.slice ad0 n0 cap0) o0 u2) := HA1.out.grown hap.2.1 fun k hk => (HO1.out.lt k hk).1
  have HR2 := qh hr2
  have HK2 : Hid (∀ a, ad2 = some a → w.heap.size + 4 ≤ a.block ∧ a.block < u2.heap.size) := fun a ha => hk2 a ha
  clear hap hr2 hk2 HO1 HA1 HX1
  have hHeld := KS.out _ HA2.out
  refine zc hC hHeld ?_
  clear hC C
  refine zt 15 ?_
  refine zr 16 (fun C hC => ?_)
  go_simp
  refine zl hC ?_
  clear hC C
  refine zd ?_
  clear hHeld
  obtain ⟨w3, hw3⟩ := exq (u2.setCell ⟨w.heap.size + 3, 2, none⟩ (.slice ad2 (n0 + 1) cap2))
  have HA3 : Hid (AS w po xo b1 b2 (.slice ad2 (n0 + 1) cap2) o0 w3) := by rw [hw3]; exact HA2.out.s2 _
  have HR3 : Hid (RowAt trK w3 ad2 (n0 + 1) cap2 (l0 ++ [⟨b3, lv, b0⟩])) := by rw [hw3]; exact HR2.out.off (fun a ha => by have := (HK2.out a ha).1; omega) _ _
  have HK3 : Hid (∀ a, ad2 = some a → w.heap.size + 4 ≤ a.block ∧ a.block < w3.heap.size) := fun a ha => by rw [hw3, size_set]; exact HK2.out a ha
  rw [show w.heap.size + 1 + 1 + 1 = w.heap.size + 3 from rfl, ← hw3]
  clear hw3 HA2 HR2 HA HAd HOd HR0 HK0 HXC HO HK2
  obtain ⟨k, hk⟩ := exq (n0 + 1 - 5)
  obtain ⟨ad4, cap4, hcut, hr4, hk4⟩ := row_from trK_ok HR3.out k (by omega)
  have hcut : ∀ W, (Instr.slice 56 (.slice ad2 (n0 + 1) cap2) (some (.int .i64 (k : Int))) none none).run Tryz.prog W = .ok (.slice ad4 (n0 + 1 - k) cap4) W := hcut
  have hmx : (if (n0 : Int) + 1 - 5 < 0 then 0 else (n0 : Int) + 1 - 5) = (k : Int) := by split <;> omega
  have HK4 : Hid (∀ a, ad4 = some a → w.heap.size + 4 ≤ a.block ∧ a.block < w3.heap.size) := fun a ha => by
   obtain ⟨a0, h0, h1⟩ := hk4 a ha
   rw [h1]; exact HK3.out a0 h0
  obtain ⟨l4, hl4⟩ : ∃ l4, l4 = (l0 ++ [(⟨b3, lv, b0⟩ : Tr)]).drop k := ⟨_, rfl⟩
  have HPF : Hid (∀ oz, oz = (if b4 = true ∧ o0 < 0 then b0 else o0) → p = ⟨b1, b2, l4, oz⟩) := by
   intro oz hoz
   rw [HPE.out oz hoz, hl4, hk]
   unfold newLast
   rw [HLN.out]
  rw [← hl4] at hr4
  have HR4 := qh hr4
  have HKK := qh hk
  clear hr4 hk4 hl4 HPE HR3 HK3 hk
  have o0_ := HA3.out.ob.c2
  have g2 := HA3.out.ob.free 2
  go_upto_region 11 with fail
  obtain ⟨n4, hn4⟩ := exq (n0 + 1 - k)
  rw [← hn4] at HR4
  rw [← hn4]
  obtain ⟨w4, hw4⟩ := exq (w3.setCell ⟨w.heap.size + 3, 2, none⟩ (.slice ad4 n4 cap4))
  have HA4 : Hid (AS w po xo b1 b2 (.slice ad4 n4 cap4) o0 w4) := by rw [hw4]; exact HA3.out.s2 _
  have HR5 : Hid (RowAt trK w4 ad4 n4 cap4 l4) := by rw [hw4]; exact HR4.out.off (fun a ha => by have := (HK4.out a ha).1; omega) _ _
  have HK5 : Hid (∀ a, ad4 = some a → w.heap.size + 4 ≤ a.block ∧ a.block < w4.heap.size) := fun a ha => by rw [hw4, size_set]; exact HK4.out a ha
  rw [← hw4]
  clear hw4 HA3 HR4 HK4 hcut hmx hn4 o0_ g2 KS
  have hX : BoxAt w4 (w.heap.size + 1) b0 b1 b2 b3 b4 b5 (.slice rd rn rc) := by have := HA4.out.xb; rw [HXO.out] at this; exact this
  have p0 := hX.c0
  have p4 := hX.c4
  clear hX
  have oc0 := HA4.out.ob.c0
  have g0 := HA4.out.ob.free 0
  have r0 := HA4.out.rb.c0
  have f0 := HA4.out.rb.free 0
  have oc1 := HA4.out.ob.c1
  have g1 := HA4.out.ob.free 1
  have r1 := HA4.out.rb.c1
  have f1 := HA4.out.rb.free 1
  have oc2 := HA4.out.ob.c2
  have g2 := HA4.out.ob.free 2
  have r2 := HA4.out.rb.c2
  have f2 := HA4.out.rb.free 2
  have oc3 := HA4.out.ob.c3
  have g3 := HA4.out.ob.free 3
  have r3 := HA4.out.rb.c3
  have f3 := HA4.out.rb.free 3
  cases b4
  · have HP : Hid (p = ⟨b1, b2, l4, o0⟩) := HPF.out o0 (by simp)
    clear HPF
    go_wp2
    exact bodyPost_ret (resultsApply ((((HA4.out.rb.s0 b1).s1 b2).s2 (.slice ad4 n4 cap4)).s3 o0) rfl) rfl (gives_apply HA4.out HP.out HR5.out HK5.out)
  by_cases hlt : o0 < 0
  · have hd9 : decide (o0 < 0) = true := decide_eq_true hlt
    have HP : Hid (p = ⟨b1, b2, l4, b0⟩) := HPF.out b0 (by simp [hlt])
    clear HPF hlt
    go_wp2
    exact bodyPost_ret (resultsApply (((((HA4.out.s3 b0).rb.s0 b1).s1 b2).s2 (.slice ad4 n4 cap4)).s3 b0) rfl) rfl (gives_apply (HA4.out.s3 b0) HP.out (HR5.out.off (fun a ha => by have := (HK5.out a ha).1; omega) _ _) (fun a ha => by rw [size_set]; exact HK5.out a ha))
  have hd9 : decide (o0 < 0) = false := decide_eq_false hlt
  have HP : Hid (p = ⟨b1, b2, l4, o0⟩) := HPF.out o0 (by simp [hlt])
  clear HPF hlt
  go_wp2
  exact bodyPost_ret (resultsApply ((((HA4.out.rb.s0 b1).s1 b2).s2 (.slice ad4 n4 cap4)).s3 o0) rfl) rfl (gives_apply HA4.out HP.out HR5.out HK5.out)
end Go.Proofs.YtjmfdildnojknaaGreat
