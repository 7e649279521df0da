/- Parts of a proof. -/
import Derived.Test.YtjmfdildnojknaaGreatKP12
import Derived.Test.YtjmfdildnojknaaGreatKP11
set_option maxRecDepth 100000
set_option maxHeartbeats 16000000
set_option linter.unusedVariables false
namespace Go.Proofs.YtjmfdildnojknaaGreat
open Go.RowKit
open Go.SeqMath
open Go.ProdMath
open Go.BatMath hiding AllB getD_lt take_all
theorem prAp_old (w : World) (o : Obj) {r : Nat} (h : r < w.heap.size) : (w.alloc o).heap[r]? = w.heap[r]? := by
 show (w.heap.push o)[r]? = _
 rw [Array.getElem?_push_lt h, Array.getElem?_eq_getElem h]
structure AP (w : World) (xo : Obj) (W : World) : Prop where
 xb : W.heap[w.heap.size + 1]? = some xo
 rb : PBox W (w.heap.size + 2) 0 0 (.slice none 0 0) 0
 sz : W.heap.size = w.heap.size + 3
 bel : Below w.heap.size w W
theorem AP.p {w W : World} {xo : Obj} (h : AP w xo W) (j : Nat) (u : Value) : AP w xo (W.setCell ⟨w.heap.size, j, none⟩ u) :=
 ⟨box_off h.xb (by omega) _, h.rb.off (by omega) _, by rw [size_set]; exact h.sz, h.bel.setCell (Nat.le_refl _) _⟩
theorem resultsPrApply {tmps : Array Value} {B : Nat} {W : World} {b0 b1 b3 : Int} {v : Value} (h : PBox W B b0 b1 v b3) (ht : tmps.getD 6 undef = .pointer (some ⟨B, 0, none⟩)) :
 (results Tryz.f103 tmps).run Tryz.prog W = .ok (.agg #[.int .i64 b0, .int .i64 b1, v, .int .i64 b3]) W := by
 rw [results_cell_one (p := 6) (ty := 58) Tryz.results103, ht]
 have hl := run_loadVar_row (P := Tryz.prog) W B 58 58 _ (0, 0) _ h Tryz.underlying58 rfl (by kernel_rfl)
 simp only [asAddr, Sem.run_pure, Result.andThen, hl]
def ApCut (w : World) (xo : Obj) (b2 : Int) (l0 : List Tr) (o0 : Int) (W : World) : Prop :=
 ∃ i1 e1 a1 n1 c1 o1 l1, AP w xo W ∧ PBox W w.heap.size i1 e1 (.slice a1 n1 c1) o1 ∧ RowAt trK W a1 n1 c1 l1 ∧ n1 ≤ 1000000 ∧ Hid ((if b2 = e1 then l1 else []) = l0) ∧ Hid (o1 = o0)
theorem prApply_any (w : World) (id ep op : Int) (last : List Tr) (ad : Option Addr) (n cap : Nat) (hl : RowAt trK w ad n cap last) (hn : n ≤ 1000000) (known : Bool) (b0 b1 b2 b3 : Int) (b4 : Bool) (b5 : Int) (recs : List Rc) (rd : Option Addr) (rn rc : Nat) (hrl : recs.length = rn) (hrn : rn ≤ 140737488355328) (p : Pd) (hp : applyD ⟨id, ep, last, op⟩ known ⟨b0, b1, b2, b3, b4, b5, recs⟩ = p) :
 Calls Tryz.prog 103 #[.agg #[.int .i64 id, .int .i64 ep, .slice ad n cap, .int .i64 op], .bool known, .agg #[.int .i64 b0, .int .i64 b1, .int .i64 b2, .int .i64 b3, .bool b4, .int .i64 b5, .slice rd rn rc]] w (GivesApply w p) := by
 obtain ⟨xo, hxo⟩ : ∃ xo : Obj, xo = (.cells #[.int .i64 b0, .int .i64 b1, .int .i64 b2, .int .i64 b3, .bool b4, .int .i64 b5, .slice rd rn rc] 29 (0, 0)) := ⟨_, rfl⟩
 obtain ⟨W0, hW0⟩ : ∃ W0, W0 = (((w.alloc (.cells #[.int .i64 id, .int .i64 ep, .slice ad n cap, .int .i64 op] 58)).alloc (.cells #[.int .i64 b0, .int .i64 b1, .int .i64 b2, .int .i64 b3, .bool b4, .int .i64 b5, .slice rd rn rc] 29)).alloc (.cells #[.int .i64 0, .int .i64 0, .slice none 0 0, .int .i64 0] 58)) := ⟨_, rfl⟩
 have HA0 : Hid (AP w xo W0) := by
  show AP _ _ _
  rw [hW0, hxo]
  have e2 := Below.refl w.heap.size w
  refine ⟨?_, ?_, by simp, ((e2.alloc (Nat.le_refl _) _).alloc (by simp) _).alloc (by simp <;> omega) _⟩
  · rw [prAp_old _ _ (by simp)]
    have := heap_alloc_new (w.alloc (.cells #[.int .i64 id, .int .i64 ep, .slice ad n cap, .int .i64 op] 58)) (.cells #[.int .i64 b0, .int .i64 b1, .int .i64 b2, .int .i64 b3, .bool b4, .int .i64 b5, .slice rd rn rc] 29)
    simpa using this
  show (_ : World).heap[_]? = _
  have := heap_alloc_new ((w.alloc (.cells #[.int .i64 id, .int .i64 ep, .slice ad n cap, .int .i64 op] 58)).alloc (.cells #[.int .i64 b0, .int .i64 b1, .int .i64 b2, .int .i64 b3, .bool b4, .int .i64 b5, .slice rd rn rc] 29)) (.cells #[.int .i64 0, .int .i64 0, .slice none 0 0, .int .i64 0] 58)
  simpa using this
 have HPB : Hid (PBox W0 w.heap.size id ep (.slice ad n cap) op) := by
  show (_ : World).heap[_]? = _
  rw [hW0, prAp_old _ _ (by simp <;> omega), prAp_old _ _ (by simp)]
  exact heap_alloc_new w _
 have HL0 := qh (hl.keep HA0.out.bel)
 have HPP : Hid (applyD ⟨id, ep, last, op⟩ known ⟨b0, b1, b2, b3, b4, b5, recs⟩ = p) := hp
 have HRL := qh hrl
 have HXO := qh hxo
 clear hl hp hrl hxo
 go_enter Tryz.func103, Tryz.ntmps103
 go_upto_if 9 with (fail)
 rw [← hW0]
 clear hW0
 obtain ⟨l0, hl0⟩ := exq (oldLast ⟨id, ep, last, op⟩ known ⟨b0, b1, b2, b3, b4, b5, recs⟩)
 obtain ⟨o0, ho0⟩ := exq (oldOpen ⟨id, ep, last, op⟩ known)
 have HPE1 : Hid (b5 ≠ 0 → p = ⟨b1, b2, l0, -1⟩) := by
  intro hm
  rw [← HPP.out, hl0]
  simp [applyD, hm]
 have HPE2 : Hid (b5 = 0 → ∀ oz, oz = (if b4 = true ∧ o0 < 0 then b0 else o0) → p = ⟨b1, b2, newLast l0 ⟨b3, lastI b3 rn, b0⟩, oz⟩) := by
  intro hm oz hoz
  rw [hoz, ← HPP.out, hl0, ho0, ← HRL.out]
  simp [applyD, hm]
 have HLE : Hid (l0 = if known = true ∧ ep = b2 then last else []) := by show l0 = _; rw [hl0]; rfl
 have HOE : Hid (o0 = if known = true then op else -1) := by show o0 = _; rw [ho0]; rfl
 clear hl0 ho0 HPP HRL
 go_cut [] from 8 (fun wx => ApCut w xo b2 l0 o0 wx)
 case first =>
  have q0 := HPB.out.c0
  have q1 := HPB.out.c1
  have q2 := HPB.out.c2
  have q3 := HPB.out.c3
  have f0 := HPB.out.free 0
  have f1 := HPB.out.free 1
  have f2 := HPB.out.free 2
  have f3 := HPB.out.free 3
  cases known
  · go_wp2
    go_meet
    case rel =>
     refine ⟨0, 0, none, 0, 0, -1, [], (((HA0.out.p 0 _).p 1 _).p 2 _).p 3 _, (((HPB.out.s0 0).s1 0).s2 (.slice none 0 0)).s3 (-1), rowAt_nil _, by omega, ?_, ?_⟩
     · show _ = _; rw [HLE.out]; simp
     show _ = _; rw [HOE.out]; rfl
  go_wp2
  go_meet
  case rel =>
   refine ⟨id, ep, ad, n, cap, op, last, HA0.out, HPB.out, HL0.out, hn, ?_, ?_⟩
   · show _ = _
     rw [HLE.out]
     by_cases h : b2 = ep
     · rw [if_pos h, if_pos (by simp [h])]
     rw [if_neg h, if_neg (fun h2 => h h2.2.symm)]
   show _ = _; rw [HOE.out]; rfl
 case rest =>
  obtain ⟨i1, e1, a1, n1, c1, o1, l1, hap, hpb, hrw, hn1, hle, hoe⟩ := hcut
  have HAP := qh hap
  have HPB1 := qh hpb
  have HRW := qh hrw
  clear hap hpb hrw HA0 HPB HL0 HLE HOE hn
  have hxb : BoxAt wc (w.heap.size + 1) b0 b1 b2 b3 b4 b5 (.slice rd rn rc) := by have := HAP.out.xb; rw [HXO.out] at this; exact this
  have HXB := qh hxb
  clear hxb
  have x1 := HXB.out.c1
  have x2 := HXB.out.c2
  have y1 := HPB1.out.c1
  go_upto_region 4 with fail
  obtain ⟨W1, hW1⟩ := exq (wc.alloc (.cells #[.int .i64 b1, .int .i64 b2, .slice none 0 0, .int .i64 (-1)] 58))
  obtain ⟨po, hpo⟩ : ∃ po : Obj, po = .cells #[.int .i64 i1, .int .i64 e1, .slice a1 n1 c1, .int .i64 o1] 58 (0, 0) := ⟨_, rfl⟩
  have hb1 := wbq hW1
  have HPB2 := qh (HPB1.out.on hb1)
  have HA1 : Hid (AS w po xo b1 b2 (.slice none 0 0) (-1) W1) := by
   show AS _ _ _ _ _ _ _ _
   refine ⟨by rw [hpo]; exact HPB2.out, ?_, HAP.out.rb.on hb1, ?_, HAP.out.bel.trans (hb1.mono HAP.out.bel.size)⟩
   · rw [hb1.block _ (lt_of_block HAP.out.xb)]; exact HAP.out.xb
   have h3 := pbox_new wc b1 b2 (.slice none 0 0) (-1)
   rw [← hW1, HAP.out.sz] at h3
   exact h3
  have HL1 := qh (HRW.out.keep hb1)
  have HXB1 := qh (HXB.out.on hb1)
  have hsz := HAP.out.sz
  rw [← hW1, hsz]
  have HPO := qh hpo
  clear hW1 hb1 hsz x1 x2 y1 HPB1 HRW HXB HAP hpo
  have x2 := HXB1.out.c2
  have y1 := HPB2.out.c1
  have y2 := HPB2.out.c2
  have o2 := HA1.out.ob.c2
  have f2 := HA1.out.ob.free 2
  go_upto_if 20 with (fail)
  go_cut [] from 16 (fun wx => ∃ v, AS w po xo b1 b2 v (-1) wx ∧ OwnRow trK wx (w.heap.size + 4) v l0)
  case first =>
   by_cases hee : b2 = e1
   rotate_left
   · have hd : (b2 == e1) = false := beq_false_of_ne hee
     have e2 : l0 = [] := by rw [← hle.out, if_neg hee]
     clear hee
     go_wp2
     go_meet
     case rel => exact ⟨_, HA1.out, by rw [e2]; exact ownRow_nil _ _ _⟩
   have hd : (b2 == e1) = true := by rw [hee]; simp
   have e2 : l0 = l1 := by rw [← hle.out, if_pos hee]
   have HE2 := qh e2
   have HVE : Hid (OwnRow trK W1 (w.heap.size + 4) (.slice none 0 0) []) := ownRow_nil _ _ _
   clear hee e2
   go_wp2_with (at_builtin; refine list_row (by rfl) trK_ok (.tmp 22) (.tmp 24) rfl (w.heap.size + 4) [] l1 _ rfl HVE.out HA1.out.lt a1 n1 c1 rfl HL1.out (by rw [List.length_nil]; omega) ?_)
   intro v2 w2 hap
   obtain ⟨ad2, cap2, hv2, _, _⟩ := OwnRow.row trK_ok (l := l1) (n := n1) hap.1 HL1.out.length
   subst hv2
   have HO2 : Hid (OwnRow trK w2 (w.heap.size + 4) (.slice ad2 n1 cap2) l1) := hap.1
   have HA2 : Hid (AS w po xo b1 b2 (.slice none 0 0) (-1) w2) := HA1.out.grown hap.2.1 fun k hk => (HVE.out.lt k hk).1
   clear hap HVE o2 f2
   have o2 := HA2.out.ob.c2
   have f2 := HA2.out.ob.free 2
   go_wp2
   go_meet
   case rel => exact ⟨_, HA2.out.s2 (.slice ad2 n1 cap2), by rw [HE2.out]; exact HO2.out.off (by omega) _ _⟩
  case rest =>
   obtain ⟨v, ha, ho⟩ := hcut
   have HA := qh ha
   have HO := qh ho
   have hxb : BoxAt wc (w.heap.size + 1) b0 b1 b2 b3 b4 b5 (.slice rd rn rc) := by have := ha.xb; rw [HXO.out] at this; exact this
   have HXC := qh hxb
   have hn0 : l0.length ≤ 1000000 := by
    have hll := HL1.out.length
    rw [← hle.out]
    split
    · omega
    exact Nat.zero_le _
   clear hxb ha ho HXB1 HPB2 HA1 HL1 hle x2 y1 y2 o2 f2
   obtain ⟨n0, hln0⟩ : ∃ n0, l0.length = n0 := ⟨_, rfl⟩
   rw [hln0] at hn0
   obtain ⟨ad0, cap0, hv0, hr0, hk0⟩ := OwnRow.row trK_ok HO.out hln0
   subst hv0
   have HLN := qh hln0
   have HR0 := qh hr0
   have HK0 : Hid (∀ a, ad0 = some a → w.heap.size + 4 ≤ a.block ∧ a.block < wc.heap.size) := fun a ha => hk0 a ha
   clear hln0 hr0 hk0
   have p5 := HXC.out.c5
   by_cases hm : b5 = 0
   rotate_left
   · have hd : (b5 == 0) = false := beq_false_of_ne hm
     have hdn : (b5 != 0) = true := by unfold bne; rw [hd]; rfl
     have HPE := qh (HPE1.out hm)
     clear HPE1 HPE2 hm
     have oc0 := HA.out.ob.c0
     have g0 := HA.out.ob.free 0
     have r0 := HA.out.rb.c0
     have f0 := HA.out.rb.free 0
     have oc1 := HA.out.ob.c1
     have g1 := HA.out.ob.free 1
     have r1 := HA.out.rb.c1
     have f1 := HA.out.rb.free 1
     have oc2 := HA.out.ob.c2
     have g2 := HA.out.ob.free 2
     have r2 := HA.out.rb.c2
     have f2 := HA.out.rb.free 2
     have oc3 := HA.out.ob.c3
     have g3 := HA.out.ob.free 3
     have r3 := HA.out.rb.c3
     have f3 := HA.out.rb.free 3
     go_wp2
     exact bodyPost_ret (resultsPrApply ((((HA.out.rb.s0 b1).s1 b2).s2 (.slice ad0 n0 cap0)).s3 (-1)) rfl) rfl (gives_apply HA.out HPE.out HR0.out HK0.out)
   have hd : (b5 == 0) = true := by rw [hm]; rfl
   have hdn : (b5 != 0) = false := by rw [hm]; rfl
   have HPE : Hid (∀ oz, oz = (if b4 = true ∧ o0 < 0 then b0 else o0) → p = ⟨b1, b2, newLast l0 ⟨b3, lastI b3 rn, b0⟩, oz⟩) := HPE2.out hm
   obtain ⟨lv, hlv⟩ : ∃ lv, lastI b3 rn = lv := ⟨_, rfl⟩
   rw [hlv] at HPE
   have HLV := qh hlv
   have HM := qh hm
   clear HPE1 HPE2 hm hlv
   go_upto_region 8 with fail
   clear p5
   have KS : Hid (∀ W, AS w po xo b1 b2 (.slice ad0 n0 cap0) (-1) W → (fun (W : World) => W.cell? ⟨(w.heap.size + 1), 0, none⟩ = some (.int .i64 b0) ∧ W.cell? ⟨(w.heap.size + 1), 1, none⟩ = some (.int .i64 b1) ∧ W.cell? ⟨(w.heap.size + 1), 2, none⟩ = some (.int .i64 b2) ∧ W.cell? ⟨(w.heap.size + 1), 3, none⟩ = some (.int .i64 b3) ∧ W.cell? ⟨(w.heap.size + 1), 4, none⟩ = some (.bool b4) ∧ W.cell? ⟨(w.heap.size + 1), 5, none⟩ = some (.int .i64 b5) ∧ W.cell? ⟨(w.heap.size + 1), 6, none⟩ = some (.slice rd rn rc) ∧ W.cell? ⟨(w.heap.size + 3), 0, none⟩ = some (.int .i64 b1) ∧ W.cell? ⟨(w.heap.size + 3), 1, none⟩ = some (.int .i64 b2) ∧ W.cell? ⟨(w.heap.size + 3), 2, none⟩ = some (.slice ad0 n0 cap0) ∧ W.cell? ⟨(w.heap.size + 3), 3, none⟩ = some (.int .i64 (-1)) ∧ W.frozen? ⟨w.heap.size + 3, 2, none⟩ = false) W) := by
    intro W hW
    have hX : BoxAt W (w.heap.size + 1) b0 b1 b2 b3 b4 b5 (.slice rd rn rc) := by have := hW.xb; rw [HXO.out] at this; exact this
    exact ⟨hX.c0, hX.c1, hX.c2, hX.c3, hX.c4, hX.c5, hX.c6, hW.ob.c0, hW.ob.c1, hW.ob.c2, hW.ob.c3, hW.ob.free 2⟩
   have hdr : Below wc.heap.size wc wc.drew := (Below.refl _ wc).drew
   have HAd := qh (HA.out.on hdr)
   have HOd := qh (HO.out.on hdr)
   refine wp_region_noPanic ?_
   refine zk [12] KS ?_
   have hHeld := KS.out _ HAd.out
   obtain ⟨u0, hu0⟩ := exq wc.drew
   rw [← hu0] at hHeld HAd HOd
   rw [← hu0]
   clear hu0
   refine zt 0 ?_
   refine zt 1 ?_
   refine zt 2 ?_
   refine zt 3 ?_
   refine zt 4 ?_
   refine zt 6 ?_
   refine zt 7 ?_
   refine zr 5 (fun C hC => ?_)
   go_simp
   refine (prEnd_any u0 b0 b1 b2 b3 b4 b5 rd rn rc HM.out hrn lv HLV.out).mono ?_
   rintro e uz ⟨rfl, hbz⟩
   have HAz := qh (HAd.out.on hbz)
   have HOz := qh (HOd.out.on hbz)
   clear hbz
   go_wp2_with fail
   have hHeld := KS.out _ HAz.out
   refine zc hC hHeld ?_
   clear hC C
   refine zt 8 ?_
   refine zr 9 (fun C hC => ?_)
   go_simp
   obtain ⟨u1, hu1⟩ := exq (uz.alloc (.cells #[.int .i64 b3, .int .i64 lv, .int .i64 b0] 59))
   have hb1 := wbq hu1
   have HA1 := qh (HAz.out.on hb1)
   have HO1 := qh (HOz.out.on hb1)
   have HX1 : Hid (RowAt trK u1 (some ⟨uz.heap.size, 0, none⟩) 1 1 [⟨b3, lv, b0⟩]) := by rw [hu1]; exact rowAt_lit trK_ok uz [⟨b3, lv, b0⟩] (by simp) _ rfl 1 rfl
   obtain ⟨G0, hG0⟩ := exq uz.heap.size
   rw [← hG0] at HX1
   rw [← hu1, ← hG0]
   clear hu1 hb1 hG0
   have hHeld := KS.out _ HA1.out
   refine zc hC hHeld ?_
   clear hC C
   refine zr 10 (fun C hC => ?_)
   refine held_row (by rfl) trK_ok (.tmp 32) (.tmp 40) rfl (w.heap.size + 4) l0 [⟨b3, lv, b0⟩] _ rfl HO1.out HA1.out.lt (some ⟨G0, 0, none⟩) 1 1 rfl HX1.out (by rw [HLN.out]; omega) ?_
   rintro v2 u2 hap
   obtain ⟨ad2, cap2, hv2, hr2, hk2⟩ := OwnRow.row trK_ok hap.1 (n := n0 + 1) (by rw [List.length_append, HLN.out]; rfl)
   subst hv2
   have HA2 : Hid (AS w po xo b1 b2 (.slice ad0 n0 cap0) (-1) u2) := HA1.out.grown hap.2.1 fun k hk => (HO1.out.lt k hk).1
   have HR2 := qh hr2
   have HK2 : Hid (∀ a, ad2 = some a → w.heap.size + 4 ≤ a.block ∧ a.block < u2.heap.size) := fun a ha => hk2 a ha
   clear hap hr2 hk2 HO1 HA1 HX1 HAz HOz
   have hHeld := KS.out _ HA2.out
   refine zc hC hHeld ?_
   clear hC C
   refine zt 11 ?_
   refine zr 12 (fun C hC => ?_)
   go_simp
   refine zl hC ?_
   clear hC C
   refine zd ?_
   clear hHeld
   obtain ⟨w3, hw3⟩ := exq (u2.setCell ⟨w.heap.size + 3, 2, none⟩ (.slice ad2 (n0 + 1) cap2))
   have HA3 : Hid (AS w po xo b1 b2 (.slice ad2 (n0 + 1) cap2) (-1) w3) := by rw [hw3]; exact HA2.out.s2 _
   have HR3 : Hid (RowAt trK w3 ad2 (n0 + 1) cap2 (l0 ++ [⟨b3, lv, b0⟩])) := by rw [hw3]; exact HR2.out.off (fun a ha => by have := (HK2.out a ha).1; omega) _ _
   have HK3 : Hid (∀ a, ad2 = some a → w.heap.size + 4 ≤ a.block ∧ a.block < w3.heap.size) := fun a ha => by rw [hw3, size_set]; exact HK2.out a ha
   rw [← hw3]
   clear hw3 HA2 HR2 HA HAd HOd HR0 HK0 HXC HO HK2
   obtain ⟨k, hk⟩ := exq (n0 + 1 - 5)
   obtain ⟨ad4, cap4, hcut, hr4, hk4⟩ := row_from trK_ok HR3.out k (by omega)
   have hcut : ∀ W, (Instr.slice 56 (.slice ad2 (n0 + 1) cap2) (some (.int .i64 (k : Int))) none none).run Tryz.prog W = .ok (.slice ad4 (n0 + 1 - k) cap4) W := hcut
   have hmx : (if (n0 : Int) + 1 - 5 < 0 then 0 else (n0 : Int) + 1 - 5) = (k : Int) := by split <;> omega
   have HK4 : Hid (∀ a, ad4 = some a → w.heap.size + 4 ≤ a.block ∧ a.block < w3.heap.size) := fun a ha => by
    obtain ⟨a0, h0, h1⟩ := hk4 a ha
    rw [h1]; exact HK3.out a0 h0
   obtain ⟨l4, hl4⟩ : ∃ l4, l4 = (l0 ++ [(⟨b3, lv, b0⟩ : Tr)]).drop k := ⟨_, rfl⟩
   have HPF : Hid (∀ oz, oz = (if b4 = true ∧ o1 < 0 then b0 else o1) → p = ⟨b1, b2, l4, oz⟩) := by
    intro oz hoz
    rw [hoe.out] at hoz
    rw [HPE.out oz hoz, hl4, hk]
    unfold newLast
    rw [HLN.out]
   rw [← hl4] at hr4
   have HR4 := qh hr4
   have HKK := qh hk
   clear hr4 hk4 hl4 HPE HR3 HK3 hk
   have o0_ := HA3.out.ob.c2
   have g2 := HA3.out.ob.free 2
   go_upto_region 10 with fail
   obtain ⟨n4, hn4⟩ := exq (n0 + 1 - k)
   rw [← hn4] at HR4
   rw [← hn4]
   obtain ⟨w4, hw4⟩ := exq (w3.setCell ⟨w.heap.size + 3, 2, none⟩ (.slice ad4 n4 cap4))
   have HA4 : Hid (AS w po xo b1 b2 (.slice ad4 n4 cap4) (-1) w4) := by rw [hw4]; exact HA3.out.s2 _
   have HR5 : Hid (RowAt trK w4 ad4 n4 cap4 l4) := by rw [hw4]; exact HR4.out.off (fun a ha => by have := (HK4.out a ha).1; omega) _ _
   have HK5 : Hid (∀ a, ad4 = some a → w.heap.size + 4 ≤ a.block ∧ a.block < w4.heap.size) := fun a ha => by rw [hw4, size_set]; exact HK4.out a ha
   rw [← hw4]
   clear hw4 HA3 HR4 HK4 hcut hmx hn4 o0_ g2 KS
   have HPC : Hid (PBox w4 w.heap.size i1 e1 (.slice a1 n1 c1) o1) := by show (_ : World).heap[_]? = _; rw [HA4.out.pb, HPO.out]
   have y3 := HPC.out.c3
   have g3 := HA4.out.ob.free 3
   have oc3 := HA4.out.ob.c3
   go_upto_region 11 with fail
   obtain ⟨w5, hw5⟩ := exq (w4.setCell ⟨w.heap.size + 3, 3, none⟩ (.int .i64 o1))
   have HA5 : Hid (AS w po xo b1 b2 (.slice ad4 n4 cap4) o1 w5) := by rw [hw5]; exact HA4.out.s3 _
   have HR6 : Hid (RowAt trK w5 ad4 n4 cap4 l4) := by rw [hw5]; exact HR5.out.off (fun a ha => by have := (HK5.out a ha).1; omega) _ _
   have HK6 : Hid (∀ a, ad4 = some a → w.heap.size + 4 ≤ a.block ∧ a.block < w5.heap.size) := fun a ha => by rw [hw5, size_set]; exact HK5.out a ha
   rw [← hw5]
   clear hw5 HA4 HR5 HK5 y3 g3 oc3 HPC
   have HPC : Hid (PBox w5 w.heap.size i1 e1 (.slice a1 n1 c1) o1) := by show (_ : World).heap[_]? = _; rw [HA5.out.pb, HPO.out]
   have hX : BoxAt w5 (w.heap.size + 1) b0 b1 b2 b3 b4 b5 (.slice rd rn rc) := by have := HA5.out.xb; rw [HXO.out] at this; exact this
   have p4 := hX.c4
   cases b4
   · have HP : Hid (p = ⟨b1, b2, l4, o1⟩) := HPF.out o1 (by simp)
     clear HPF hX
     have oc0 := HA5.out.ob.c0
     have g0 := HA5.out.ob.free 0
     have r0 := HA5.out.rb.c0
     have f0 := HA5.out.rb.free 0
     have oc1 := HA5.out.ob.c1
     have g1 := HA5.out.ob.free 1
     have r1 := HA5.out.rb.c1
     have f1 := HA5.out.rb.free 1
     have oc2 := HA5.out.ob.c2
     have g2 := HA5.out.ob.free 2
     have r2 := HA5.out.rb.c2
     have f2 := HA5.out.rb.free 2
     have oc3 := HA5.out.ob.c3
     have g3 := HA5.out.ob.free 3
     have r3 := HA5.out.rb.c3
     have f3 := HA5.out.rb.free 3
     go_wp2
     exact bodyPost_ret (resultsPrApply ((((HA5.out.rb.s0 b1).s1 b2).s2 (.slice ad4 n4 cap4)).s3 o1) rfl) rfl (gives_apply HA5.out HP.out HR6.out HK6.out)
   have y0 := HPC.out.c0
   have y1 := HPC.out.c1
   have y2 := HPC.out.c2
   have y3 := HPC.out.c3
   clear hX
   by_cases hlt : 0 ≤ o1
   · have HD : Hid (decide (0 ≤ o1) = true) := decide_eq_true hlt
     have HP : Hid (p = ⟨b1, b2, l4, o1⟩) := HPF.out o1 (by simp [Int.not_lt.2 hlt])
     clear HPF hlt
     go_wp2_with fail
     refine (prOpen_any w5 i1 e1 o1 a1 n1 c1 true HD.out).mono ?_
     rintro e w6 ⟨rfl, hb6⟩
     have HA6 := qh (HA5.out.on hb6)
     have HR7 := qh (HR6.out.keep hb6)
     have HK7 : Hid (∀ a, ad4 = some a → w.heap.size + 4 ≤ a.block ∧ a.block < w6.heap.size) := fun a ha => ⟨(HK6.out a ha).1, Nat.lt_of_lt_of_le (HK6.out a ha).2 hb6.size⟩
     clear hb6 HA5 HR6 HK6 y0 y1 y2 y3 p4 HPC
     have oc0 := HA6.out.ob.c0
     have g0 := HA6.out.ob.free 0
     have r0 := HA6.out.rb.c0
     have f0 := HA6.out.rb.free 0
     have oc1 := HA6.out.ob.c1
     have g1 := HA6.out.ob.free 1
     have r1 := HA6.out.rb.c1
     have f1 := HA6.out.rb.free 1
     have oc2 := HA6.out.ob.c2
     have g2 := HA6.out.ob.free 2
     have r2 := HA6.out.rb.c2
     have f2 := HA6.out.rb.free 2
     have oc3 := HA6.out.ob.c3
     have g3 := HA6.out.ob.free 3
     have r3 := HA6.out.rb.c3
     have f3 := HA6.out.rb.free 3
     go_wp2
     exact bodyPost_ret (resultsPrApply ((((HA6.out.rb.s0 b1).s1 b2).s2 (.slice ad4 n4 cap4)).s3 o1) rfl) rfl (gives_apply HA6.out HP.out HR7.out HK7.out)
   have HD : Hid (decide (0 ≤ o1) = false) := decide_eq_false hlt
   have HP : Hid (p = ⟨b1, b2, l4, b0⟩) := HPF.out b0 (by simp [Int.not_le.1 hlt])
   clear HPF hlt
   go_wp2_with fail
   refine (prOpen_any w5 i1 e1 o1 a1 n1 c1 false HD.out).mono ?_
   rintro e w6 ⟨rfl, hb6⟩
   have HA6 := qh (HA5.out.on hb6)
   have HR7 := qh (HR6.out.keep hb6)
   have HK7 : Hid (∀ a, ad4 = some a → w.heap.size + 4 ≤ a.block ∧ a.block < w6.heap.size) := fun a ha => ⟨(HK6.out a ha).1, Nat.lt_of_lt_of_le (HK6.out a ha).2 hb6.size⟩
   have hX : BoxAt w6 (w.heap.size + 1) b0 b1 b2 b3 true b5 (.slice rd rn rc) := by have := HA6.out.xb; rw [HXO.out] at this; exact this
   clear hb6 HA5 HR6 HK6 y0 y1 y2 y3 p4 HPC
   have p0 := hX.c0
   clear hX
   have oc0 := HA6.out.ob.c0
   have g0 := HA6.out.ob.free 0
   have r0 := HA6.out.rb.c0
   have f0 := HA6.out.rb.free 0
   have oc1 := HA6.out.ob.c1
   have g1 := HA6.out.ob.free 1
   have r1 := HA6.out.rb.c1
   have f1 := HA6.out.rb.free 1
   have oc2 := HA6.out.ob.c2
   have g2 := HA6.out.ob.free 2
   have r2 := HA6.out.rb.c2
   have f2 := HA6.out.rb.free 2
   have oc3 := HA6.out.ob.c3
   have g3 := HA6.out.ob.free 3
   have r3 := HA6.out.rb.c3
   have f3 := HA6.out.rb.free 3
   go_wp2
   exact bodyPost_ret (resultsPrApply (((((HA6.out.s3 b0).rb.s0 b1).s1 b2).s2 (.slice ad4 n4 cap4)).s3 b0) rfl) rfl (gives_apply (HA6.out.s3 b0) HP.out (HR7.out.off (fun a ha => by have := (HK7.out a ha).1; omega) _ _) (fun a ha => by rw [size_set]; exact HK7.out a ha))
theorem right_prod {b : Bat} (h : rightE b = 0) : b.prod = -1 ∨ 0 ≤ b.prod := by
 unfold rightE at h
 split at h
 · omega
 split at h
 · split at h
   · rename_i h2; exact .inr (head_of h2.2.1).1
   omega
 split at h
 · rename_i h2
   rcases h2.1 with h3 | h3
   · exact .inl (none_of h3).1
   exact .inr (head_of h3.1).1
 omega
theorem tcCheck_any (w : World) (kt km : Nat) (ms : List PM) (h : TcOk w kt km ms) (hasc : Asc (pds ms)) (hfew : fewP (pds ms)) (b : Bat) (rd : Option Addr) (rn rc : Nat) (hr : RecsAt w rd rn rc b.recs) (ht : TextsOk b.recs) (hrn : rn ≤ 140737488355328) (hwf : b.prod ≤ 9223372036854775807) (c : Int × Int) (hc : tcheckD (pds ms) b = c) :
 Calls Tryz.prog 68 #[.pointer (some ⟨kt, 0, none⟩), .agg #[.int .i64 b.base, .int .i64 b.prod, .int .i64 b.epoch, .int .i64 b.seq, .bool b.txn, .int .i64 b.marker, .slice rd rn rc]] w (GivesPair w c) := by
 obtain ⟨b0, b1, b2, b3, b4, b5, recs⟩ := b
 simp only at hr ht hwf
 simp only
 obtain ⟨W0, hW0⟩ := exq (w.alloc (.cells #[.int .i64 b0, .int .i64 b1, .int .i64 b2, .int .i64 b3, .bool b4, .int .i64 b5, .slice rd rn rc] 29))
 have HB0 := hwq hW0
 have HX0 := bx0 hW0
 have HT0 := qh (h.keep HB0.out)
 have HRE0 := qh (hr.keep HB0.out)
 have hrl := hr.length
 have HC : Hid (tcheckD (pds ms) ⟨b0, b1, b2, b3, b4, b5, recs⟩ = c) := hc
 have HF := qh hfew
 have HAS := qh hasc
 have HTX := qh ht
 have HW0 := qh hW0
 clear h hr hc hfew hW0 ht hasc
 obtain ⟨B, hB⟩ := exq w.heap.size
 rw [← hB] at HX0
 obtain ⟨r, hre⟩ : ∃ r, rightE ⟨b0, b1, b2, b3, b4, b5, recs⟩ = r := ⟨_, rfl⟩
 have HRE := qh hre
 clear hre
 go_enter Tryz.func68, Tryz.ntmps68
 go_upto_region 1 with fail
 rw [← HW0.out, ← hB]
 clear hB HW0
 obtain ⟨p0, p1, p2, p3, p4, p5, p6⟩ := HX0.out.cs
 go_wp2_with fail
 have CR := batRight_any W0 ⟨b0, b1, b2, b3, b4, b5, recs⟩ rd rn rc HRE0.out HTX.out hrn
 rw [HRE.out] at CR
 refine CR.mono ?_
 clear CR
 rintro e w1 ⟨rfl, hb1⟩
 have HB1 := qh (HB0.out.trans (hb1.mono HB0.out.size))
 have HX1 := qh (HX0.out.on hb1)
 have HT1 := qh (HT0.out.keep hb1)
 clear hb1 p0 p1 p2 p3 p4 p5 p6
 by_cases hz : r = 0
 rotate_left
 · have hd : (r != 0) = true := by simp [hz]
   have HEND : Hid (c = (-1, r)) := by
    show c = _
    rw [← HC.out]
    unfold tcheckD
    rw [HRE.out, if_pos hz]
   clear HC
   go_wp2
   go_ret2
   exact gives_pair HEND.out HB1.out
 have hd : (r != 0) = false := by rw [hz]; rfl
 have p1 := HX1.out.c1
 have HRP := qh (right_prod (show rightE ⟨b0, b1, b2, b3, b4, b5, recs⟩ = 0 by rw [HRE.out, hz]))
 by_cases hn : b1 = -1
 · have hd2 : (b1 == -1) = true := by rw [hn]; rfl
   have HEND : Hid (c = (-1, 0)) := by
    show c = _
    rw [← HC.out]
    unfold tcheckD
    rw [HRE.out, if_neg (by simp [hz]), if_pos (by show b1 < 0; omega)]
   clear HC hz hn HRP
   go_wp2
   go_ret2
   exact gives_pair HEND.out HB1.out
 have hd2 : (b1 == -1) = false := beq_false_of_ne hn
 have hn0 : 0 ≤ b1 := by
  rcases HRP.out with h | h
  · exact absurd h hn
  exact h
 obtain ⟨p, kn, pd, pn, pc, hp, hk, hn5, hlk, _, hrow⟩ := tc_look ms b1 (by omega) hwf HF.out
 have HCC : Hid (checkD p kn ⟨b0, b1, b2, b3, b4, b5, recs⟩ = c) := by
  show _ = _
  rw [← HC.out, ← hp, ← hk]
  unfold tcheckD
  rw [HRE.out, if_neg (by simp [hz]), if_neg (by show ¬ b1 < 0; omega)]
  have h3 := has_look HAS.out b1
  show _ = checkD (getD (pds ms) b1) (hasD (pds ms) b1) _
  rw [h3.1, h3.2]
 have HLK := qh hlk
 have HRO := qh hrow
 have KS : Hid (∀ V, Below w1.heap.size w1 V → (fun (V : World) => V.cell? ⟨kt, 0, none⟩ = some (.map (some km)) ∧ V.cell? ⟨B, 1, none⟩ = some (.int .i64 b1) ∧ TcMap V km ms) V) := fun V hV => ⟨(HT1.out.keep hV).box.c0, (HX1.out.on hV).c1, (HT1.out.keep hV).map⟩
 have hdrw : Below w1.heap.size w1 w1.drew := (Below.refl _ w1).drew
 clear HC hz hn hp hk hlk hrow HRP
 obtain ⟨pid, pep, pl, po⟩ := p
 simp only at HCC HLK HRO
 go_upto_region 6 with fail
 clear p1
 refine wp_region_noPanic ?_
 refine zk [] KS ?_
 have hHeld := KS.out _ hdrw
 obtain ⟨u0, hu0⟩ := exq w1.drew
 rw [← hu0] at hHeld hdrw
 rw [← hu0]
 clear hu0
 have HU0 := qh hdrw
 clear hdrw
 refine zt 0 ?_
 refine zt 1 ?_
 refine zt 2 ?_
 refine zt 3 ?_
 refine zt 4 ?_
 refine zt 5 ?_
 refine wpAnyZ_take (i := 6) (oi := ⟨_, _, _, _, _, _⟩) (v := ?_) rfl (by kernel_rfl) (by kernel_rfl) (by kernel_rfl) (by kernel_rfl) (by kernel_rfl) (fun _ _ _ h => h) (Or.inl ⟨by rfl, ?_⟩) (by assumption) ?_
 rotate_left
 · intro W hSw
   (try dsimp only at hSw)
   have hlk := HLK.out W km hSw.2.2
   go_simp
   (try with_reducible rfl)
 (try simp only [Act.put, List.setIfInBounds_toArray, List.set_cons_zero, List.set_cons_succ])
 refine zt 7 ?_
 refine zt 8 ?_
 refine zt 9 ?_
 refine zr 10 (fun C hC => ?_)
 go_simp
 obtain ⟨u1, hu1⟩ := exq (u0.alloc (.cells #[.int .i64 0, .int .i64 0, .slice none 0 0, .int .i64 0] 58))
 obtain ⟨P, hP⟩ := exq u0.heap.size
 have HP1 : Hid (PBox u1 P 0 0 (.slice none 0 0) 0) := by rw [hu1, hP]; exact pbox_new u0 _ _ _ _
 have HU1 : Hid (Below w1.heap.size w1 u1) := by rw [hu1]; exact HU0.out.trans ((Below.refl _ _).alloc HU0.out.size _)
 have HPW : Hid (w1.heap.size ≤ P) := by show _ ≤ _; rw [hP]; exact HU0.out.size
 try rw [← hu1, ← hP]
 clear hu1 hP
 have hHeld := KS.out _ HU1.out
 refine zc hC hHeld ?_
 clear hC C
 have r0 := HP1.out.c0
 have r1 := HP1.out.c1
 have r2 := HP1.out.c2
 have r3 := HP1.out.c3
 have f0 := HP1.out.free 0
 have f1 := HP1.out.free 1
 have f2 := HP1.out.free 2
 have f3 := HP1.out.free 3
 refine zr 11 (fun C hC => ?_)
 go_simp
 obtain ⟨u2, hu2⟩ : ∃ z, z = (((u1.setCell ⟨P, 0, none⟩ (.int .i64 pid)).setCell ⟨P, 1, none⟩ (.int .i64 pep)).setCell ⟨P, 2, none⟩ (.slice pd pn pc)).setCell ⟨P, 3, none⟩ (.int .i64 po) := ⟨_, rfl⟩
 have HP2 : Hid (PBox u2 P pid pep (.slice pd pn pc) po) := by rw [hu2]; exact (((HP1.out.s0 pid).s1 pep).s2 (.slice pd pn pc)).s3 po
 have HU2 : Hid (Below w1.heap.size w1 u2) := by rw [hu2]; exact (((HU1.out.setCell HPW.out _).setCell HPW.out _).setCell HPW.out _).setCell HPW.out _
 try rw [← hu2]
 clear hu2 r0 r1 r2 r3 f0 f1 f2 f3 HP1
 have hHeld := KS.out _ HU2.out
 refine zc hC hHeld ?_
 clear hC C
 refine zt 12 ?_
 refine zd ?_
 clear hHeld KS HU0 HU1
 have HB2 := qh (HB1.out.trans (HU2.out.mono HB1.out.size))
 have HX2 := qh (HX1.out.on HU2.out)
 have HRW2 := qh (HRO.out u2 (HT1.out.keep HU2.out).ins)
 obtain ⟨p0, p1, p2, p3, p4, p5, p6⟩ := HX2.out.cs
 have q0 := HP2.out.c0
 have q1 := HP2.out.c1
 have q2 := HP2.out.c2
 have q3 := HP2.out.c3
 go_wp2_with fail
 refine (prCheck_any u2 pid pep po pl pd pn pc HRW2.out (by omega) kn b0 b1 b2 b3 b4 b5 recs rd rn rc hrl hrn c HCC.out).mono ?_
 rintro e w4 ⟨rfl, hb4⟩
 have HB4 := qh (HB2.out.trans (hb4.mono HB2.out.size))
 go_wp2
 go_ret2
 exact gives_pair rfl HB4.out
theorem insM_mem : ∀ (ms : List PM) (x q : PM), q ∈ insM ms x → q = x ∨ q ∈ ms
 | [], x, q, h => .inl (by simpa [insM] using h)
 | m :: ms, x, q, h => by
   unfold insM at h
   split at h
   · rcases List.mem_cons.1 h with h | h
     · exact .inr (by simp [h])
     rcases insM_mem ms x q h with h | h
     · exact .inl h
     exact .inr (by simp [h])
   split at h
   · rcases List.mem_cons.1 h with h | h
     · exact .inl h
     exact .inr (by simp [h])
   rcases List.mem_cons.1 h with h | h
   · exact .inl h
   exact .inr h
theorem tc_put {w : World} {km : Nat} {ms : List PM} (h : TcMap w km ms) (ha : Asc (pds ms)) (mx : PM) (k : Int) (hk : mx.p.id = k) (h0 : -9223372036854775808 ≤ k) (h1 : k ≤ 9223372036854775807) :
 ∃ w', (Instr.mapUpdate 110 (.map (some km)) (.int .i64 k) (.agg #[.int .i64 mx.p.id, .int .i64 mx.p.epoch, .slice mx.ad mx.p.last.length mx.cap, .int .i64 mx.p.opn])).run Tryz.prog w = .ok () w' ∧ TcMap w' km (insM ms mx) ∧ w.grownBy w' (some km) ∧ w'.heap.size = w.heap.size := by
 subst hk
 cases hm : lookM ms mx.p.id with
 | none =>
   have hn := lookM_none hm
   obtain ⟨w', hrun, hmap, hg, hs⟩ := mapAs_put tcMapT keyI h mx (key_int h0 h1) (fun q hq e => hn q hq (by simpa [pmE] using e))
   exact ⟨w', hrun, hmap.perm (insM_new ms mx hn).symm, hg, hs⟩
 | some m0 =>
   obtain ⟨hmem, hid⟩ := lookM_some hm
   obtain ⟨rest, r1, r2⟩ := insM_old ms mx m0 ha hmem hid
   obtain ⟨w', hrun, hmap, hg, hs⟩ := mapAs_set tcMapT keyI (h.perm r1) mx (by show Value.int .i64 m0.p.id = .int .i64 mx.p.id; rw [hid])
   exact ⟨w', hrun, hmap.perm r2.symm, hg, hs⟩
theorem set_other {W : World} {D km j : Nat} (hne : D ≠ km) (u : Value) : (W.setCell ⟨D, j, none⟩ u).heap[km]? = W.heap[km]? := by
 show (W.heap.modify D _)[km]? = _
 rw [Array.getElem?_modify, if_neg hne]
def GivesTcApply (w : World) (kt km : Nat) (l' : List Pd) (r : Option Dr) (e : Ending) (w' : World) : Prop :=
 ∃ d ms, e = .returned (.tuple #[.agg #[.int .i64 d.prod, .int .i64 d.first, .int .i64 d.last], .bool r.isSome]) ∧ r.getD Dr.zero = d ∧ TcOk w' kt km ms ∧ pds ms = l' ∧ w.grownBy w' (some km)
def TcNew (w : World) (ms0 ms : List PM) : Prop := ∀ m ∈ ms, m ∈ ms0 ∨ ∀ a, m.ad = some a → w.heap.size ≤ a.block
def GivesTcApply2 (w : World) (kt km : Nat) (ms0 : List PM) (l' : List Pd) (r : Option Dr) (e : Ending) (w' : World) : Prop :=
 ∃ d ms, e = .returned (.tuple #[.agg #[.int .i64 d.prod, .int .i64 d.first, .int .i64 d.last], .bool r.isSome]) ∧ r.getD Dr.zero = d ∧ TcOk w' kt km ms ∧ pds ms = l' ∧ w.grownBy w' (some km) ∧ TcNew w ms0 ms
theorem GivesTcApply2.less {w : World} {kt km : Nat} {ms0 : List PM} {l' : List Pd} {r : Option Dr} {e : Ending} {w' : World} (h : GivesTcApply2 w kt km ms0 l' r e w') : GivesTcApply w kt km l' r e w' := by
 obtain ⟨d, ms, h1, h2, h3, h4, h5, _⟩ := h
 exact ⟨d, ms, h1, h2, h3, h4, h5⟩
theorem resultsTcApply {tmps : Array Value} {B : Nat} {W : World} {d : Dr} {x : Value} (h : DBox W B d) (ht : tmps.getD 4 undef = .pointer (some ⟨B, 0, none⟩)) (hx : tmps.getD 5 undef = x) :
 (results Tryz.f71 tmps).run Tryz.prog W = .ok (.tuple #[.agg #[.int .i64 d.prod, .int .i64 d.first, .int .i64 d.last], x]) W := by
 rw [results_cell_tmp (p := 4) (u := 5) (ty := 116) Tryz.results71, ht]
 have hl := run_loadVar_row (P := Tryz.prog) W B 116 116 _ (0, 0) _ h Tryz.underlying116 rfl (by kernel_rfl)
 simp only [asAddr, Sem.run_pure, Result.andThen, hl, hx]
structure TcW (w : World) (km D : Nat) (ms0 ms : List PM) (W : World) : Prop where
 map : TcMap W km ms
 ins : ∀ m ∈ ms, m ∈ ms0 ∨ (LastAt W m ∧ ∀ a, m.ad = some a → a.block ≠ D ∧ w.heap.size ≤ a.block)
 gr : w.grownBy W (some km)
theorem TcW.on {w W W' : World} {km D : Nat} {ms0 ms : List PM} (h : TcW w km D ms0 ms W) (hb : Below W.heap.size W W') : TcW w km D ms0 ms W' :=
 ⟨h.map.on hb, fun m hm => (h.ins m hm).imp_right fun h2 => ⟨h2.1.keep hb, h2.2⟩, grow_below h.gr hb⟩
theorem gives_tcapply {w W : World} {kt km D : Nat} {ms0 ms : List PM} {l' : List Pd} {r : Option Dr} {d : Dr} {u0 u1 u2 : Value} {ok : Bool} (ht : TcOk w kt km ms0) (hW : TcW w km D ms0 ms W) (hD : w.heap.size ≤ D) (hl : pds ms = l') (hok : r.isSome = ok) (hd : r.getD Dr.zero = d) :
 GivesTcApply2 w kt km ms0 l' r (.returned (.tuple #[.agg #[.int .i64 d.prod, .int .i64 d.first, .int .i64 d.last], .bool ok])) (((W.setCell ⟨D, 0, none⟩ u0).setCell ⟨D, 1, none⟩ u1).setCell ⟨D, 2, none⟩ u2) := by
 subst hok
 have hkm := ht.map.lt
 have hne : D ≠ km := by omega
 have hg : w.grownBy (((W.setCell ⟨D, 0, none⟩ u0).setCell ⟨D, 1, none⟩ u1).setCell ⟨D, 2, none⟩ u2) (some km) := grow_new (grow_new (grow_new hW.gr hD _) hD _) hD _
 refine ⟨d, ms, rfl, hd, ⟨ht.box.past_map hg ht.map.is, hW.map.same ?_, fun m hm => ?_⟩, hl, hg, fun m hm => (hW.ins m hm).imp_right fun h a ha => (h.2 a ha).2⟩
 · rw [set_other hne, set_other hne, set_other hne]
 rcases hW.ins m hm with h | ⟨h, h3⟩
 · exact (ht.ins m h).past_map hg ht.map.is
 have h2 : ∀ a, m.ad = some a → a.block ≠ D := fun a ha => (h3 a ha).1
 exact ((h.off h2 _ _).off h2 _ _).off h2 _ _
theorem tcApply2_any (w : World) (kt km : Nat) (ms : List PM) (h : TcOk w kt km ms) (hasc : Asc (pds ms)) (hfew : fewP (pds ms)) (b : Bat) (rd : Option Addr) (rn rc : Nat) (hr : RecsAt w rd rn rc b.recs) (ht : TextsOk b.recs) (hrn : rn ≤ 140737488355328) (hwf : b.prod ≤ 9223372036854775807) :
 Calls Tryz.prog 71 #[.pointer (some ⟨kt, 0, none⟩), .agg #[.int .i64 b.base, .int .i64 b.prod, .int .i64 b.epoch, .int .i64 b.seq, .bool b.txn, .int .i64 b.marker, .slice rd rn rc]] w (GivesTcApply2 w kt km ms (tapplyD (pds ms) b) (tdropD (pds ms) b)) := by
 obtain ⟨b0, b1, b2, b3, b4, b5, recs⟩ := b
 simp only at hr ht hwf
 simp only
 have HT := qh h
 obtain ⟨W0, hW0⟩ : ∃ W0, W0 = ((w.alloc (.cells #[.int .i64 b0, .int .i64 b1, .int .i64 b2, .int .i64 b3, .bool b4, .int .i64 b5, .slice rd rn rc] 29)).alloc (.cells #[.int .i64 0, .int .i64 0, .int .i64 0] 116)) := ⟨_, rfl⟩
 have HB0 : Hid (Below w.heap.size w W0) := by rw [hW0]; exact (bal _ _).alloc (by simp) _
 have HX0 : Hid (BoxAt W0 w.heap.size b0 b1 b2 b3 b4 b5 (.slice rd rn rc)) := by
  show BoxAt _ _ _ _ _ _ _ _ _
  rw [hW0]
  exact (boxAt_new w b0 b1 b2 b3 b4 b5 (.slice rd rn rc)).keep (bal _ _) (by simp)
 have HD0 : Hid (DBox W0 (w.heap.size + 1) Dr.zero) := by
  show DBox _ _ _
  rw [hW0]
  have := dbox_new (w.alloc (.cells #[.int .i64 b0, .int .i64 b1, .int .i64 b2, .int .i64 b3, .bool b4, .int .i64 b5, .slice rd rn rc] 29)) Dr.zero
  rw [show (w.alloc (.cells #[.int .i64 b0, .int .i64 b1, .int .i64 b2, .int .i64 b3, .bool b4, .int .i64 b5, .slice rd rn rc] 29)).heap.size = w.heap.size + 1 by simp] at this
  exact this
 have HT0 := qh (h.keep HB0.out)
 have HRE0 := qh (hr.keep HB0.out)
 have hrl := hr.length
 have HF := qh hfew
 have HAS := qh hasc
 have HTX := qh ht
 have HW0 := qh hW0
 clear h hr hfew hW0 ht hasc
 obtain ⟨B, hB⟩ := exq w.heap.size
 obtain ⟨D, hD⟩ := exq (w.heap.size + 1)
 have HBD : Hid (w.heap.size ≤ B ∧ w.heap.size ≤ D ∧ D ≠ B) := by show _ ∧ _ ∧ _; omega
 rw [← hB] at HX0
 rw [← hD] at HD0
 obtain ⟨l, hl⟩ := exq (pds ms)
 obtain ⟨r, hre⟩ : ∃ r, rightE ⟨b0, b1, b2, b3, b4, b5, recs⟩ = r := ⟨_, rfl⟩
 have HRE := qh hre
 obtain ⟨l', hl'⟩ : ∃ l', tapplyD (pds ms) ⟨b0, b1, b2, b3, b4, b5, recs⟩ = l' := ⟨_, rfl⟩
 obtain ⟨dr, hdr⟩ : ∃ dr, tdropD (pds ms) ⟨b0, b1, b2, b3, b4, b5, recs⟩ = dr := ⟨_, rfl⟩
 rw [hl', hdr]
 have HLP := qh hl'
 have HDR := qh hdr
 clear hl' hdr hre
 go_enter Tryz.func71, Tryz.ntmps71
 go_upto_region 1 with fail
 rw [← HW0.out, ← hD, ← hB]
 clear hB hD HW0
 obtain ⟨p0, p1, p2, p3, p4, p5, p6⟩ := HX0.out.cs
 go_wp2_with fail
 have CR := batRight_any W0 ⟨b0, b1, b2, b3, b4, b5, recs⟩ rd rn rc HRE0.out HTX.out hrn
 rw [HRE.out] at CR
 refine CR.mono ?_
 clear CR
 rintro e w1 ⟨rfl, hb1⟩
 have HB1 := qh (HB0.out.trans (hb1.mono HB0.out.size))
 have HX1 := qh (HX0.out.on hb1)
 have HD1 := qh (HD0.out.on hb1)
 have HT1 := qh (HT0.out.keep hb1)
 clear hb1 HX0 HD0 HT0 p0 p1 p2 p3 p4 p5 p6
 have p1 := HX1.out.c1
 by_cases hz : r = 0 ∧ b1 ≠ -1
 rotate_left
 · have hor : rightE ⟨b0, b1, b2, b3, b4, b5, recs⟩ ≠ 0 ∨ (⟨b0, b1, b2, b3, b4, b5, recs⟩ : Bat).prod < 0 := by
    rw [HRE.out]
    show r ≠ 0 ∨ b1 < 0
    omega
   have HLN : Hid (pds ms = l') := by show _ = _; rw [← HLP.out, tapply_no hor]
   have HDN : Hid (dr = none) := by
    show _ = _
    rw [← HDR.out]
    unfold tdropD
    rw [if_pos hor]
   have HW1 : Hid (TcW w km D ms ms w1) := ⟨HT1.out.map, fun m hm => .inl hm, grow_below (grow_refl w _) HB1.out⟩
   have r0 := HD1.out.c0
   have r1 := HD1.out.c1
   have r2 := HD1.out.c2
   have f0 := HD1.out.free 0
   have f1 := HD1.out.free 1
   have f2 := HD1.out.free 2
   have hDw : w.heap.size ≤ D := HBD.out.2.1
   clear hor
   by_cases hz1 : r = 0
   · have hd : (r != 0) = false := by rw [hz1]; rfl
     have hn : b1 = -1 := Classical.byContradiction fun h => hz ⟨hz1, h⟩
     have hd2 : (b1 == -1) = true := by rw [hn]; rfl
     clear hz hz1 hn
     go_wp2
     exact bodyPost_ret (v := .tuple #[.agg #[.int .i64 0, .int .i64 0, .int .i64 0], .bool false]) (resultsTcApply (HD1.out.s 0 0 0) rfl rfl) rfl (gives_tcapply (d := ⟨0, 0, 0⟩) HT.out HW1.out hDw HLN.out (by rw [HDN.out]; rfl) (by rw [HDN.out]; rfl))
   have hd : (r != 0) = true := by simp [hz1]
   clear hz hz1
   go_wp2
   exact bodyPost_ret (v := .tuple #[.agg #[.int .i64 0, .int .i64 0, .int .i64 0], .bool false]) (resultsTcApply (HD1.out.s 0 0 0) rfl rfl) rfl (gives_tcapply (d := ⟨0, 0, 0⟩) HT.out HW1.out hDw HLN.out (by rw [HDN.out]; rfl) (by rw [HDN.out]; rfl))
 obtain ⟨hz1, hz2⟩ := hz
 have hd : (r != 0) = false := by rw [hz1]; rfl
 have hd2 : (b1 == -1) = false := beq_false_of_ne hz2
 have HRR : Hid (rightE ⟨b0, b1, b2, b3, b4, b5, recs⟩ = 0) := by show _ = _; rw [HRE.out, hz1]
 have hn0 : 0 ≤ b1 := by
  rcases right_prod HRR.out with h | h
  · exact absurd h hz2
  exact h
 obtain ⟨p, kn, pd, pn, pc, hp, hk, hn5, hlk, _, hrow⟩ := tc_look ms b1 (by omega) hwf HF.out
 have HLQ : Hid (l' = insD (pds ms) (applyD p kn ⟨b0, b1, b2, b3, b4, b5, recs⟩)) := by
  show _ = _
  rw [← HLP.out, tapply_ins HAS.out _ HRR.out hn0, ← hp, ← hk]
 have HDQ : Hid (dr = if (kn && (decide (b5 = 2) && decide (0 ≤ p.opn))) = true then some ⟨b1, p.opn, b0⟩ else none) := by
  show _ = _
  have h3 := has_look HAS.out b1
  rw [← HDR.out]
  unfold tdropD
  rw [if_neg (by rw [HRR.out]; show ¬ (0 ≠ 0 ∨ b1 < 0); omega)]
  unfold dropsB
  show (if (hasD (pds ms) b1 && (decide (b5 = 2) && decide (0 ≤ (getD (pds ms) b1).opn))) = true then some (⟨b1, (getD (pds ms) b1).opn, b0⟩ : Dr) else none) = _
  rw [h3.1, h3.2, hp, hk]
 have HLK := qh hlk
 have HRO := qh hrow
 have KS : Hid (∀ V, Below w1.heap.size w1 V → (fun (V : World) => V.cell? ⟨kt, 0, none⟩ = some (.map (some km)) ∧ V.cell? ⟨B, 1, none⟩ = some (.int .i64 b1) ∧ TcMap V km ms) V) := fun V hV => ⟨(HT1.out.keep hV).box.c0, (HX1.out.on hV).c1, (HT1.out.keep hV).map⟩
 have hdrw : Below w1.heap.size w1 w1.drew := (Below.refl _ w1).drew
 clear hz1 hz2 hp hk hlk hrow HLP HDR
 obtain ⟨pid, pep, pl, po⟩ := p
 simp only at HLQ HDQ HLK HRO
 go_upto_region 3 with fail
 clear p1
 refine wp_region_noPanic ?_
 refine zk [] KS ?_
 have hHeld := KS.out _ hdrw
 obtain ⟨u0, hu0⟩ := exq w1.drew
 rw [← hu0] at hHeld hdrw
 rw [← hu0]
 clear hu0
 have HU0 := qh hdrw
 clear hdrw
 refine zt 0 ?_
 refine zt 1 ?_
 refine zt 2 ?_
 refine zt 3 ?_
 refine zt 4 ?_
 refine zt 5 ?_
 refine wpAnyZ_take (i := 6) (oi := ⟨_, _, _, _, _, _⟩) (v := ?_) rfl (by kernel_rfl) (by kernel_rfl) (by kernel_rfl) (by kernel_rfl) (by kernel_rfl) (fun _ _ _ h => h) (Or.inl ⟨by rfl, ?_⟩) (by assumption) ?_
 rotate_left
 · intro W hSw
   (try dsimp only at hSw)
   have hlk := HLK.out W km hSw.2.2
   go_simp
   (try with_reducible rfl)
 (try simp only [Act.put, List.setIfInBounds_toArray, List.set_cons_zero, List.set_cons_succ])
 refine zt 7 ?_
 refine zt 8 ?_
 refine zt 9 ?_
 refine zr 10 (fun C hC => ?_)
 go_simp
 obtain ⟨u1, hu1⟩ := exq (u0.alloc (.cells #[.int .i64 0, .int .i64 0, .slice none 0 0, .int .i64 0] 58))
 obtain ⟨P, hP⟩ := exq u0.heap.size
 have HP1 : Hid (PBox u1 P 0 0 (.slice none 0 0) 0) := by rw [hu1, hP]; exact pbox_new u0 _ _ _ _
 have HU1 : Hid (Below w1.heap.size w1 u1) := by rw [hu1]; exact HU0.out.trans ((Below.refl _ _).alloc HU0.out.size _)
 have HPW : Hid (w1.heap.size ≤ P) := by show _ ≤ _; rw [hP]; exact HU0.out.size
 try rw [← hu1, ← hP]
 clear hu1 hP
 have hHeld := KS.out _ HU1.out
 refine zc hC hHeld ?_
 clear hC C
 have r0 := HP1.out.c0
 have r1 := HP1.out.c1
 have r2 := HP1.out.c2
 have r3 := HP1.out.c3
 have f0 := HP1.out.free 0
 have f1 := HP1.out.free 1
 have f2 := HP1.out.free 2
 have f3 := HP1.out.free 3
 refine zr 11 (fun C hC => ?_)
 go_simp
 obtain ⟨u2, hu2⟩ : ∃ z, z = (((u1.setCell ⟨P, 0, none⟩ (.int .i64 pid)).setCell ⟨P, 1, none⟩ (.int .i64 pep)).setCell ⟨P, 2, none⟩ (.slice pd pn pc)).setCell ⟨P, 3, none⟩ (.int .i64 po) := ⟨_, rfl⟩
 have HP2 : Hid (PBox u2 P pid pep (.slice pd pn pc) po) := by rw [hu2]; exact (((HP1.out.s0 pid).s1 pep).s2 (.slice pd pn pc)).s3 po
 have HU2 : Hid (Below w1.heap.size w1 u2) := by rw [hu2]; exact (((HU1.out.setCell HPW.out _).setCell HPW.out _).setCell HPW.out _).setCell HPW.out _
 try rw [← hu2]
 clear hu2 r0 r1 r2 r3 f0 f1 f2 f3 HP1
 have hHeld := KS.out _ HU2.out
 refine zc hC hHeld ?_
 clear hC C
 refine zt 12 ?_
 refine zd ?_
 clear hHeld KS HU0 HU1
 have HB2 := qh (HB1.out.trans (HU2.out.mono HB1.out.size))
 have HX2 := qh (HX1.out.on HU2.out)
 have HD2 := qh (HD1.out.on HU2.out)
 have HT2 := qh (HT1.out.keep HU2.out)
 have HRW2 := qh (HRO.out u2 HT2.out.ins)
 have HPB : Hid (w.heap.size ≤ P) := Nat.le_trans HB1.out.size HPW.out
 have HPD : Hid (P ≠ D ∧ P ≠ B) := by
  have h1 := HD1.out.lt
  have h2 := HX1.out.lt
  have h3 := HPW.out
  show _ ∧ _
  omega
 obtain ⟨x, hx⟩ : ∃ x, applyD ⟨pid, pep, pl, po⟩ kn ⟨b0, b1, b2, b3, b4, b5, recs⟩ = x := ⟨_, rfl⟩
 have HAP := qh hx
 have hxid : x.id = b1 := by rw [← hx, apply_id]
 have HXI := qh hxid
 clear hx hxid HX1 HD1 HT1 HU2 HPW HRO HLK
 have KS : Hid (∀ V, Below u2.heap.size u2 V → (fun (V : World) => V.cell? ⟨kt, 0, none⟩ = some (.map (some km)) ∧ V.cell? ⟨P, 0, none⟩ = some (.int .i64 pid) ∧ V.cell? ⟨P, 1, none⟩ = some (.int .i64 pep) ∧ V.cell? ⟨P, 2, none⟩ = some (.slice pd pn pc) ∧ V.cell? ⟨P, 3, none⟩ = some (.int .i64 po) ∧ V.cell? ⟨B, 0, none⟩ = some (.int .i64 b0) ∧ V.cell? ⟨B, 1, none⟩ = some (.int .i64 b1) ∧ V.cell? ⟨B, 2, none⟩ = some (.int .i64 b2) ∧ V.cell? ⟨B, 3, none⟩ = some (.int .i64 b3) ∧ V.cell? ⟨B, 4, none⟩ = some (.bool b4) ∧ V.cell? ⟨B, 5, none⟩ = some (.int .i64 b5) ∧ V.cell? ⟨B, 6, none⟩ = some (.slice rd rn rc)) V) := fun V hV => ⟨(HT2.out.keep hV).box.c0, (HP2.out.on hV).c0, (HP2.out.on hV).c1, (HP2.out.on hV).c2, (HP2.out.on hV).c3, (HX2.out.on hV).c0, (HX2.out.on hV).c1, (HX2.out.on hV).c2, (HX2.out.on hV).c3, (HX2.out.on hV).c4, (HX2.out.on hV).c5, (HX2.out.on hV).c6⟩
 have hdrw : Below u2.heap.size u2 u2.drew := (Below.refl _ u2).drew
 go_upto_region 4 with fail
 refine wp_region_noPanic ?_
 refine zk [10] KS ?_
 have hHeld := KS.out _ hdrw
 obtain ⟨u3, hu3⟩ := exq u2.drew
 rw [← hu3] at hHeld hdrw
 rw [← hu3]
 clear hu3
 have HU3 := qh hdrw
 clear hdrw
 refine zt 0 ?_
 refine zt 1 ?_
 refine zt 2 ?_
 refine zt 3 ?_
 refine zt 4 ?_
 refine zt 5 ?_
 refine zt 6 ?_
 refine zt 7 ?_
 refine zt 8 ?_
 refine zr 9 (fun C hC => ?_)
 go_simp
 refine (prApply_any u3 pid pep po pl pd pn pc (HRW2.out.keep HU3.out) (by omega) kn b0 b1 b2 b3 b4 b5 recs rd rn rc hrl hrn x HAP.out).mono ?_
 rintro e u4 ⟨xd, xn, xc, rfl, hxr, hxk, hb4⟩
 have hxn := hxr.length
 have HU4 := qh (HU3.out.trans (hb4.mono HU3.out.size))
 have HXR4 := qh hxr
 have HXK : Hid (∀ a, xd = some a → u2.heap.size ≤ a.block) := fun a ha => Nat.le_trans HU3.out.size (hxk a ha).1
 clear hb4 hxr hxk
 have hHeld := KS.out _ HU4.out
 refine zc hC hHeld ?_
 clear hC C
 have hT4 := HT2.out.keep HU4.out
 obtain ⟨u5, hput, hmap5, hg5, hs5⟩ := tc_put hT4.map HAS.out ⟨x, xd, xc⟩ b1 HXI.out (by omega) hwf
 simp only at hput
 rw [hxn] at hput
 have HXN := qh hxn
 have hkm := HT.out.map.lt
 have HKM : Hid (km ≠ D ∧ km ≠ B ∧ km ≠ P) := by
  have h1 := HBD.out
  have h2 := HPB.out
  show _ ∧ _ ∧ _
  omega
 have HD5 : Hid (DBox u5 D Dr.zero) := (HD2.out.on HU4.out).grown hg5 fun e => HKM.out.1 (Option.some.inj e)
 have HX5 : Hid (BoxAt u5 B b0 b1 b2 b3 b4 b5 (.slice rd rn rc)) := (HX2.out.on HU4.out).grows hg5 fun e => HKM.out.2.1 (Option.some.inj e)
 have HP5 : Hid (PBox u5 P pid pep (.slice pd pn pc) po) := (HP2.out.on HU4.out).grown hg5 fun e => HKM.out.2.2 (Option.some.inj e)
 have HW5 : Hid (TcW w km D ms (insM ms ⟨x, xd, xc⟩) u5) := by
  refine ⟨hmap5, fun m hm => ?_, grow_trans (grow_below (grow_refl w _) (HB2.out.trans (HU4.out.mono HB2.out.size))) hg5⟩
  rcases insM_mem _ _ _ hm with rfl | hm
  rotate_left
  · exact .inl hm
  refine .inr ⟨?_, fun a ha => ?_⟩
  · have h1 := HXR4.out.past_map hg5 hT4.map.is
    show RowAt trK u5 xd x.last.length xc x.last
    rw [HXN.out]
    exact h1
  have h1 := HXK.out a ha
  have h2 := HD2.out.lt
  have h3 := HB2.out.size
  exact ⟨by omega, by omega⟩
 have HPL : Hid (pds (insM ms ⟨x, xd, xc⟩) = l') := by show _ = _; rw [insM_pds, HLQ.out, HAP.out]
 clear hT4 hmap5 hg5 hs5 hxn hkm
 refine zr 10 (fun C hC => ?_)
 go_simp
 refine zl hC ?_
 clear hC C
 refine zd ?_
 clear hHeld KS hput
 clear HT2 HRW2 HF HAS HRE0 HTX HB0 HB1 HB2 HX2 HD2 HP2
 have r0 := HD5.out.c0
 have r1 := HD5.out.c1
 have r2 := HD5.out.c2
 have f0 := HD5.out.free 0
 have f1 := HD5.out.free 1
 have f2 := HD5.out.free 2
 have p5 := HX5.out.c5
 have hDw : w.heap.size ≤ D := HBD.out.2.1
 by_cases hm : b5 = 2
 rotate_left
 · have hd5 : (b5 != 2) = true := by simp [hm]
   have HDN : Hid (dr = none) := by show _ = _; rw [HDQ.out, if_neg (by simp [hm])]
   clear HDQ HLQ hm
   go_wp2
   exact bodyPost_ret (v := .tuple #[.agg #[.int .i64 0, .int .i64 0, .int .i64 0], .bool false]) (resultsTcApply (HD5.out.s 0 0 0) rfl rfl) rfl (gives_tcapply (d := ⟨0, 0, 0⟩) HT.out HW5.out hDw HPL.out (by rw [HDN.out]; rfl) (by rw [HDN.out]; rfl))
 have hd5 : (b5 != 2) = false := by rw [hm]; rfl
 cases kn
 · have HDN : Hid (dr = none) := by show _ = _; rw [HDQ.out]; rfl
   clear HDQ HLQ hm
   go_wp2
   exact bodyPost_ret (v := .tuple #[.agg #[.int .i64 0, .int .i64 0, .int .i64 0], .bool false]) (resultsTcApply (HD5.out.s 0 0 0) rfl rfl) rfl (gives_tcapply (d := ⟨0, 0, 0⟩) HT.out HW5.out hDw HPL.out (by rw [HDN.out]; rfl) (by rw [HDN.out]; rfl))
 have q0 := HP5.out.c0
 have q1 := HP5.out.c1
 have q2 := HP5.out.c2
 have q3 := HP5.out.c3
 by_cases ho : 0 ≤ po
 · have HDN : Hid (dr = some ⟨b1, po, b0⟩) := by show _ = _; rw [HDQ.out, if_pos (by simp [hm, ho])]
   have HO : Hid (decide (0 ≤ po) = true) := decide_eq_true ho
   clear HDQ HLQ hm ho
   go_wp2_with fail
   refine (tcOpen_any u5 pid pep po pd pn pc true HO.out).mono ?_
   rintro e w6 ⟨rfl, hb6⟩
   have HD6 := qh (HD5.out.on hb6)
   have HX6 := qh (HX5.out.on hb6)
   have HP6 := qh (HP5.out.on hb6)
   have HW6 := qh (HW5.out.on hb6)
   clear hb6 HD5 HX5 HP5 HW5 r0 r1 r2 f0 f1 f2 p5 q0 q1 q2 q3
   have r0 := HD6.out.c0
   have r1 := HD6.out.c1
   have r2 := HD6.out.c2
   have f0 := HD6.out.free 0
   have f1 := HD6.out.free 1
   have f2 := HD6.out.free 2
   have p0 := HX6.out.c0
   have p1 := HX6.out.c1
   have q3 := HP6.out.c3
   go_wp2
   exact bodyPost_ret (v := .tuple #[.agg #[.int .i64 b1, .int .i64 po, .int .i64 b0], .bool true]) (resultsTcApply (HD6.out.s b1 po b0) rfl rfl) rfl (gives_tcapply (d := ⟨b1, po, b0⟩) HT.out HW6.out hDw HPL.out (by rw [HDN.out]; rfl) (by rw [HDN.out]; rfl))
 have HDN : Hid (dr = none) := by show _ = _; rw [HDQ.out, if_neg (by simp [ho])]
 have HO : Hid (decide (0 ≤ po) = false) := decide_eq_false ho
 clear HDQ HLQ hm ho
 go_wp2_with fail
 refine (tcOpen_any u5 pid pep po pd pn pc false HO.out).mono ?_
 rintro e w6 ⟨rfl, hb6⟩
 have HD6 := qh (HD5.out.on hb6)
 have HW6 := qh (HW5.out.on hb6)
 clear hb6 HD5 HX5 HP5 HW5 r0 r1 r2 f0 f1 f2 p5 q0 q1 q2 q3
 have r0 := HD6.out.c0
 have r1 := HD6.out.c1
 have r2 := HD6.out.c2
 have f0 := HD6.out.free 0
 have f1 := HD6.out.free 1
 have f2 := HD6.out.free 2
 go_wp2
 exact bodyPost_ret (v := .tuple #[.agg #[.int .i64 0, .int .i64 0, .int .i64 0], .bool false]) (resultsTcApply (HD6.out.s 0 0 0) rfl rfl) rfl (gives_tcapply (d := ⟨0, 0, 0⟩) HT.out HW6.out hDw HPL.out (by rw [HDN.out]; rfl) (by rw [HDN.out]; rfl))
theorem tcApply_any (w : World) (kt km : Nat) (ms : List PM) (h : TcOk w kt km ms) (hasc : Asc (pds ms)) (hfew : fewP (pds ms)) (b : Bat) (rd : Option Addr) (rn rc : Nat) (hr : RecsAt w rd rn rc b.recs) (ht : TextsOk b.recs) (hrn : rn ≤ 140737488355328) (hwf : b.prod ≤ 9223372036854775807) :
 Calls Tryz.prog 71 #[.pointer (some ⟨kt, 0, none⟩), .agg #[.int .i64 b.base, .int .i64 b.prod, .int .i64 b.epoch, .int .i64 b.seq, .bool b.txn, .int .i64 b.marker, .slice rd rn rc]] w (GivesTcApply w kt km (tapplyD (pds ms) b) (tdropD (pds ms) b)) := (tcApply2_any w kt km ms h hasc hfew b rd rn rc hr ht hrn hwf).mono fun e w' h => h.less
def GivesTcFold (w : World) (bs : List Bat) (e : Ending) (w' : World) : Prop :=
 ∃ kt km ps, e = .returned (.pointer (some ⟨kt, 0, none⟩)) ∧ TcOk w' kt km ps ∧ pds ps = foldP [] bs ∧ w.heap.size ≤ kt ∧ w.heap.size ≤ km ∧ Below w.heap.size w w'
theorem tcFold_any (w : World) (ad : Option Addr) (len cap : Nat) (ms : List BM) (h : BatsAt w ad len cap ms) (hL : len ≤ 100000) (hok : BatsOk (bats ms)) :
 Calls Tryz.prog 88 #[.slice ad len cap] w (GivesTcFold w (bats ms)) := by
 have H := qh h
 have hlen := h.row.length
 obtain ⟨bs, hbs⟩ := exq (bats ms)
 have hbl : bs.length = len := by rw [hbs]; unfold bats; rw [List.length_map]; exact hlen
 have HGET : Hid (∀ (i : Nat) m, ms[i]? = some m → bs[i]? = some m.b) := by
  intro i m hm
  rw [hbs]; unfold bats
  rw [List.getElem?_map, hm]; rfl
 rw [← hbs] at hok
 rw [← hbs]
 have HOK := qh hok
 have HBL := qh hbl
 clear h hbs hlen hok hbl
 go_enter Tryz.func88, Tryz.ntmps88
 go_wp2_with fail
 refine (tcNew_any w).mono ?_
 rintro e w1 ⟨kt, km, rfl, ht1, hb1, hk1, hk2⟩
 have HT1 := qh ht1
 have HB1 := qh hb1
 have HKT : Hid (w.heap.size ≤ kt ∧ w.heap.size ≤ km) := ⟨hk1, hk2⟩
 clear ht1 hb1 hk1 hk2
 go_wp2
 go_loopw [9] (fun v9 wr => ∃ j ps, v9 = .int .i64 ((j : Nat) : Int) ∧ j ≤ len ∧ Hid (TcOk wr kt km ps) ∧ Hid (pds ps = foldP [] (bs.take j)) ∧ Hid (Below w.heap.size w wr)) (fun v9 _ => len - (intOf v9).toNat)
 case atStart => exact ⟨0, [], rfl, Nat.zero_le _, HT1.out, rfl, HB1.out⟩
 obtain ⟨j, ps, rfl, hj, HT, HPS, HB⟩ := hrel
 clear HT1 HB1
 obtain ⟨wo, hwo⟩ := exq wr
 subst hwo
 by_cases hlt : j < len
 rotate_left
 · have hd : decide (j < len) = false := decide_eq_false hlt
   have hjl : j = len := by omega
   have HFIN : Hid (pds ps = foldP [] bs) := by
    show _ = _
    rw [HPS.out, hjl, ← HBL.out, List.take_length]
   clear HPS hjl
   go_wp2
   go_ret
   exact ⟨kt, km, ps, rfl, HT.out, HFIN.out, HKT.out.1, HKT.out.2, HB.out⟩
 have hd : decide (j < len) = true := decide_eq_true hlt
 have hjl : (j : Int) < (len : Int) := by omega
 obtain ⟨bk, off, m, rfl, hbk, hm, hrec, c0, c1, c2, c3, c4, c5, c6⟩ := (H.out.keep HB.out).get hlt
 have hbm := HGET.out j m hm
 have htk : bs.take (j + 1) = bs.take j ++ [m.b] := by
  rw [List.take_add_one, hbm]; rfl
 have HTK := qh htk
 obtain ⟨hk1, hk2, hk3⟩ := HOK.out m.b (List.mem_of_getElem? hbm)
 have HK1 := qh hk1
 have HFEW : Hid (fewP (pds ps)) := by rw [HPS.out]; exact foldP_few _ (fun p hp => by cases hp)
 have HASC : Hid (Asc (pds ps)) := by rw [HPS.out]; exact fold_asc _ asc_nil
 have HRC := qh hrec
 clear hbm htk hk1 hm hrec hbk
 go_upto_region 5 with fail
 obtain ⟨W1, hW1⟩ := exq (wo.alloc (.cells #[.int .i64 m.b.base, .int .i64 m.b.prod, .int .i64 m.b.epoch, .int .i64 m.b.seq, .bool m.b.txn, .int .i64 m.b.marker, .slice m.ad m.b.recs.length m.cap] 29))
 have hb1 := wbq hW1
 obtain ⟨K, hK⟩ := exq wo.heap.size
 have HX1 := bxq hW1 hK
 have HT1 := qh (HT.out.keep hb1)
 have HB1 := qh (HB.out.trans (hb1.mono HB.out.size))
 have HRC1 := qh (HRC.out.keep hb1)
 rw [← hW1, ← hK]
 clear hW1 hb1 hK c0 c1 c2 c3 c4 c5 c6
 obtain ⟨p0, p1, p2, p3, p4, p5, p6⟩ := HX1.out.cs
 obtain ⟨l', hl'⟩ : ∃ l', tapplyD (pds ps) m.b = l' := ⟨_, rfl⟩
 obtain ⟨dr, hdr⟩ : ∃ dr, tdropD (pds ps) m.b = dr := ⟨_, rfl⟩
 have CA := tcApply_any W1 kt km ps HT1.out HASC.out HFEW.out m.b m.ad m.b.recs.length m.cap HRC1.out HK1.out hk3 hk2
 rw [hl', hdr] at CA
 have CAH := qh CA
 have HP2 : Hid (l' = foldP [] (bs.take (j + 1))) := by show _ = _; rw [HTK.out, foldP_snoc, ← HPS.out, hl']
 clear CA hl' hdr HPS HTK HFEW HASC HK1
 go_wp2_with fail
 refine CAH.out.mono ?_
 rintro e w2 ⟨d, ps2, rfl, hdd, ht2, hp2, hg2⟩
 have HT2 := qh ht2
 have HP3 : Hid (pds ps2 = foldP [] (bs.take (j + 1))) := by show _ = _; rw [hp2, HP2.out]
 have HB2 : Hid (Below w.heap.size w w2) := HB1.out.trans (below_grown hg2 HKT.out.2 HB1.out.size)
 clear ht2 hp2 hg2 CAH p0 p1 p2 p3 p4 p5 p6 HT1 HX1 HP2 hdd HT HB HRC
 go_wp2
 go_roundw
 case rel => exact ⟨j + 1, ps2, rfl, by omega, HT2.out, HP3.out, HB2.out⟩
 simp [intOf]; omega
theorem cells_iterAs {α : Type} {P : Program} {t : TypeId} {f : α → Value × Value} {w : World} {km r k : Nat} {ps dn lf : List α} {cs : Array Value} {ty : TypeId} {fr : Nat × Nat} (hr : RangeAs P t f w km r ps dn lf) (hk : w.heap[k]? = some (.cells cs ty fr)) : k ≠ r := fun e => by
 obtain ⟨es, clock, since, seen, c0, _, _, _, _, h1, _⟩ := hr
 rw [e, h1] at hk
 cases hk
def GivesTcOpen (w : World) (l : List Pd) (e : Ending) (w' : World) : Prop := ∃ v, IsLeast l v ∧ e = .returned (.tuple #[.int .i64 v, .bool (v != -1)]) ∧ Below w.heap.size w w'
theorem tcOpens_any (w : World) (kt km : Nat) (ms : List PM) (h : TcOk w kt km ms) :
 Calls Tryz.prog 89 #[.pointer (some ⟨kt, 0, none⟩)] w (GivesTcOpen w (pds ms)) := by
 have H := qh h
 have t0 := h.box.c0
 obtain ⟨w2, hrange, hrg, hb2, hs2⟩ := mapAs_range (P := Tryz.prog) tcMapT h.map
 obtain ⟨rr, hrr⟩ := exq w.heap.size
 rw [← hrr] at hrange hrg
 have HRR : Hid (rr = w.heap.size) := hrr
 have HRG2 := qh hrg
 have HB2 := qh hb2
 clear h hrg hb2 hs2 hrr
 go_enter Tryz.func89, Tryz.ntmps89
 go_wp2_with fail
 clear hrange t0
 go_loopw [4] (fun v4 wr => ∃ v dn lf, v4 = .int .i64 v ∧ Hid (RangeAs Tryz.prog 2 pmE wr km rr ms dn lf) ∧ Hid (IsLeast (pds dn) v) ∧ Hid (Below w.heap.size w wr)) (fun _ wr => wr.rangeLeft km rr)
 case atStart => exact ⟨-1, [], ms, rfl, HRG2.out, least_nil, HB2.out⟩
 obtain ⟨v, dn, lf, rfl, HRG, HLE, HBL⟩ := hrel
 obtain ⟨w4, hw4⟩ := exq wr
 subst hw4
 clear HRG2 HB2
 rcases mapAs_next (P := Tryz.prog) HRG.out 0 with ⟨hl0, hnext⟩ | ⟨p, lf', w5, hlp, hpm, hnext, hrg5, hg5, hs5, hen⟩
 · have HLF : Hid (lf = []) := hl0
   clear hl0
   go_wp2
   go_ret2
   have h1 := HRG.out.all
   rw [HLF.out, List.append_nil] at h1
   exact ⟨v, least_perm HLE.out (h1.symm.map _), rfl, HBL.out⟩
 simp only [pmE] at hnext hen
 have HRG5 := qh hrg5
 have HCNT := qh HRG.out.count
 have HCNTN := qh hlp.length_eq
 have HB5 : Hid (Below w.heap.size w w5) := HBL.out.trans (below_grown hg5 (Nat.le_of_eq HRR.out.symm) HBL.out.size)
 obtain ⟨⟨pid, pep, pl, po⟩, pd, pc⟩ := p
 simp only at hnext hen
 obtain ⟨pn, hpn⟩ := exq pl.length
 rw [← hpn] at hnext hen
 clear hlp hrg5 hg5 hs5 hpm hpn HBL HRG
 go_upto_region 5 with fail
 obtain ⟨W6, hW6⟩ := exq (w5.alloc (.cells #[.int .i64 pid, .int .i64 pep, .slice pd pn pc, .int .i64 po] 58))
 have hb := wbq hW6
 obtain ⟨P, hP⟩ := exq w5.heap.size
 have HP6 : Hid (PBox W6 P pid pep (.slice pd pn pc) po) := by rw [hW6, hP]; exact pbox_new w5 _ _ _ _
 have HR6 := qh (HRG5.out.on hb)
 have HB6 := qh (HB5.out.trans (hb.mono HB5.out.size))
 rw [← hW6, ← hP]
 clear hW6 hP hb hnext hen HRG5 HB5
 have q0 := HP6.out.c0
 have q1 := HP6.out.c1
 have q2 := HP6.out.c2
 have q3 := HP6.out.c3
 by_cases ho : 0 ≤ po
 rotate_left
 · have HO : Hid (decide (0 ≤ po) = false) := decide_eq_false ho
   have HL2 : Hid (IsLeast (pds (dn ++ [⟨⟨pid, pep, pl, po⟩, pd, pc⟩])) v) := by
    show IsLeast _ _
    have := least_skip (p := ⟨pid, pep, pl, po⟩) HLE.out (.inl (by show po < 0; omega))
    unfold pds at this ⊢
    rw [List.map_append]
    exact this
   clear ho
   go_wp2_with fail
   refine (tcOpen_any W6 pid pep po pd pn pc false HO.out).mono ?_
   rintro e w7 ⟨rfl, hb7⟩
   have HR7 := qh (HR6.out.on hb7)
   have HB7 := qh (HB6.out.trans (hb7.mono HB6.out.size))
   clear hb7 q0 q1 q2 q3 HP6 HR6 HB6
   go_wp2
   go_roundw
   case rel => exact ⟨v, _, lf', rfl, HR7.out, HL2.out, HB7.out⟩
   rw [HR7.out.count, HCNT.out, HCNTN.out]
   simp
 have HO : Hid (decide (0 ≤ po) = true) := decide_eq_true ho
 have HOO := qh ho
 clear ho
 go_wp2_with fail
 refine (tcOpen_any W6 pid pep po pd pn pc true HO.out).mono ?_
 rintro e w7 ⟨rfl, hb7⟩
 have HP7 := qh (HP6.out.on hb7)
 have HR7 := qh (HR6.out.on hb7)
 have HB7 := qh (HB6.out.trans (hb7.mono HB6.out.size))
 clear hb7 q0 q1 q2 q3 HP6 HR6 HB6
 have q3 := HP7.out.c3
 by_cases hv : v = -1
 · have hd : (v == -1) = true := by rw [hv]; rfl
   have HL2 : Hid (IsLeast (pds (dn ++ [⟨⟨pid, pep, pl, po⟩, pd, pc⟩])) po) := by
    show IsLeast _ _
    have := least_take (p := ⟨pid, pep, pl, po⟩) HLE.out HOO.out (.inl hv)
    unfold pds at this ⊢
    rw [List.map_append]
    exact this
   clear hv
   go_wp2
   go_roundw
   case rel => exact ⟨po, _, lf', rfl, HR7.out, HL2.out, HB7.out⟩
   rw [HR7.out.count, HCNT.out, HCNTN.out]
   simp
 have hd : (v == -1) = false := beq_false_of_ne hv
 by_cases hlt : po < v
 · have hd2 : decide (po < v) = true := decide_eq_true hlt
   have HL2 : Hid (IsLeast (pds (dn ++ [⟨⟨pid, pep, pl, po⟩, pd, pc⟩])) po) := by
    show IsLeast _ _
    have := least_take (p := ⟨pid, pep, pl, po⟩) HLE.out HOO.out (.inr (Int.le_of_lt hlt))
    unfold pds at this ⊢
    rw [List.map_append]
    exact this
   clear hv hlt
   go_wp2
   go_roundw
   case rel => exact ⟨po, _, lf', rfl, HR7.out, HL2.out, HB7.out⟩
   rw [HR7.out.count, HCNT.out, HCNTN.out]
   simp
 have hd2 : decide (po < v) = false := decide_eq_false hlt
 have HL2 : Hid (IsLeast (pds (dn ++ [⟨⟨pid, pep, pl, po⟩, pd, pc⟩])) v) := by
  show IsLeast _ _
  have := least_skip (p := ⟨pid, pep, pl, po⟩) HLE.out (.inr ⟨hv, by show v ≤ po; omega⟩)
  unfold pds at this ⊢
  rw [List.map_append]
  exact this
 clear hv hlt
 go_wp2
 go_roundw
 case rel => exact ⟨v, _, lf', rfl, HR7.out, HL2.out, HB7.out⟩
 rw [HR7.out.count, HCNT.out, HCNTN.out]
 simp
theorem prRefSame_any (w : World) (id ep op : Int) (last : List Tr) (ad : Option Addr) (n cap : Nat) (hl : RowAt trK w ad n cap last) (am : Option Addr) (cm : Nat) (hm : RowAt trK w am n cm last) (hn : n ≤ 100000000000) :
 Calls Tryz.prog 52 #[.agg #[.int .i64 id, .int .i64 ep, .slice ad n cap, .int .i64 op], .agg #[.int .i64 id, .int .i64 ep, .slice am n cm, .int .i64 op]] w (GivesBool w true) := by
 obtain ⟨W0, hW0⟩ : ∃ W0, W0 = ((w.alloc (.cells #[.int .i64 id, .int .i64 ep, .slice ad n cap, .int .i64 op] 58)).alloc (.cells #[.int .i64 id, .int .i64 ep, .slice am n cm, .int .i64 op] 58)) := ⟨_, rfl⟩
 have HB0 : Hid (Below w.heap.size w W0) := by rw [hW0]; exact (bal _ _).alloc (by simp) _
 have HP0 : Hid (PBox W0 w.heap.size (id) (ep) (.slice ad n cap) (op)) := by
  show PBox _ w.heap.size (id) (ep) (.slice ad n cap) (op)
  rw [hW0]
  have h1 := pbox_new w (id) (ep) (.slice ad n cap) (op)
  have h2 := h1.on (bal _ (.cells #[.int .i64 id, .int .i64 ep, .slice am n cm, .int .i64 op] 58))
  simpa using h2
 have HP1 : Hid (PBox W0 (w.heap.size + 1) (id) (ep) (.slice am n cm) (op)) := by
  show PBox _ (w.heap.size + 1) (id) (ep) (.slice am n cm) (op)
  rw [hW0]
  have h1 := pbox_new (w.alloc (.cells #[.int .i64 id, .int .i64 ep, .slice ad n cap, .int .i64 op] 58)) (id) (ep) (.slice am n cm) (op)
  simpa using h1
 have HW0 := qh hW0
 clear hW0
 obtain ⟨B1, hB1⟩ := exq w.heap.size
 obtain ⟨B2, hB2⟩ := exq (w.heap.size + 1)
 rw [← hB1] at HP0
 rw [← hB2] at HP1
 go_enter Tryz.func52, Tryz.ntmps52
 go_upto_region 1 with fail
 rw [← HW0.out, ← hB2, ← hB1]
 clear HW0 hB1 hB2
 have HL0 := qh (hl.keep HB0.out)
 have HM0 := qh (hm.keep HB0.out)
 clear hl hm
 have q0 := HP0.out.c0
 have q1 := HP0.out.c1
 have q2 := HP0.out.c2
 have q3 := HP0.out.c3
 have s0 := HP1.out.c0
 have s1 := HP1.out.c1
 have s2 := HP1.out.c2
 have s3 := HP1.out.c3
 have hd1 : (id == id) = true := by simp
 have hd2 : (ep == ep) = true := by simp
 have hd3 : (op == op) = true := by simp
 have hd1n : (id != id) = false := by simp
 have hd2n : (ep != ep) = false := by simp
 have hd3n : (op != op) = false := by simp
 have hd4 : (n == n) = true := by simp
 have hd5 : ((n : Int) == (n : Int)) = true := by simp
 have hgd := guard_three
 go_wp2
 go_loopw [37] (fun v37 wr => ∃ j : Nat, v37 = .int .i64 (j : Int) ∧ j ≤ n ∧ Below W0.heap.size W0 wr) (fun v37 _ => n - (intOf v37).toNat)
 case atStart => exact ⟨0, rfl, Nat.zero_le _, Below.refl _ _⟩
 obtain ⟨j, rfl, hj, hbel⟩ := hrel
 have HB := qh hbel
 clear hbel q0 q1 q2 q3 s0 s1 s2 s3
 obtain ⟨wo, hwo⟩ := exq wr
 subst hwo
 by_cases hlt : j < n
 rotate_left
 · have hd6 : decide (j < n) = false := decide_eq_false hlt
   go_wp2
   go_ret
   exact gives_bool rfl (HB0.out.trans (HB.out.mono HB0.out.size))
 have hd6 : decide (j < n) = true := decide_eq_true hlt
 have hjn : (j : Int) < (n : Int) := by omega
 obtain ⟨bk, off, x, rfl, hbk, hx, c0, c1, c2⟩ := tr_get (HL0.out.keep HB.out) hlt
 obtain ⟨bm, om, y, rfl, hbm, hy, d0, d1, d2⟩ := tr_get (HM0.out.keep HB.out) hlt
 have hxy : y = x := by rw [hx] at hy; cases hy; rfl
 subst hxy
 have q2 := (HP0.out.on HB.out).c2
 have s2 := (HP1.out.on HB.out).c2
 clear hx hy hbk hbm
 go_upto_region 6 with fail
 have heq : ∀ W, (binOp .neq 59 (.agg #[.int .i64 y.f, .int .i64 y.l, .int .i64 y.b]) (.agg #[.int .i64 y.f, .int .i64 y.l, .int .i64 y.b])).run Tryz.prog W = .ok (.bool false) W := fun W => neq_three _ _ _ _ _ _ true (by simp) W
 go_quiet (fail)
 have HBU := qh (below_drewN HB.out nq)
 clear q2 s2 c0 c1 c2 d0 d1 d2 heq
 go_wp2
 go_roundw
 case rel => exact ⟨j + 1, by go_num, by omega, HBU.out⟩
 simp [intOf]; omega
theorem refAllP_any (w : World) (ad1 ad2 : Option Addr) (n1 n2 cap1 cap2 : Nat) (ms1 ms2 : List PM) (h1 : PdsAt w ad1 n1 cap1 ms1) (h2 : PdsAt w ad2 n2 cap2 ms2) (he : pds ms1 = pds ms2) (hL : n1 ≤ 1000000) (hfew : fewP (pds ms1)) :
 Calls Tryz.prog 24 #[.slice ad1 n1 cap1, .slice ad2 n2 cap2] w (GivesBool w true) := by
 have hn : n1 = n2 := by
  have e := congrArg List.length he
  unfold pds at e
  rw [List.length_map, List.length_map, h1.row.length, h2.row.length] at e
  exact e
 subst hn
 have H1 := qh h1
 have H2 := qh h2
 have HE := qh he
 have HF := qh hfew
 clear h1 h2 he hfew
 go_enter Tryz.func24, Tryz.ntmps24
 go_wp2
 go_loopw [13] (fun v13 wr => ∃ j : Nat, v13 = .int .i64 (j : Int) ∧ j ≤ n1 ∧ Hid (Below w.heap.size w wr)) (fun v13 _ => n1 - (intOf v13).toNat)
 case atStart => exact ⟨0, rfl, Nat.zero_le _, Below.refl _ _⟩
 obtain ⟨j, rfl, hj, HB⟩ := hrel
 obtain ⟨wo, hwo⟩ := exq wr
 subst hwo
 by_cases hlt : j < n1
 rotate_left
 · have hd : decide (j < n1) = false := decide_eq_false hlt
   go_wp2
   go_ret
   exact ⟨rfl, HB.out⟩
 have hd : decide (j < n1) = true := decide_eq_true hlt
 have hjl : (j : Int) < (n1 : Int) := by omega
 obtain ⟨bk, off, m, rfl, hbk, hm, hla, c0, c1, c2, c3⟩ := (H1.out.keep HB.out).get hlt
 obtain ⟨bk2, off2, m2, rfl, hbk2, hm2, hla2, d0, d1, d2, d3⟩ := (H2.out.keep HB.out).get hlt
 have hpp : m.p = m2.p := by
  have e := congrArg (fun l : List Pd => l[j]?) HE.out
  unfold pds at e
  simp only [List.getElem?_map, hm, hm2, Option.map_some, Option.some.injEq] at e
  exact e
 have hp5 := HF.out m.p (List.mem_map.2 ⟨m, List.mem_of_getElem? hm, rfl⟩)
 obtain ⟨⟨pid, pep, pl, po⟩, pd, pc⟩ := m
 obtain ⟨p2, qd, qc⟩ := m2
 simp only at hpp
 subst hpp
 simp only at c0 c1 c2 c3 d0 d1 d2 d3 hp5
 have hlb : RowAt trK wo pd pl.length pc pl := hla
 have hlb2 : RowAt trK wo qd pl.length qc pl := hla2
 obtain ⟨pn, hpn⟩ := exq pl.length
 rw [← hpn] at c2 d2 hp5 hlb hlb2
 have HLA := qh hlb
 have HLA2 := qh hlb2
 have KS : Hid (∀ V, Below wo.heap.size wo V → (fun (V : World) => V.cell? ⟨bk, off + j * 4, none⟩ = some (.int .i64 pid) ∧ V.cell? ⟨bk, off + j * 4 + 1, none⟩ = some (.int .i64 pep) ∧ V.cell? ⟨bk, off + j * 4 + 2, none⟩ = some (.slice pd pn pc) ∧ V.cell? ⟨bk, off + j * 4 + 3, none⟩ = some (.int .i64 po) ∧ V.cell? ⟨bk2, off2 + j * 4, none⟩ = some (.int .i64 pid) ∧ V.cell? ⟨bk2, off2 + j * 4 + 1, none⟩ = some (.int .i64 pep) ∧ V.cell? ⟨bk2, off2 + j * 4 + 2, none⟩ = some (.slice qd pn qc) ∧ V.cell? ⟨bk2, off2 + j * 4 + 3, none⟩ = some (.int .i64 po)) V) := fun V hV => ⟨(hV.cell (p := ⟨_, _, none⟩) hbk).trans c0, (hV.cell (p := ⟨_, _, none⟩) hbk).trans c1, (hV.cell (p := ⟨_, _, none⟩) hbk).trans c2, (hV.cell (p := ⟨_, _, none⟩) hbk).trans c3, (hV.cell (p := ⟨_, _, none⟩) hbk2).trans d0, (hV.cell (p := ⟨_, _, none⟩) hbk2).trans d1, (hV.cell (p := ⟨_, _, none⟩) hbk2).trans d2, (hV.cell (p := ⟨_, _, none⟩) hbk2).trans d3⟩
 have hdrw : Below wo.heap.size wo wo.drew := (Below.refl _ wo).drew
 clear hla hla2 hlb hlb2 hpn hm hm2 c0 c1 c2 c3 d0 d1 d2 d3 hbk hbk2
 go_upto_region 6 with fail
 refine wp_region_noPanic ?_
 refine zk [] KS ?_
 have hHeld := KS.out _ hdrw
 obtain ⟨u1, hu1⟩ := exq wo.drew
 rw [← hu1] at hHeld hdrw
 rw [← hu1]
 clear hu1
 have HU1 := qh hdrw
 clear hdrw
 refine zt 0 ?_
 refine zt 1 ?_
 refine zt 2 ?_
 refine zt 3 ?_
 refine zt 4 ?_
 refine zt 5 ?_
 refine zt 6 ?_
 refine zt 7 ?_
 refine zr 8 (fun C hC => ?_)
 go_simp
 refine (prRefSame_any u1 pid pep po pl pd pn pc (HLA.out.keep HU1.out) qd qc (HLA2.out.keep HU1.out) (by omega)).mono ?_
 rintro e u2 ⟨rfl, hb⟩
 have HU2 := qh (HU1.out.trans (hb.mono HU1.out.size))
 clear hb
 have hHeld := KS.out _ HU2.out
 refine zc hC hHeld ?_
 clear hC C
 refine zt 9 ?_
 refine zd ?_
 clear hHeld KS HU1
 have HB3 := qh (HB.out.trans (HU2.out.mono HB.out.size))
 go_wp2
 go_roundw
 case rel => exact ⟨j + 1, rfl, by omega, HB3.out⟩
 simp [intOf]; omega
theorem refRows2_any (w : World) (ad1 ad2 : Option Addr) (n1 n2 cap1 cap2 : Nat) (ms ms2 : List BM) (h1 : BatsAt w ad1 n1 cap1 ms) (h2 : BatsAt w ad2 n2 cap2 ms2) (he : bats ms = bats ms2) (hL : n1 ≤ 1000000) (hok : BatsOk (bats ms)) :
 Calls Tryz.prog 23 #[.slice ad1 n1 cap1, .slice ad2 n2 cap2] w (SaysB true w) := by
 have hn : n1 = n2 := by
  have e := congrArg List.length he
  unfold bats at e
  rw [List.length_map, List.length_map, h1.row.length, h2.row.length] at e
  exact e
 subst hn
 have HE : Hid (∀ (j : Nat) m m', ms[j]? = some m → ms2[j]? = some m' → m'.b = m.b) := by
  intro j m m' h3 h4
  have h5 : (bats ms)[j]? = (bats ms2)[j]? := by rw [he]
  unfold bats at h5
  rw [List.getElem?_map, List.getElem?_map, h3, h4] at h5
  exact (Option.some.inj h5).symm
 have H1 := qh h1
 have H2 := qh h2
 have HOK := qh hok
 clear h1 h2 he hok
 go_enter Tryz.func23, Tryz.ntmps23
 go_wp2
 go_loopw [13] (fun v13 wr => ∃ j : Nat, v13 = .int .i64 (j : Int) ∧ j ≤ n1 ∧ Hid (Below w.heap.size w wr)) (fun v13 _ => n1 - (intOf v13).toNat)
 case atStart => exact ⟨0, rfl, Nat.zero_le _, Below.refl _ _⟩
 obtain ⟨j, rfl, hj, HB⟩ := hrel
 obtain ⟨wo, hwo⟩ := exq wr
 subst hwo
 by_cases hlt : j < n1
 rotate_left
 · have hd : decide (j < n1) = false := decide_eq_false hlt
   go_wp2
   go_ret
   exact ⟨rfl, HB.out⟩
 have hd : decide (j < n1) = true := decide_eq_true hlt
 have hjl : (j : Int) < (n1 : Int) := by omega
 obtain ⟨bk, off, m, rfl, hbk, hm, hrec, c0, c1, c2, c3, c4, c5, c6⟩ := (H1.out.keep HB.out).get hlt
 obtain ⟨bk2, off2, m2, rfl, hbk2, hm2, hrec2, d0, d1, d2, d3, d4, d5, d6⟩ := (H2.out.keep HB.out).get hlt
 have hmm := HE.out j m m2 hm hm2
 obtain ⟨mb2, rd2, rc2⟩ := m2
 have hmm2 : mb2 = m.b := hmm
 subst hmm2
 clear hmm
 have hk3 := (HOK.out m.b (List.mem_map.2 ⟨m, List.mem_of_getElem? hm, rfl⟩)).2.2
 obtain ⟨⟨b0, b1, b2, b3, b4, b5, recs⟩, rd, rc⟩ := m
 have hrc : RecsAt wo rd recs.length rc recs := hrec
 have hrc2 : RecsAt wo rd2 recs.length rc2 recs := hrec2
 simp only at c0 c1 c2 c3 c4 c5 c6 d0 d1 d2 d3 d4 d5 d6 hk3
 obtain ⟨rn, hrn⟩ := exq recs.length
 rw [← hrn] at c6 d6 hk3 hrc hrc2
 have HRC := qh hrc
 have HRC2 := qh hrc2
 have KS : Hid (∀ V, Below wo.heap.size wo V → (fun (V : World) => V.cell? ⟨bk, off + j * 7, none⟩ = some (.int .i64 b0) ∧ V.cell? ⟨bk, off + j * 7 + 1, none⟩ = some (.int .i64 b1) ∧ V.cell? ⟨bk, off + j * 7 + 2, none⟩ = some (.int .i64 b2) ∧ V.cell? ⟨bk, off + j * 7 + 3, none⟩ = some (.int .i64 b3) ∧ V.cell? ⟨bk, off + j * 7 + 4, none⟩ = some (.bool b4) ∧ V.cell? ⟨bk, off + j * 7 + 5, none⟩ = some (.int .i64 b5) ∧ V.cell? ⟨bk, off + j * 7 + 6, none⟩ = some (.slice rd rn rc) ∧ V.cell? ⟨bk2, off2 + j * 7, none⟩ = some (.int .i64 b0) ∧ V.cell? ⟨bk2, off2 + j * 7 + 1, none⟩ = some (.int .i64 b1) ∧ V.cell? ⟨bk2, off2 + j * 7 + 2, none⟩ = some (.int .i64 b2) ∧ V.cell? ⟨bk2, off2 + j * 7 + 3, none⟩ = some (.int .i64 b3) ∧ V.cell? ⟨bk2, off2 + j * 7 + 4, none⟩ = some (.bool b4) ∧ V.cell? ⟨bk2, off2 + j * 7 + 5, none⟩ = some (.int .i64 b5) ∧ V.cell? ⟨bk2, off2 + j * 7 + 6, none⟩ = some (.slice rd2 rn rc2)) V) := fun V hV => ⟨(hV.cell (p := ⟨_, _, none⟩) hbk).trans c0, (hV.cell (p := ⟨_, _, none⟩) hbk).trans c1, (hV.cell (p := ⟨_, _, none⟩) hbk).trans c2, (hV.cell (p := ⟨_, _, none⟩) hbk).trans c3, (hV.cell (p := ⟨_, _, none⟩) hbk).trans c4, (hV.cell (p := ⟨_, _, none⟩) hbk).trans c5, (hV.cell (p := ⟨_, _, none⟩) hbk).trans c6, (hV.cell (p := ⟨_, _, none⟩) hbk2).trans d0, (hV.cell (p := ⟨_, _, none⟩) hbk2).trans d1, (hV.cell (p := ⟨_, _, none⟩) hbk2).trans d2, (hV.cell (p := ⟨_, _, none⟩) hbk2).trans d3, (hV.cell (p := ⟨_, _, none⟩) hbk2).trans d4, (hV.cell (p := ⟨_, _, none⟩) hbk2).trans d5, (hV.cell (p := ⟨_, _, none⟩) hbk2).trans d6⟩
 have hdrw : Below wo.heap.size wo wo.drew := (Below.refl _ wo).drew
 clear hrec hrec2 hrc hrc2 hrn hm hm2 c0 c1 c2 c3 c4 c5 c6 d0 d1 d2 d3 d4 d5 d6 hbk hbk2
 go_upto_region 6 with fail
 refine wp_region_noPanic ?_
 refine zk [] KS ?_
 have hHeld := KS.out _ hdrw
 obtain ⟨u1, hu1⟩ := exq wo.drew
 rw [← hu1] at hHeld hdrw
 rw [← hu1]
 clear hu1
 have HU1 := qh hdrw
 clear hdrw
 refine zt 0 ?_
 refine zt 1 ?_
 refine zt 2 ?_
 refine zt 3 ?_
 refine zt 4 ?_
 refine zt 5 ?_
 refine zt 6 ?_
 refine zt 7 ?_
 refine zr 8 (fun C hC => ?_)
 go_simp
 refine (refSame_any u1 ⟨b0, b1, b2, b3, b4, b5, recs⟩ ⟨b0, b1, b2, b3, b4, b5, recs⟩ rd rd2 rn rn rc rc2 (HRC.out.keep HU1.out) (HRC2.out.keep HU1.out) hk3 true (by simp)).mono ?_
 rintro e u2 ⟨rfl, hb⟩
 have HU2 := qh (HU1.out.trans (hb.mono HU1.out.size))
 clear hb
 have hHeld := KS.out _ HU2.out
 refine zc hC hHeld ?_
 clear hC C
 refine zt 9 ?_
 refine zd ?_
 clear hHeld KS HU1
 have HB3 := qh (HB.out.trans (HU2.out.mono HB.out.size))
 go_wp2
 go_roundw
 case rel => exact ⟨j + 1, rfl, by omega, HB3.out⟩
 simp [intOf]; omega
end Go.Proofs.YtjmfdildnojknaaGreat
namespace Go.Proofs.YtjmfdildnojknaaGreat
open Go.RowKit
open Go.FoMath
open Go.ProdMath
open Go.BatMath hiding AllB getD_lt take_all In64
theorem mdSame_any {R : LogP} {N : Nat → Prop} (C : MdCode R) (w : World) (F : Nat → Prop) (a : Addr) (c s : Int) (bs : List Bat) (hl : R F w a c s bs) (hr : LogRow s bs) (km : Nat) (mc : Int) (ad : Option Addr) (len cap : Nat) (ms : List BM) (hm : MOk N w km mc s ad len cap ms) (hb : bats ms = bs) :
 Calls Tryz.prog 35 #[.pointer (some a), .pointer (some ⟨km, 0, none⟩)] w (GivesBool w true) := by
 have HC := qh C
 have HL := qh hl
 have HR := qh hr
 have HM := qh hm
 have HBE := qh hb
 have HLEN : Hid (len ≤ 5000) := by
  show _ ≤ _
  have h1 := hm.bats.row.length
  have h2 : (bats ms).length = ms.length := List.length_map _
  have h3 := hr.few
  rw [hb] at h2
  omega
 have HMO : Hid (RowOk (bats ms)) := by rw [hb]; exact hr.ok
 obtain ⟨en, hen⟩ := exq (endD s bs)
 have HEN := qh hen
 have HEM : Hid (endD s (bats ms) = en) := by show _ = _; rw [hb, hen]
 have hee : (en == en) = true := beq_self_eq_true en
 have hss : (s == s) = true := beq_self_eq_true s
 have HB0 : Hid (Below w.heap.size w w) := Below.refl _ _
 clear C hl hr hm hb hen
 go_enter Tryz.func35, Tryz.ntmps35
 go_upto_region 1 with fail
 have KS : Hid (∀ V, Below w.heap.size w V → (fun (V : World) => V.cell? ⟨km, 1, none⟩ = some (.int .i64 s) ∧ V.cell? ⟨km, 2, none⟩ = some (.slice ad len cap)) V) := fun V hV => ⟨(HM.out.keep hV).box.c1, (HM.out.keep hV).box.c2⟩
 refine zs [] KS fun u0 HU hHeld => ?_
 refine zt 0 ?_
 refine zt 2 ?_
 refine zt 3 ?_
 refine zt 4 ?_
 refine zt 5 ?_
 refine zr 1 (fun C hC => ?_)
 go_simp
 refine (HC.out.start F u0 a c s bs (HC.out.keep' HL.out HU.out) HR.out).mono ?_
 rintro e u1 ⟨rfl, hb⟩
 replace HU := qh (HU.out.trans (hb.mono HU.out.size))
 clear hb
 have hHeld := KS.out _ HU.out
 refine zc hC hHeld ?_
 clear hC C
 refine zt 6 ?_
 refine zt 7 ?_
 refine zt 8 ?_
 refine zt 10 ?_
 refine zr 9 (fun C hC => ?_)
 go_simp
 refine (HC.out.end_ F u1 a c s bs (HC.out.keep' HL.out HU.out) HR.out).mono ?_
 rintro e u2 ⟨rfl, hb⟩
 rw [← HEN.out]
 replace HU := qh (HU.out.trans (hb.mono HU.out.size))
 clear hb
 have hHeld := KS.out _ HU.out
 refine zc hC hHeld ?_
 clear hC C
 refine zr 11 (fun C hC => ?_)
 go_simp
 refine (modEnd_any u2 km mc s ad len cap ms (HM.out.keep HU.out).box (HM.out.keep HU.out).bats (Nat.le_trans HLEN.out (by decide)) HMO.out en HEM.out).mono ?_
 rintro e u3 ⟨rfl, hb⟩
 replace HU := qh (HU.out.trans (hb.mono HU.out.size))
 clear hb
 have hHeld := KS.out _ HU.out
 refine zc hC hHeld ?_
 clear hC C
 refine zt 12 ?_
 refine zt 13 ?_
 refine zt 14 ?_
 refine zt 15 ?_
 refine zt 17 ?_
 refine zt 18 ?_
 refine zt 19 ?_
 refine zt 20 ?_
 refine zr 16 (fun C hC => ?_)
 go_simp
 refine (HC.out.batches F u3 a c s bs (HC.out.keep' HL.out HU.out) HR.out).mono ?_
 rintro e u4 ⟨ba, bn, bc, bm, rfl, hbt, hms, -, -, hb⟩
 have HBT := qh hbt
 have HMS := qh hms
 clear hbt hms
 replace HU := qh (HU.out.trans (hb.mono HU.out.size))
 clear hb
 have hHeld := KS.out _ HU.out
 refine zc hC hHeld ?_
 clear hC C
 refine zr 21 (fun C hC => ?_)
 go_simp
 refine (refRows2_any u4 ba ad bn len bc cap bm ms HBT.out (HM.out.keep HU.out).bats (HMS.out.trans HBE.out.symm) (by have h1 := HBT.out.row.length; have h2 := congrArg List.length HMS.out; unfold bats at h2; rw [List.length_map] at h2; have h3 := HR.out.few; omega) (batsOk_of (by rw [HMS.out]; exact HR.out.ok))).mono ?_
 rintro e u5 ⟨rfl, hb⟩
 clear HBT HMS
 replace HU := qh (HU.out.trans (hb.mono HU.out.size))
 clear hb
 have hHeld := KS.out _ HU.out
 refine zc hC hHeld ?_
 clear hC C
 refine zt 22 ?_
 refine zt 23 ?_
 refine zt 24 ?_
 refine zt 26 ?_
 refine zr 25 (fun C hC => ?_)
 go_simp
 refine (HC.out.producers F u5 a c s bs (HC.out.keep' HL.out HU.out) HR.out).mono ?_
 rintro e u6 ⟨pa, pn, pc, pm, rfl, hpt, hps, -, -, hb⟩
 have HPT := qh hpt
 have HPS := qh hps
 clear hpt hps
 replace HU := qh (HU.out.trans (hb.mono HU.out.size))
 clear hb
 have hHeld := KS.out _ HU.out
 refine zc hC hHeld ?_
 clear hC C
 refine zr 27 (fun C hC => ?_)
 go_simp
 refine (producers_any u6 km mc s ad len cap ms (HM.out.keep HU.out) (Nat.le_trans HLEN.out (by decide)) HMO.out).mono ?_
 rintro e u7 ⟨qa, qn, qc, qm, rfl, hqt, hqs, -, -, hb⟩
 have HQT := qh hqt
 have HQS := qh hqs
 replace HPT := qh (HPT.out.keep hb)
 clear hqt hqs
 replace HU := qh (HU.out.trans (hb.mono HU.out.size))
 clear hb
 have hHeld := KS.out _ HU.out
 refine zc hC hHeld ?_
 clear hC C
 refine zr 28 (fun C hC => ?_)
 go_simp
 refine (refAllP_any u7 pa qa pn qn pc qc pm qm HPT.out HQT.out (by rw [HPS.out, HQS.out, HBE.out]) (by have h1 := HPT.out.row.length; have h2 := congrArg List.length HPS.out; unfold pds at h2; rw [List.length_map] at h2; have h4 := SnapMath.fold_len bs []; have h3 := HR.out.few; simp only [List.length_nil] at h4; omega) (by rw [HPS.out]; exact foldP_few bs (fun p hp => by cases hp))).mono ?_
 rintro e u8 ⟨rfl, hb⟩
 clear HPT HPS HQT HQS
 replace HU := qh (HU.out.trans (hb.mono HU.out.size))
 clear hb
 have hHeld := KS.out _ HU.out
 refine zc hC hHeld ?_
 clear hC C
 refine zt 29 ?_
 refine zt 30 ?_
 refine zd ?_
 clear hHeld KS
 go_wp2
 go_ret
 exact ⟨rfl, HU.out⟩
end Go.Proofs.YtjmfdildnojknaaGreat
namespace Go.Proofs.YtjmfdildnojknaaGreat
open Go.RowKit
open Go.ProdMath
open Go.BatMath hiding AllB getD_lt take_all In64
structure Am where
 kind : Int
 b : Bat
 bad : Option Addr
 bcap : Nat
 bytes : List Nat
 yad : Option Addr
 ylen : Nat
 ycap : Nat
 fr : Int
 n : Int
 only : Bool
 kad : Option Addr
 klen : Nat
 kcap : Nat
 gad : Option Addr
 glen : Nat
 gcap : Nat
def Am.zero (k : Int) : Am := ⟨k, Bat.zero, none, 0, [], none, 0, 0, 0, 0, false, none, 0, 0, none, 0, 0⟩
theorem infoAm : (Tryz.prog.info? 33).map (fun i => (i.zero, i.size, i.bytes)) = some (some (.agg #[.int .i64 0, .int .i64 0, .int .i64 0, .int .i64 0, .int .i64 0, .bool false, .int .i64 0, .slice none 0 0, .slice none 0 0, .int .i64 0, .int .i64 0, .bool false, .slice none 0 0, .slice none 0 0]), 14, 176) := by kernel_rfl
def amK : Kind Am := ⟨fun m => [.int .i64 m.kind, .int .i64 m.b.base, .int .i64 m.b.prod, .int .i64 m.b.epoch, .int .i64 m.b.seq, .bool m.b.txn, .int .i64 m.b.marker, .slice m.bad m.b.recs.length m.bcap, .slice m.yad m.ylen m.ycap, .int .i64 m.fr, .int .i64 m.n, .bool m.only, .slice m.kad m.klen m.kcap, .slice m.gad m.glen m.gcap], 14, 33, 23⟩
theorem amK_ok : amK.Ok 176 where
 und := Tryz.underlying23
 info := by
  obtain ⟨i, hi, hz, hs, hb⟩ := info_parts infoAm
  exact ⟨i, _, hi, hz, hs, hb, rfl⟩
 len := fun _ => rfl
 pos := by decide
 one := fun r u hu => by
  simp only [amK, List.mem_cons, List.not_mem_nil, or_false] at hu
  rcases hu with rfl | rfl | rfl | rfl | rfl | rfl | rfl | rfl | rfl | rfl | rfl | rfl | rfl | rfl <;> rfl
 few := by decide
structure AmIn (W : World) (m : Am) : Prop where
 recs : RecsAt W m.bad m.b.recs.length m.bcap m.b.recs
 texts : TextsOk m.b.recs
 few : m.b.recs.length ≤ 140737488355328
 prod : m.b.prod ≤ 9223372036854775807
 byt : Byt W m.yad m.ylen m.ycap m.bytes
 long : m.ylen ≤ 140737488355328
theorem AmIn.keep {W W' : World} {m : Am} (h : AmIn W m) (hb : Below W.heap.size W W') : AmIn W' m := ⟨h.recs.keep hb, h.texts, h.few, h.prod, h.byt.keep hb (Nat.le_refl _), h.long⟩
structure AmsAt (W : World) (ad : Option Addr) (len cap : Nat) (l : List Am) : Prop where
 row : RowAt amK W ad len cap l
 ins : ∀ m ∈ l, AmIn W m
theorem AmsAt.keep {W W' : World} {ad : Option Addr} {len cap : Nat} {l : List Am} (h : AmsAt W ad len cap l) (hb : Below W.heap.size W W') : AmsAt W' ad len cap l := ⟨h.row.keep hb, fun m hm => (h.ins m hm).keep hb⟩
structure AmCells (W : World) (b o : Nat) (m : Am) : Prop where
 c0 : W.cell? ⟨b, o, none⟩ = some (.int .i64 m.kind)
 c1 : W.cell? ⟨b, o + 1, none⟩ = some (.int .i64 m.b.base)
 c2 : W.cell? ⟨b, o + 2, none⟩ = some (.int .i64 m.b.prod)
 c3 : W.cell? ⟨b, o + 3, none⟩ = some (.int .i64 m.b.epoch)
 c4 : W.cell? ⟨b, o + 4, none⟩ = some (.int .i64 m.b.seq)
 c5 : W.cell? ⟨b, o + 5, none⟩ = some (.bool m.b.txn)
 c6 : W.cell? ⟨b, o + 6, none⟩ = some (.int .i64 m.b.marker)
 c7 : W.cell? ⟨b, o + 7, none⟩ = some (.slice m.bad m.b.recs.length m.bcap)
 c8 : W.cell? ⟨b, o + 8, none⟩ = some (.slice m.yad m.ylen m.ycap)
 c9 : W.cell? ⟨b, o + 9, none⟩ = some (.int .i64 m.fr)
 c10 : W.cell? ⟨b, o + 10, none⟩ = some (.int .i64 m.n)
 c11 : W.cell? ⟨b, o + 11, none⟩ = some (.bool m.only)
 c12 : W.cell? ⟨b, o + 12, none⟩ = some (.slice m.kad m.klen m.kcap)
 c13 : W.cell? ⟨b, o + 13, none⟩ = some (.slice m.gad m.glen m.gcap)
theorem AmsAt.get {W : World} {ad : Option Addr} {len cap : Nat} {l : List Am} (h : AmsAt W ad len cap l) {i : Nat} (hi : i < len) : ∃ b off m, ad = some ⟨b, off, none⟩ ∧ b < W.heap.size ∧ l[i]? = some m ∧ AmIn W m ∧ AmCells W b (off + i * 14) m := by
 obtain ⟨b, off, m, e, hb, hm, hc⟩ := h.row.get hi
 exact ⟨b, off, m, e, hb, hm, h.ins m (List.mem_of_getElem? hm), hc 0 _ rfl, hc 1 _ rfl, hc 2 _ rfl, hc 3 _ rfl, hc 4 _ rfl, hc 5 _ rfl, hc 6 _ rfl, hc 7 _ rfl, hc 8 _ rfl, hc 9 _ rfl, hc 10 _ rfl, hc 11 _ rfl, hc 12 _ rfl, hc 13 _ rfl⟩
theorem ams_lit {W : World} {l : List Am} (hm : l.length ≤ 1000000) (hi : ∀ m ∈ l, AmIn W m) (cs : Array Value) (hcs : cs = (amK.all l).toArray) (n : Nat) (hn : l.length = n) : AmsAt (W.alloc (.cells cs 33)) (some ⟨W.heap.size, 0, none⟩) n n l :=
 ⟨rowAt_lit amK_ok W l hm cs hcs n hn, fun m h => (hi m h).keep (bal _ _)⟩
end Go.Proofs.YtjmfdildnojknaaGreat
