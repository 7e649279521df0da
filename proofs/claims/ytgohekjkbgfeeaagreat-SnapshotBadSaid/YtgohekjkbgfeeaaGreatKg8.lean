/- Parts of a proof, merged: ProdApply, ProdAt, SeqAdd, SeqLast, SeqGap, SeqFollows. -/
import Derived.WalkKit
import Derived.IntWalk
import Derived.Lib.Hide
import Derived.Outline
import Derived.Test.YtgohekjkbgfeeaaGreatKg7
import Derived.Test.YtgohekjkbgfeeaaGreatKg3
import Derived.Test.YtgohekjkbgfeeaaGreatKg4
namespace Go.Proofs.YtgohekjkbgfeeaaGreat
open Go.RowKit
open Go.SeqMath
open Go.ProdMath
open Go.BatMath hiding AllB getD_lt take_all
set_option linter.unusedVariables false

/-- The four blocks of the walk: the producer and the batch that came in, the result, what is known so far. -/
structure AS (w : World) (po xo : Obj) (b1 b2 : Int) (v : Value) (o : Int) (W : World) : Prop where
  pb : W.heap[w.heap.size]? = some po
  xb : W.heap[w.heap.size + 1]? = some xo
  rb : PBox W (w.heap.size + 2) 0 0 (.slice none 0 0) 0
  ob : PBox W (w.heap.size + 3) b1 b2 v o
  bel : Below w.heap.size w W
section
variable {w W W' : World} {po xo : Obj} {b1 b2 o : Int} {v : Value}
theorem AS.s2 (h : AS w po xo b1 b2 v o W) (u : Value) : AS w po xo b1 b2 u o (W.setCell ⟨w.heap.size + 3, 2, none⟩ u) := ⟨box_off h.pb (by omega) _, box_off h.xb (by omega) _, h.rb.off (by omega) _, h.ob.s2 u, h.bel.setCell (Nat.le_add_right _ _) _⟩
theorem AS.s3 (h : AS w po xo b1 b2 v o W) (n : Int) : AS w po xo b1 b2 v n (W.setCell ⟨w.heap.size + 3, 3, none⟩ (.int .i64 n)) := ⟨box_off h.pb (by omega) _, box_off h.xb (by omega) _, h.rb.off (by omega) _, h.ob.s3 n, h.bel.setCell (Nat.le_add_right _ _) _⟩
theorem AS.on (h : AS w po xo b1 b2 v o W) (hb : Below W.heap.size W W') : AS w po xo b1 b2 v o W' := by
  have h1 := lt_of_block h.pb
  have h2 := lt_of_block h.xb
  exact ⟨by rw [hb.block _ h1]; exact h.pb, by rw [hb.block _ h2]; exact h.xb, h.rb.on hb, h.ob.on hb, h.bel.trans (hb.mono h.bel.size)⟩
theorem AS.grown (h : AS w po xo b1 b2 v o W) {r : Option Nat} (hg : W.grownBy W' r) (hr : ∀ k, r = some k → w.heap.size + 4 ≤ k) : AS w po xo b1 b2 v o W' := by
  have h1 := lt_of_block h.pb
  have h2 := lt_of_block h.xb
  refine ⟨by rw [hg.block _ h1 (fun e => by have := hr _ e.symm; omega)]; exact h.pb, by rw [hg.block _ h2 (fun e => by have := hr _ e.symm; omega)]; exact h.xb, h.rb.grown hg (fun e => by have := hr _ e; omega), h.ob.grown hg (fun e => by have := hr _ e; omega), h.bel.grown hg h.bel.size fun k hk => by have := hr k hk; omega⟩
theorem AS.lt (h : AS w po xo b1 b2 v o W) : w.heap.size + 4 ≤ W.heap.size := h.ob.lt
end
def GivesApply (w : World) (p : Pd) (e : Ending) (w' : World) : Prop :=
  ∃ ad n cap, e = .returned (.agg #[.int .i64 p.id, .int .i64 p.epoch, .slice ad n cap, .int .i64 p.opn]) ∧ RowAt trK w' ad n cap p.last ∧ (∀ a, ad = some a → w.heap.size ≤ a.block ∧ a.block < w'.heap.size) ∧ Below w.heap.size w w'
theorem resultsApply {tmps : Array Value} {B : Nat} {W : World} {b0 b1 b3 : Int} {v : Value} (h : PBox W B b0 b1 v b3) (ht : tmps.getD 6 undef = .pointer (some ⟨B, 0, none⟩)) :
    (results Tryz.f59 tmps).run Tryz.prog W = .ok (.agg #[.int .i64 b0, .int .i64 b1, v, .int .i64 b3]) W := by
  rw [results_cell_one (p := 6) (ty := 78) Tryz.results59, ht]
  have hl := run_loadVar_row (P := Tryz.prog) W B 78 78 _ (0, 0) _ h Tryz.underlying78 rfl (by kernel_rfl)
  simp only [asAddr, Sem.run_pure, Result.andThen, hl]
theorem gives_apply {w W : World} {po xo : Obj} {b1 b2 o : Int} {v : Value} {p : Pd} {ad : Option Addr} {n cap : Nat} {l : List Tr} {u0 u1 u2 u3 : Value} (h : AS w po xo b1 b2 v o W) (hp : p = ⟨b1, b2, l, o⟩) (hr : RowAt trK W ad n cap l) (hk : ∀ a, ad = some a → w.heap.size + 4 ≤ a.block ∧ a.block < W.heap.size) :
    GivesApply w p (.returned (.agg #[.int .i64 b1, .int .i64 b2, .slice ad n cap, .int .i64 o])) ((((W.setCell ⟨w.heap.size + 2, 0, none⟩ u0).setCell ⟨w.heap.size + 2, 1, none⟩ u1).setCell ⟨w.heap.size + 2, 2, none⟩ u2).setCell ⟨w.heap.size + 2, 3, none⟩ u3) := by
  subst hp
  have hk2 : ∀ a, ad = some a → a.block ≠ w.heap.size + 2 := fun a ha => by have := (hk a ha).1; omega
  refine ⟨ad, n, cap, rfl, (((hr.off hk2 _ _).off hk2 _ _).off hk2 _ _).off hk2 _ _, (fun a ha => ⟨by have := (hk a ha).1; omega, by rw [size_set, size_set, size_set, size_set]; exact (hk a ha).2⟩), ?_⟩
  exact (((h.bel.setCell (Nat.le_add_right _ _) _).setCell (Nat.le_add_right _ _) _).setCell (Nat.le_add_right _ _) _).setCell (Nat.le_add_right _ _) _
set_option maxRecDepth 100000 in
set_option maxHeartbeats 8000000 in
theorem refApply_any (w : World) (id ep op : Int) (last : List Tr) (ad : Option Addr) (n cap : Nat) (hl : RowAt trK w ad n cap last) (hn : n ≤ 1000000) (known : Bool) (b0 b1 b2 b3 : Int) (b4 : Bool) (b5 : Int) (recs : List Rc) (rd : Option Addr) (rn rc : Nat) (hrl : recs.length = rn) (hrn : rn ≤ 140737488355328) (p : Pd) (hp : applyD ⟨id, ep, last, op⟩ known ⟨b0, b1, b2, b3, b4, b5, recs⟩ = p) :
    Calls Tryz.prog 59 #[.agg #[.int .i64 id, .int .i64 ep, .slice ad n cap, .int .i64 op], .bool known, .agg #[.int .i64 b0, .int .i64 b1, .int .i64 b2, .int .i64 b3, .bool b4, .int .i64 b5, .slice rd rn rc]] w (GivesApply w p) := by
  obtain ⟨po, hpo⟩ : ∃ po : Obj, po = (.cells #[.int .i64 id, .int .i64 ep, .slice ad n cap, .int .i64 op] 78 (0, 0)) := ⟨_, rfl⟩
  obtain ⟨xo, hxo⟩ : ∃ xo : Obj, xo = (.cells #[.int .i64 b0, .int .i64 b1, .int .i64 b2, .int .i64 b3, .bool b4, .int .i64 b5, .slice rd rn rc] 56 (0, 0)) := ⟨_, rfl⟩
  obtain ⟨W0, hW0⟩ : ∃ W0, W0 = ((((w.alloc (.cells #[.int .i64 id, .int .i64 ep, .slice ad n cap, .int .i64 op] 78)).alloc (.cells #[.int .i64 b0, .int .i64 b1, .int .i64 b2, .int .i64 b3, .bool b4, .int .i64 b5, .slice rd rn rc] 56)).alloc (.cells #[.int .i64 0, .int .i64 0, .slice none 0 0, .int .i64 0] 78)).alloc (.cells #[.int .i64 b1, .int .i64 b2, .slice none 0 0, .int .i64 (-1)] 78)) := ⟨_, rfl⟩
  have HA0 : Hid (AS w po xo b1 b2 (.slice none 0 0) (-1) W0) := by
    show AS _ _ _ _ _ _ _ _
    rw [hW0, hpo, hxo]
    have e2 := Below.refl w.heap.size w
    refine ⟨?_, ?_, ?_, ?_, (((e2.alloc (Nat.le_refl _) _).alloc (by simp) _).alloc (by simp <;> omega) _).alloc (by simp <;> omega) _⟩
    · rw [heap_alloc_old _ _ (by simp <;> omega), heap_alloc_old _ _ (by simp <;> omega), heap_alloc_old _ _ (by simp)]
      (try exact heap_alloc_new w _)
    · rw [heap_alloc_old _ _ (by simp <;> omega), heap_alloc_old _ _ (by simp)]
      have := heap_alloc_new (w.alloc (.cells #[.int .i64 id, .int .i64 ep, .slice ad n cap, .int .i64 op] 78)) (.cells #[.int .i64 b0, .int .i64 b1, .int .i64 b2, .int .i64 b3, .bool b4, .int .i64 b5, .slice rd rn rc] 56)
      simpa using this
    · show (_ : World).heap[_]? = _
      rw [heap_alloc_old _ _ (by simp)]
      have := heap_alloc_new ((w.alloc (.cells #[.int .i64 id, .int .i64 ep, .slice ad n cap, .int .i64 op] 78)).alloc (.cells #[.int .i64 b0, .int .i64 b1, .int .i64 b2, .int .i64 b3, .bool b4, .int .i64 b5, .slice rd rn rc] 56)) (.cells #[.int .i64 0, .int .i64 0, .slice none 0 0, .int .i64 0] 78)
      simpa using this
    · have := pbox_new (((w.alloc (.cells #[.int .i64 id, .int .i64 ep, .slice ad n cap, .int .i64 op] 78)).alloc (.cells #[.int .i64 b0, .int .i64 b1, .int .i64 b2, .int .i64 b3, .bool b4, .int .i64 b5, .slice rd rn rc] 56)).alloc (.cells #[.int .i64 0, .int .i64 0, .slice none 0 0, .int .i64 0] 78)) b1 b2 (.slice none 0 0) (-1)
      simpa using this
  have HL0 := Lib.hid hl
  have HPP : Hid (applyD ⟨id, ep, last, op⟩ known ⟨b0, b1, b2, b3, b4, b5, recs⟩ = p) := hp
  have HRL := Lib.hid hrl
  have hpb : PBox W0 w.heap.size id ep (.slice ad n cap) op := by have := HA0.out.pb; rw [hpo] at this; exact this
  have hxb : BoxAt W0 (w.heap.size + 1) b0 b1 b2 b3 b4 b5 (.slice rd rn rc) := by have := HA0.out.xb; rw [hxo] at this; exact this
  have HXO := Lib.hid hxo
  have HPB := Lib.hid hpb
  have HXB := Lib.hid hxb
  clear hl hp hrl hpo hxo hpb hxb
  go_enter Tryz.func59, Tryz.ntmps59
  go_upto_if 13 with (fail)
  rw [← hW0]
  clear hW0
  obtain ⟨l0, hl0⟩ : ∃ l0, l0 = oldLast ⟨id, ep, last, op⟩ known ⟨b0, b1, b2, b3, b4, b5, recs⟩ := ⟨_, rfl⟩
  obtain ⟨o0, ho0⟩ : ∃ o0, o0 = oldOpen ⟨id, ep, last, op⟩ known := ⟨_, rfl⟩
  go_cut [] from 8 (fun wx => ∃ v, AS w po xo b1 b2 v o0 wx ∧ OwnRow trK wx (w.heap.size + 4) v l0)
  case first =>
    have q1 := HPB.out.c1
    have q2 := HPB.out.c2
    have q3 := HPB.out.c3
    have p2 := HXB.out.c2
    have o2 := HA0.out.ob.c2
    have o3 := HA0.out.ob.c3
    have f2 := HA0.out.ob.free 2
    have f3 := HA0.out.ob.free 3
    cases known
    · have e1 : l0 = [] := by rw [hl0]; simp [oldLast]
      have e2 : o0 = -1 := by rw [ho0]; simp [oldOpen]
      clear hl0 ho0
      go_wp2
      go_meet
      case rel => exact ⟨_, by rw [e2]; exact HA0.out, by rw [e1]; exact ownRow_nil _ _ _⟩
    · have e2 : o0 = op := by rw [ho0]; simp [oldOpen]
      by_cases hee : ep = b2
      · have hd : (ep == b2) = true := by rw [hee]; simp
        have e1 : l0 = last := by rw [hl0]; simp [oldLast, hee]
        have HE1 := Lib.hid e1
        have HE2 := Lib.hid e2
        clear hl0 ho0 hee e1 e2
        go_upto_region 5 with fail
        obtain ⟨W1, hW1⟩ : ∃ W1, W1 = W0.setCell ⟨w.heap.size + 3, 3, none⟩ (.int .i64 op) := ⟨_, rfl⟩
        have HA1 : Hid (AS w po xo b1 b2 (.slice none 0 0) op W1) := by show AS _ _ _ _ _ _ _ _; rw [hW1]; exact HA0.out.s3 op
        have HPB1 : Hid (PBox W1 w.heap.size id ep (.slice ad n cap) op) := by show PBox _ _ _ _ _ _; rw [hW1]; exact HPB.out.off (by omega) _
        rw [← hW1]
        clear hW1 q1 q2 q3 o2 o3 f2 f3
        have q2 := (HPB1.out.on ((Below.refl _ _).alloc (Nat.le_refl _) (.cells #[] 79))).c2
        have HAE : Hid (AS w po xo b1 b2 (.slice none 0 0) op (W1.alloc (.cells #[] 79))) := HA1.out.on ((Below.refl _ _).alloc (Nat.le_refl _) _)
        have HL1 := Lib.hid (HL0.out.keep HAE.out.bel)
        have HVE : Hid (OwnRow trK (W1.alloc (.cells #[] 79)) (w.heap.size + 4) (.slice (some ⟨W1.heap.size, 0, none⟩) 0 0) []) := ownRow_lit trK_ok W1 _ [] HA1.out.lt (by simp) _ rfl 0 rfl
        go_wp2_with (at_builtin; refine list_row (by rfl) trK_ok (.tmp 22) (.tmp 24) rfl (w.heap.size + 4) [] last _ rfl HVE.out HAE.out.lt ad n cap rfl HL1.out (by rw [List.length_nil]; omega) ?_)
        intro v2 w2 hap
        obtain ⟨ad2, cap2, hv2, _, _⟩ := OwnRow.row trK_ok (l := last) (n := n) hap.1 HL0.out.length
        subst hv2
        have HO2 : Hid (OwnRow trK w2 (w.heap.size + 4) (.slice ad2 n cap2) last) := hap.1
        have HA2 : Hid (AS w po xo b1 b2 (.slice none 0 0) op w2) := HAE.out.grown hap.2.1 fun k hk => (HVE.out.lt k hk).1
        clear hap HVE
        have o2 := HA2.out.ob.c2
        have f2 := HA2.out.ob.free 2
        go_wp2
        go_meet
        case rel => exact ⟨_, by rw [HE2.out]; exact HA2.out.s2 (.slice ad2 n cap2), by rw [HE1.out]; exact HO2.out.off (by omega) _ _⟩
      · have hd : (ep == b2) = false := beq_false_of_ne hee
        have e1 : l0 = [] := by rw [hl0]; simp [oldLast, hee]
        clear hl0 ho0 hee
        go_wp2
        go_meet
        case rel => exact ⟨_, by rw [e2]; exact HA0.out.s3 op, by rw [e1]; exact ownRow_nil _ _ _⟩
  case rest =>
    obtain ⟨v, ha, ho⟩ := hcut
    have HA := Lib.hid ha
    have HO := Lib.hid ho
    have hxb : BoxAt wc (w.heap.size + 1) b0 b1 b2 b3 b4 b5 (.slice rd rn rc) := by have := ha.xb; rw [HXO.out] at this; exact this
    have HXC := Lib.hid hxb
    clear hxb HPB HXB HA0
    have hn0 : l0.length ≤ 1000000 := by
      have hll := HL0.out.length
      rw [hl0]
      unfold oldLast
      split
      · show last.length ≤ _; omega
      · exact Nat.zero_le _
    have HPE1 : Hid (b5 ≠ 0 → p = ⟨b1, b2, l0, -1⟩) := by
      intro hm
      rw [← HPP.out, hl0]
      simp [applyD, hm]
    have HPE2 : Hid (b5 = 0 → ∀ oz, oz = (if b4 = true ∧ o0 < 0 then b0 else o0) → p = ⟨b1, b2, newLast l0 ⟨b3, lastI b3 rn, b0⟩, oz⟩) := by
      intro hm oz hoz
      rw [hoz, ← HPP.out, hl0, ho0, ← HRL.out]
      simp [applyD, hm]
    clear hl0 ho0 HPP HRL HL0 ha ho
    obtain ⟨n0, hln0⟩ : ∃ n0, l0.length = n0 := ⟨_, rfl⟩
    rw [hln0] at hn0
    obtain ⟨ad0, cap0, hv0, hr0, hk0⟩ := OwnRow.row trK_ok HO.out hln0
    subst hv0
    have HLN := Lib.hid hln0
    have HR0 := Lib.hid hr0
    have HK0 : Hid (∀ a, ad0 = some a → w.heap.size + 4 ≤ a.block ∧ a.block < wc.heap.size) := fun a ha => hk0 a ha
    clear hln0 hr0 hk0
    have p5 := HXC.out.c5
    by_cases hm : b5 = 0
    · have hd : (b5 == 0) = true := by rw [hm]; rfl
      have HPE : Hid (∀ oz, oz = (if b4 = true ∧ o0 < 0 then b0 else o0) → p = ⟨b1, b2, newLast l0 ⟨b3, lastI b3 rn, b0⟩, oz⟩) := HPE2.out hm
      obtain ⟨lv, hlv⟩ : ∃ lv, lastI b3 rn = lv := ⟨_, rfl⟩
      rw [hlv] at HPE
      have HLV := Lib.hid hlv
      clear HPE1 HPE2 hm hlv
      go_upto_region 9 with fail
      clear p5
      have KS : Hid (∀ W, AS w po xo b1 b2 (.slice ad0 n0 cap0) o0 W → (fun (W : World) => W.cell? ⟨(w.heap.size + 1), 0, none⟩ = some (.int .i64 b0) ∧ W.cell? ⟨(w.heap.size + 1), 1, none⟩ = some (.int .i64 b1) ∧ W.cell? ⟨(w.heap.size + 1), 2, none⟩ = some (.int .i64 b2) ∧ W.cell? ⟨(w.heap.size + 1), 3, none⟩ = some (.int .i64 b3) ∧ W.cell? ⟨(w.heap.size + 1), 4, none⟩ = some (.bool b4) ∧ W.cell? ⟨(w.heap.size + 1), 5, none⟩ = some (.int .i64 b5) ∧ W.cell? ⟨(w.heap.size + 1), 6, none⟩ = some (.slice rd rn rc) ∧ W.cell? ⟨(w.heap.size + 3), 0, none⟩ = some (.int .i64 b1) ∧ W.cell? ⟨(w.heap.size + 3), 1, none⟩ = some (.int .i64 b2) ∧ W.cell? ⟨(w.heap.size + 3), 2, none⟩ = some (.slice ad0 n0 cap0) ∧ W.cell? ⟨(w.heap.size + 3), 3, none⟩ = some (.int .i64 o0) ∧ W.frozen? ⟨w.heap.size + 3, 2, none⟩ = false) W) := by
        intro W hW
        have hX : BoxAt W (w.heap.size + 1) b0 b1 b2 b3 b4 b5 (.slice rd rn rc) := by have := hW.xb; rw [HXO.out] at this; exact this
        exact ⟨hX.c0, hX.c1, hX.c2, hX.c3, hX.c4, hX.c5, hX.c6, hW.ob.c0, hW.ob.c1, hW.ob.c2, hW.ob.c3, hW.ob.free 2⟩
      have hdr : Below wc.heap.size wc wc.drew := (Below.refl _ wc).drew
      have HAd := Lib.hid (HA.out.on hdr)
      have HOd := Lib.hid (HO.out.on hdr)
      refine wp_region_noPanic ?_
      refine wp_region_z [16] (fun (W : World) => W.cell? ⟨(w.heap.size + 1), 0, none⟩ = some (.int .i64 b0) ∧ W.cell? ⟨(w.heap.size + 1), 1, none⟩ = some (.int .i64 b1) ∧ W.cell? ⟨(w.heap.size + 1), 2, none⟩ = some (.int .i64 b2) ∧ W.cell? ⟨(w.heap.size + 1), 3, none⟩ = some (.int .i64 b3) ∧ W.cell? ⟨(w.heap.size + 1), 4, none⟩ = some (.bool b4) ∧ W.cell? ⟨(w.heap.size + 1), 5, none⟩ = some (.int .i64 b5) ∧ W.cell? ⟨(w.heap.size + 1), 6, none⟩ = some (.slice rd rn rc) ∧ W.cell? ⟨(w.heap.size + 3), 0, none⟩ = some (.int .i64 b1) ∧ W.cell? ⟨(w.heap.size + 3), 1, none⟩ = some (.int .i64 b2) ∧ W.cell? ⟨(w.heap.size + 3), 2, none⟩ = some (.slice ad0 n0 cap0) ∧ W.cell? ⟨(w.heap.size + 3), 3, none⟩ = some (.int .i64 o0) ∧ W.frozen? ⟨w.heap.size + 3, 2, none⟩ = false) (by kernel_rfl) ?_
      have hHeld : (fun (W : World) => W.cell? ⟨(w.heap.size + 1), 0, none⟩ = some (.int .i64 b0) ∧ W.cell? ⟨(w.heap.size + 1), 1, none⟩ = some (.int .i64 b1) ∧ W.cell? ⟨(w.heap.size + 1), 2, none⟩ = some (.int .i64 b2) ∧ W.cell? ⟨(w.heap.size + 1), 3, none⟩ = some (.int .i64 b3) ∧ W.cell? ⟨(w.heap.size + 1), 4, none⟩ = some (.bool b4) ∧ W.cell? ⟨(w.heap.size + 1), 5, none⟩ = some (.int .i64 b5) ∧ W.cell? ⟨(w.heap.size + 1), 6, none⟩ = some (.slice rd rn rc) ∧ W.cell? ⟨(w.heap.size + 3), 0, none⟩ = some (.int .i64 b1) ∧ W.cell? ⟨(w.heap.size + 3), 1, none⟩ = some (.int .i64 b2) ∧ W.cell? ⟨(w.heap.size + 3), 2, none⟩ = some (.slice ad0 n0 cap0) ∧ W.cell? ⟨(w.heap.size + 3), 3, none⟩ = some (.int .i64 o0) ∧ W.frozen? ⟨w.heap.size + 3, 2, none⟩ = false) _ := KS.out _ HAd.out
      obtain ⟨u0, hu0⟩ : ∃ u, u = wc.drew := ⟨_, rfl⟩
      rw [← hu0] at hHeld HAd HOd
      rw [← hu0]
      clear hu0
      refine wpAnyZ_take (i := 0) (oi := ⟨_, _, _, _, _, _⟩) (v := ?_) rfl (by kernel_rfl) (by kernel_rfl) (by kernel_rfl) (by kernel_rfl) (by kernel_rfl) (fun _ _ _ h => h) (Or.inl ⟨by rfl, ?_⟩) (by assumption) ?_
      rotate_left
      · intro W hSw
        (try dsimp only at hSw)
        go_simp
        (try with_reducible rfl)
      (try simp only [Act.put, List.setIfInBounds_toArray, List.set_cons_zero, List.set_cons_succ])
      refine wpAnyZ_take (i := 1) (oi := ⟨_, _, _, _, _, _⟩) (v := ?_) rfl (by kernel_rfl) (by kernel_rfl) (by kernel_rfl) (by kernel_rfl) (by kernel_rfl) (fun _ _ _ h => h) (Or.inl ⟨by rfl, ?_⟩) (by assumption) ?_
      rotate_left
      · intro W hSw
        (try dsimp only at hSw)
        go_simp
        (try with_reducible rfl)
      (try simp only [Act.put, List.setIfInBounds_toArray, List.set_cons_zero, List.set_cons_succ])
      refine wpAnyZ_take (i := 2) (oi := ⟨_, _, _, _, _, _⟩) (v := ?_) rfl (by kernel_rfl) (by kernel_rfl) (by kernel_rfl) (by kernel_rfl) (by kernel_rfl) (fun _ _ _ h => h) (Or.inl ⟨by rfl, ?_⟩) (by assumption) ?_
      rotate_left
      · intro W hSw
        (try dsimp only at hSw)
        go_simp
        (try with_reducible rfl)
      (try simp only [Act.put, List.setIfInBounds_toArray, List.set_cons_zero, List.set_cons_succ])
      refine wpAnyZ_take (i := 3) (oi := ⟨_, _, _, _, _, _⟩) (v := ?_) rfl (by kernel_rfl) (by kernel_rfl) (by kernel_rfl) (by kernel_rfl) (by kernel_rfl) (fun _ _ _ h => h) (Or.inl ⟨by rfl, ?_⟩) (by assumption) ?_
      rotate_left
      · intro W hSw
        (try dsimp only at hSw)
        go_simp
        (try with_reducible rfl)
      (try simp only [Act.put, List.setIfInBounds_toArray, List.set_cons_zero, List.set_cons_succ])
      refine wpAnyZ_take (i := 4) (oi := ⟨_, _, _, _, _, _⟩) (v := ?_) rfl (by kernel_rfl) (by kernel_rfl) (by kernel_rfl) (by kernel_rfl) (by kernel_rfl) (fun _ _ _ h => h) (Or.inl ⟨by rfl, ?_⟩) (by assumption) ?_
      rotate_left
      · intro W hSw
        (try dsimp only at hSw)
        go_simp
        (try with_reducible rfl)
      (try simp only [Act.put, List.setIfInBounds_toArray, List.set_cons_zero, List.set_cons_succ])
      refine wpAnyZ_take (i := 5) (oi := ⟨_, _, _, _, _, _⟩) (v := ?_) rfl (by kernel_rfl) (by kernel_rfl) (by kernel_rfl) (by kernel_rfl) (by kernel_rfl) (fun _ _ _ h => h) (Or.inl ⟨by rfl, ?_⟩) (by assumption) ?_
      rotate_left
      · intro W hSw
        (try dsimp only at hSw)
        go_simp
        (try with_reducible rfl)
      (try simp only [Act.put, List.setIfInBounds_toArray, List.set_cons_zero, List.set_cons_succ])
      refine wpAnyZ_take (i := 6) (oi := ⟨_, _, _, _, _, _⟩) (v := ?_) rfl (by kernel_rfl) (by kernel_rfl) (by kernel_rfl) (by kernel_rfl) (by kernel_rfl) (fun _ _ _ h => h) (Or.inl ⟨by rfl, ?_⟩) (by assumption) ?_
      rotate_left
      · intro W hSw
        (try dsimp only at hSw)
        go_simp
        (try with_reducible rfl)
      (try simp only [Act.put, List.setIfInBounds_toArray, List.set_cons_zero, List.set_cons_succ])
      refine wpAnyZ_take (i := 7) (oi := ⟨_, _, _, _, _, _⟩) (v := ?_) rfl (by kernel_rfl) (by kernel_rfl) (by kernel_rfl) (by kernel_rfl) (by kernel_rfl) (fun _ _ _ h => h) (Or.inl ⟨by rfl, ?_⟩) (by assumption) ?_
      rotate_left
      · intro W hSw
        (try dsimp only at hSw)
        go_simp
        (try with_reducible rfl)
      (try simp only [Act.put, List.setIfInBounds_toArray, List.set_cons_zero, List.set_cons_succ])
      refine wpAnyZ_take (i := 8) (oi := ⟨_, _, _, _, _, _⟩) (v := ?_) rfl (by kernel_rfl) (by kernel_rfl) (by kernel_rfl) (by kernel_rfl) (by kernel_rfl) (fun _ _ _ h => h) (Or.inl ⟨by rfl, ?_⟩) (by assumption) ?_
      rotate_left
      · intro W hSw
        (try dsimp only at hSw)
        go_simp
        (try with_reducible rfl)
      (try simp only [Act.put, List.setIfInBounds_toArray, List.set_cons_zero, List.set_cons_succ])
      refine wpAnyZ_take (i := 10) (oi := ⟨_, _, _, _, _, _⟩) (v := ?_) rfl (by kernel_rfl) (by kernel_rfl) (by kernel_rfl) (by kernel_rfl) (by kernel_rfl) (fun _ _ _ h => h) (Or.inl ⟨by rfl, ?_⟩) (by assumption) ?_
      rotate_left
      · intro W hSw
        (try dsimp only at hSw)
        go_simp
        (try with_reducible rfl)
      (try simp only [Act.put, List.setIfInBounds_toArray, List.set_cons_zero, List.set_cons_succ])
      refine wpAnyZ_take (i := 11) (oi := ⟨_, _, _, _, _, _⟩) (v := ?_) rfl (by kernel_rfl) (by kernel_rfl) (by kernel_rfl) (by kernel_rfl) (by kernel_rfl) (fun _ _ _ h => h) (Or.inl ⟨by rfl, ?_⟩) (by assumption) ?_
      rotate_left
      · intro W hSw
        (try dsimp only at hSw)
        go_simp
        (try with_reducible rfl)
      (try simp only [Act.put, List.setIfInBounds_toArray, List.set_cons_zero, List.set_cons_succ])
      refine wpAnyZ_ready (rs := [9]) (by kernel_rfl) (by simp) ?_
      refine AllReadyZ.cons (o := ⟨_, _, _, _, _, _⟩) rfl (fun C hC => ?_) AllReadyZ.nil
      go_simp
      refine (refLast_any b3 rn u0 lv hrn HLV.out).mono ?_
      rintro e u1 ⟨rfl, rfl⟩
      go_wp2_with fail
      have hHeld : (fun (W : World) => W.cell? ⟨(w.heap.size + 1), 0, none⟩ = some (.int .i64 b0) ∧ W.cell? ⟨(w.heap.size + 1), 1, none⟩ = some (.int .i64 b1) ∧ W.cell? ⟨(w.heap.size + 1), 2, none⟩ = some (.int .i64 b2) ∧ W.cell? ⟨(w.heap.size + 1), 3, none⟩ = some (.int .i64 b3) ∧ W.cell? ⟨(w.heap.size + 1), 4, none⟩ = some (.bool b4) ∧ W.cell? ⟨(w.heap.size + 1), 5, none⟩ = some (.int .i64 b5) ∧ W.cell? ⟨(w.heap.size + 1), 6, none⟩ = some (.slice rd rn rc) ∧ W.cell? ⟨(w.heap.size + 3), 0, none⟩ = some (.int .i64 b1) ∧ W.cell? ⟨(w.heap.size + 3), 1, none⟩ = some (.int .i64 b2) ∧ W.cell? ⟨(w.heap.size + 3), 2, none⟩ = some (.slice ad0 n0 cap0) ∧ W.cell? ⟨(w.heap.size + 3), 3, none⟩ = some (.int .i64 o0) ∧ W.frozen? ⟨w.heap.size + 3, 2, none⟩ = false) _ := hHeld
      refine hC.out _ _ (fun _ => hHeld) (fun _ => ?_)
      clear hC C
      (try simp only [Act.put, List.setIfInBounds_toArray, List.set_cons_zero, List.set_cons_succ])
      refine wpAnyZ_take (i := 12) (oi := ⟨_, _, _, _, _, _⟩) (v := ?_) rfl (by kernel_rfl) (by kernel_rfl) (by kernel_rfl) (by kernel_rfl) (by kernel_rfl) (fun _ _ _ h => h) (Or.inl ⟨by rfl, ?_⟩) (by assumption) ?_
      rotate_left
      · intro W hSw
        (try dsimp only at hSw)
        go_simp
        (try with_reducible rfl)
      (try simp only [Act.put, List.setIfInBounds_toArray, List.set_cons_zero, List.set_cons_succ])
      refine wpAnyZ_ready (rs := [13]) (by kernel_rfl) (by simp) ?_
      refine AllReadyZ.cons (o := ⟨_, _, _, _, _, _⟩) rfl (fun C hC => ?_) AllReadyZ.nil
      go_simp
      obtain ⟨u1, hu1⟩ : ∃ u, u = u0.alloc (.cells #[.int .i64 b3, .int .i64 lv, .int .i64 b0] 79) := ⟨_, rfl⟩
      have hb1 : Below u0.heap.size u0 u1 := by rw [hu1]; exact (Below.refl _ _).alloc (Nat.le_refl _) _
      have HA1 := Lib.hid (HAd.out.on hb1)
      have HO1 := Lib.hid (HOd.out.on hb1)
      have HX1 : Hid (RowAt trK u1 (some ⟨u0.heap.size, 0, none⟩) 1 1 [⟨b3, lv, b0⟩]) := by show RowAt _ _ _ _ _ _; rw [hu1]; exact rowAt_lit trK_ok u0 [⟨b3, lv, b0⟩] (by simp) _ rfl 1 rfl
      obtain ⟨G0, hG0⟩ : ∃ G, G = u0.heap.size := ⟨_, rfl⟩
      rw [← hG0] at HX1
      rw [← hu1, ← hG0]
      clear hu1 hb1 hG0
      have hHeld : (fun (W : World) => W.cell? ⟨(w.heap.size + 1), 0, none⟩ = some (.int .i64 b0) ∧ W.cell? ⟨(w.heap.size + 1), 1, none⟩ = some (.int .i64 b1) ∧ W.cell? ⟨(w.heap.size + 1), 2, none⟩ = some (.int .i64 b2) ∧ W.cell? ⟨(w.heap.size + 1), 3, none⟩ = some (.int .i64 b3) ∧ W.cell? ⟨(w.heap.size + 1), 4, none⟩ = some (.bool b4) ∧ W.cell? ⟨(w.heap.size + 1), 5, none⟩ = some (.int .i64 b5) ∧ W.cell? ⟨(w.heap.size + 1), 6, none⟩ = some (.slice rd rn rc) ∧ W.cell? ⟨(w.heap.size + 3), 0, none⟩ = some (.int .i64 b1) ∧ W.cell? ⟨(w.heap.size + 3), 1, none⟩ = some (.int .i64 b2) ∧ W.cell? ⟨(w.heap.size + 3), 2, none⟩ = some (.slice ad0 n0 cap0) ∧ W.cell? ⟨(w.heap.size + 3), 3, none⟩ = some (.int .i64 o0) ∧ W.frozen? ⟨w.heap.size + 3, 2, none⟩ = false) u1 := KS.out _ HA1.out
      refine hC.out _ _ (fun _ => hHeld) (fun _ => ?_)
      clear hC C
      (try simp only [Act.put, List.setIfInBounds_toArray, List.set_cons_zero, List.set_cons_succ])
      refine wpAnyZ_ready (rs := [14]) (by kernel_rfl) (by simp) ?_
      refine AllReadyZ.cons (o := ⟨_, _, _, _, _, _⟩) rfl (fun C hC => ?_) AllReadyZ.nil
      refine held_row (by rfl) trK_ok (.tmp 33) (.tmp 45) rfl (w.heap.size + 4) l0 [⟨b3, lv, b0⟩] _ rfl HO1.out HA1.out.lt (some ⟨G0, 0, none⟩) 1 1 rfl HX1.out (by rw [HLN.out]; omega) ?_
      rintro v2 u2 hap
      obtain ⟨ad2, cap2, hv2, hr2, hk2⟩ := OwnRow.row trK_ok hap.1 (n := n0 + 1) (by rw [List.length_append, HLN.out]; rfl)
      subst hv2
      have HA2 : Hid (AS w po xo b1 b2 (.slice ad0 n0 cap0) o0 u2) := HA1.out.grown hap.2.1 fun k hk => (HO1.out.lt k hk).1
      have HR2 := Lib.hid hr2
      have HK2 : Hid (∀ a, ad2 = some a → w.heap.size + 4 ≤ a.block ∧ a.block < u2.heap.size) := fun a ha => hk2 a ha
      clear hap hr2 hk2 HO1 HA1 HX1
      have hHeld : (fun (W : World) => W.cell? ⟨(w.heap.size + 1), 0, none⟩ = some (.int .i64 b0) ∧ W.cell? ⟨(w.heap.size + 1), 1, none⟩ = some (.int .i64 b1) ∧ W.cell? ⟨(w.heap.size + 1), 2, none⟩ = some (.int .i64 b2) ∧ W.cell? ⟨(w.heap.size + 1), 3, none⟩ = some (.int .i64 b3) ∧ W.cell? ⟨(w.heap.size + 1), 4, none⟩ = some (.bool b4) ∧ W.cell? ⟨(w.heap.size + 1), 5, none⟩ = some (.int .i64 b5) ∧ W.cell? ⟨(w.heap.size + 1), 6, none⟩ = some (.slice rd rn rc) ∧ W.cell? ⟨(w.heap.size + 3), 0, none⟩ = some (.int .i64 b1) ∧ W.cell? ⟨(w.heap.size + 3), 1, none⟩ = some (.int .i64 b2) ∧ W.cell? ⟨(w.heap.size + 3), 2, none⟩ = some (.slice ad0 n0 cap0) ∧ W.cell? ⟨(w.heap.size + 3), 3, none⟩ = some (.int .i64 o0) ∧ W.frozen? ⟨w.heap.size + 3, 2, none⟩ = false) u2 := KS.out _ HA2.out
      refine hC.out _ _ (fun _ => hHeld) (fun _ => ?_)
      clear hC C
      (try simp only [Act.put, List.setIfInBounds_toArray, List.set_cons_zero, List.set_cons_succ])
      refine wpAnyZ_take (i := 15) (oi := ⟨_, _, _, _, _, _⟩) (v := ?_) rfl (by kernel_rfl) (by kernel_rfl) (by kernel_rfl) (by kernel_rfl) (by kernel_rfl) (fun _ _ _ h => h) (Or.inl ⟨by rfl, ?_⟩) (by assumption) ?_
      rotate_left
      · intro W hSw
        (try dsimp only at hSw)
        go_simp
        (try with_reducible rfl)
      (try simp only [Act.put, List.setIfInBounds_toArray, List.set_cons_zero, List.set_cons_succ])
      refine wpAnyZ_ready (rs := [16]) (by kernel_rfl) (by simp) ?_
      refine AllReadyZ.cons (o := ⟨_, _, _, _, _, _⟩) rfl (fun C hC => ?_) AllReadyZ.nil
      go_simp
      refine hC.out _ _ (zfree_no (by kernel_rfl)) (fun _ => ?_)
      clear hC C
      (try simp only [Act.put, List.setIfInBounds_toArray, List.set_cons_zero, List.set_cons_succ])
      refine wpAnyZ_done (by kernel_rfl) ?_ _
      refine NoPanic.normal ?_
      clear hHeld
      obtain ⟨w3, hw3⟩ : ∃ w3, w3 = u2.setCell ⟨w.heap.size + 3, 2, none⟩ (.slice ad2 (n0 + 1) cap2) := ⟨_, rfl⟩
      have HA3 : Hid (AS w po xo b1 b2 (.slice ad2 (n0 + 1) cap2) o0 w3) := by show AS _ _ _ _ _ _ _ _; rw [hw3]; exact HA2.out.s2 _
      have HR3 : Hid (RowAt trK w3 ad2 (n0 + 1) cap2 (l0 ++ [⟨b3, lv, b0⟩])) := by show RowAt _ _ _ _ _ _; rw [hw3]; exact HR2.out.off (fun a ha => by have := (HK2.out a ha).1; omega) _ _
      have HK3 : Hid (∀ a, ad2 = some a → w.heap.size + 4 ≤ a.block ∧ a.block < w3.heap.size) := fun a ha => by rw [hw3, size_set]; exact HK2.out a ha
      rw [show w.heap.size + 1 + 1 + 1 = w.heap.size + 3 from rfl, ← hw3]
      clear hw3 HA2 HR2 HA HAd HOd HR0 HK0 HXC HO HK2
      obtain ⟨k, hk⟩ : ∃ k, k = n0 + 1 - 5 := ⟨_, rfl⟩
      obtain ⟨ad4, cap4, hcut, hr4, hk4⟩ := row_from trK_ok HR3.out k (by omega)
      have hcut : ∀ W, (Instr.slice 76 (.slice ad2 (n0 + 1) cap2) (some (.int .i64 (k : Int))) none none).run Tryz.prog W = .ok (.slice ad4 (n0 + 1 - k) cap4) W := hcut
      have hmx : (if (n0 : Int) + 1 - 5 < 0 then 0 else (n0 : Int) + 1 - 5) = (k : Int) := by split <;> omega
      have HK4 : Hid (∀ a, ad4 = some a → w.heap.size + 4 ≤ a.block ∧ a.block < w3.heap.size) := fun a ha => by
        obtain ⟨a0, h0, h1⟩ := hk4 a ha
        rw [h1]; exact HK3.out a0 h0
      obtain ⟨l4, hl4⟩ : ∃ l4, l4 = (l0 ++ [(⟨b3, lv, b0⟩ : Tr)]).drop k := ⟨_, rfl⟩
      have HPF : Hid (∀ oz, oz = (if b4 = true ∧ o0 < 0 then b0 else o0) → p = ⟨b1, b2, l4, oz⟩) := by
        intro oz hoz
        rw [HPE.out oz hoz, hl4, hk]
        unfold newLast
        rw [HLN.out]
      rw [← hl4] at hr4
      have HR4 := Lib.hid hr4
      have HKK := Lib.hid hk
      clear hr4 hk4 hl4 HPE HR3 HK3 hk
      have o0_ := HA3.out.ob.c2
      have g2 := HA3.out.ob.free 2
      go_upto_region 11 with fail
      obtain ⟨n4, hn4⟩ : ∃ n4, n4 = n0 + 1 - k := ⟨_, rfl⟩
      rw [← hn4] at HR4
      rw [← hn4]
      obtain ⟨w4, hw4⟩ : ∃ w4, w4 = w3.setCell ⟨w.heap.size + 3, 2, none⟩ (.slice ad4 n4 cap4) := ⟨_, rfl⟩
      have HA4 : Hid (AS w po xo b1 b2 (.slice ad4 n4 cap4) o0 w4) := by show AS _ _ _ _ _ _ _ _; rw [hw4]; exact HA3.out.s2 _
      have HR5 : Hid (RowAt trK w4 ad4 n4 cap4 l4) := by show RowAt _ _ _ _ _ _; rw [hw4]; exact HR4.out.off (fun a ha => by have := (HK4.out a ha).1; omega) _ _
      have HK5 : Hid (∀ a, ad4 = some a → w.heap.size + 4 ≤ a.block ∧ a.block < w4.heap.size) := fun a ha => by rw [hw4, size_set]; exact HK4.out a ha
      rw [← hw4]
      clear hw4 HA3 HR4 HK4 hcut hmx hn4 o0_ g2 KS
      have hX : BoxAt w4 (w.heap.size + 1) b0 b1 b2 b3 b4 b5 (.slice rd rn rc) := by have := HA4.out.xb; rw [HXO.out] at this; exact this
      have p0 := hX.c0
      have p4 := hX.c4
      clear hX
      have oc0 := HA4.out.ob.c0
      have g0 := HA4.out.ob.free 0
      have r0 := HA4.out.rb.c0
      have f0 := HA4.out.rb.free 0
      have oc1 := HA4.out.ob.c1
      have g1 := HA4.out.ob.free 1
      have r1 := HA4.out.rb.c1
      have f1 := HA4.out.rb.free 1
      have oc2 := HA4.out.ob.c2
      have g2 := HA4.out.ob.free 2
      have r2 := HA4.out.rb.c2
      have f2 := HA4.out.rb.free 2
      have oc3 := HA4.out.ob.c3
      have g3 := HA4.out.ob.free 3
      have r3 := HA4.out.rb.c3
      have f3 := HA4.out.rb.free 3
      cases b4
      · have HP : Hid (p = ⟨b1, b2, l4, o0⟩) := HPF.out o0 (by simp)
        clear HPF
        go_wp2
        exact bodyPost_ret (resultsApply ((((HA4.out.rb.s0 b1).s1 b2).s2 (.slice ad4 n4 cap4)).s3 o0) rfl) rfl (gives_apply HA4.out HP.out HR5.out HK5.out)
      · by_cases hlt : o0 < 0
        · have hd9 : decide (o0 < 0) = true := decide_eq_true hlt
          have HP : Hid (p = ⟨b1, b2, l4, b0⟩) := HPF.out b0 (by simp [hlt])
          clear HPF hlt
          go_wp2
          exact bodyPost_ret (resultsApply (((((HA4.out.s3 b0).rb.s0 b1).s1 b2).s2 (.slice ad4 n4 cap4)).s3 b0) rfl) rfl (gives_apply (HA4.out.s3 b0) HP.out (HR5.out.off (fun a ha => by have := (HK5.out a ha).1; omega) _ _) (fun a ha => by rw [size_set]; exact HK5.out a ha))
        · have hd9 : decide (o0 < 0) = false := decide_eq_false hlt
          have HP : Hid (p = ⟨b1, b2, l4, o0⟩) := HPF.out o0 (by simp [hlt])
          clear HPF hlt
          go_wp2
          exact bodyPost_ret (resultsApply ((((HA4.out.rb.s0 b1).s1 b2).s2 (.slice ad4 n4 cap4)).s3 o0) rfl) rfl (gives_apply HA4.out HP.out HR5.out HK5.out)
    · have hd : (b5 == 0) = false := beq_false_of_ne hm
      have HPE := Lib.hid (HPE1.out hm)
      clear HPE1 HPE2 hm
      have oc0 := HA.out.ob.c0
      have g0 := HA.out.ob.free 0
      have r0 := HA.out.rb.c0
      have f0 := HA.out.rb.free 0
      have oc1 := HA.out.ob.c1
      have g1 := HA.out.ob.free 1
      have r1 := HA.out.rb.c1
      have f1 := HA.out.rb.free 1
      have oc2 := HA.out.ob.c2
      have g2 := HA.out.ob.free 2
      have r2 := HA.out.rb.c2
      have f2 := HA.out.rb.free 2
      have oc3 := HA.out.ob.c3
      have g3 := HA.out.ob.free 3
      have r3 := HA.out.rb.c3
      have f3 := HA.out.rb.free 3
      go_wp2
      exact bodyPost_ret (resultsApply (((((HA.out.s3 (-1)).rb.s0 b1).s1 b2).s2 (.slice ad0 n0 cap0)).s3 (-1)) rfl) rfl (gives_apply (HA.out.s3 (-1)) HPE.out (HR0.out.off (fun a ha => by have := (HK0.out a ha).1; omega) _ _) (fun a ha => by rw [size_set]; exact HK0.out a ha))
end Go.Proofs.YtgohekjkbgfeeaaGreat
namespace Go.Proofs.YtgohekjkbgfeeaaGreat
open Go.RowKit
open Go.SeqMath
open Go.ProdMath
open Go.BatMath hiding AllB getD_lt take_all
set_option linter.unusedVariables false

/-- A block that is a table. -/
def TabBox (w : World) (kt : Nat) (v : Value) : Prop := w.heap[kt]? = some (.cells #[v] 35 (0, 0))
section
variable {w w' : World} {kt : Nat} {v : Value}
theorem TabBox.c0 (h : TabBox w kt v) : w.cell? ⟨kt, 0, none⟩ = some v := by rw [cell_of_row _ _ 0 _ _ _ h]; rfl
theorem TabBox.free (h : TabBox w kt v) (j : Nat) : w.frozen? ⟨kt, j, none⟩ = false := frozen_of_row w kt j _ _ h
theorem TabBox.lt (h : TabBox w kt v) : kt < w.heap.size := lt_of_block h
theorem TabBox.on (h : TabBox w kt v) (hb : Below w.heap.size w w') : TabBox w' kt v := by
  have hlt := h.lt
  unfold TabBox at *
  rw [hb.block kt hlt]
  exact h
theorem TabBox.s0 (h : TabBox w kt v) (u : Value) : TabBox (w.setCell ⟨kt, 0, none⟩ u) kt u := box_set h 0 _
end
/-- A table of these producers. -/
structure TabAt (w : World) (kt : Nat) (ad : Option Addr) (len cap : Nat) (ms : List PM) : Prop where
  box : TabBox w kt (.slice ad len cap)
  pds : PdsAt w ad len cap ms
theorem TabAt.keep {w w' : World} {kt : Nat} {ad : Option Addr} {len cap : Nat} {ms : List PM} (h : TabAt w kt ad len cap ms) (hb : Below w.heap.size w w') : TabAt w' kt ad len cap ms := ⟨h.box.on hb, h.pds.keep hb⟩
def pds (ms : List PM) : List Pd := ms.map (·.p)
def GivesAt (w : World) (i : Nat) (b : Bool) (e : Ending) (w' : World) : Prop := e = .returned (.tuple #[.int .i64 (i : Int), .bool b]) ∧ Below w.heap.size w w'
theorem gives_at {w w' : World} {i j : Nat} {b c : Bool} (h1 : j = i) (h2 : c = b) (hb : Below w.heap.size w w') : GivesAt w i b (.returned (.tuple #[.int .i64 (j : Int), .bool c])) w' := ⟨by rw [h1, h2], hb⟩
theorem has_at {l : List Pd} {id : Int} {i : Nat} {p : Pd} (hi : atD l id = i) (hp : l[i]? = some p) : hasD l id = decide (p.id = id) := by unfold hasD; rw [hi, hp]
theorem has_end {l : List Pd} {id : Int} {i : Nat} (hi : atD l id = i) (hp : l.length ≤ i) : hasD l id = false := by unfold hasD; rw [hi, List.getElem?_eq_none hp]
set_option maxRecDepth 100000 in
set_option maxHeartbeats 4000000 in
theorem tabAt_any (w : World) (kt : Nat) (ad : Option Addr) (len cap : Nat) (ms : List PM) (h : TabAt w kt ad len cap ms) (hL : len ≤ 100000000000) (id : Int) :
    Calls Tryz.prog 57 #[.pointer (some ⟨kt, 0, none⟩), .int .i64 id] w (GivesAt w (atD (pds ms) id) (hasD (pds ms) id)) := by
  have H := Lib.hid h
  have hlen := h.pds.row.length
  obtain ⟨l, hl⟩ : ∃ l, l = pds ms := ⟨_, rfl⟩
  have hll : l.length = len := by rw [hl]; unfold pds; rw [List.length_map]; exact hlen
  have HGET : Hid (∀ (i : Nat) m, ms[i]? = some m → l[i]? = some m.p) := by
    intro i m hm
    rw [hl]; unfold pds
    rw [List.getElem?_map, hm]; rfl
  rw [← hl]
  clear h hl hlen
  go_enter Tryz.func57, Tryz.ntmps57
  go_wp2
  go_loopw [6] (fun v6 wr => ∃ i : Nat, v6 = .int .i64 (i : Int) ∧ i ≤ atD l id ∧ Below w.heap.size w wr) (fun v6 _ => len - (intOf v6).toNat)
  case atStart => exact ⟨0, rfl, Nat.zero_le _, Below.refl _ _⟩
  case round =>
    obtain ⟨i, rfl, hi, hbel⟩ := hrel
    have HB := Lib.hid hbel
    have HI := Lib.hid hi
    have hil : i ≤ len := by have := atD_le l id; omega
    clear hbel hi
    have HT := Lib.hid (H.out.keep HB.out)
    have t0 := HT.out.box.c0
    by_cases hlt : i < len
    · have hd : decide (i < len) = true := decide_eq_true hlt
      have hij : (i : Int) < (len : Int) := by omega
      obtain ⟨bk, off, m, rfl, hbk, hm, _, c0, _, _, _⟩ := HT.out.pds.get hlt
      have hp := HGET.out i m hm
      by_cases hid : m.p.id < id
      · have hd2 : decide (m.p.id < id) = true := decide_eq_true hid
        have HS : Hid (i + 1 ≤ atD l id) := (atD_step l id i m.p HI.out hp).1 hid
        clear hp hm hid
        go_wp2
        go_roundw
        case rel => exact ⟨i + 1, by go_num, HS.out, HB.out⟩
        case measure => simp [intOf]; omega
      · have hd2 : decide (m.p.id < id) = false := decide_eq_false hid
        have hat : atD l id = i := by
          have h1 := HI.out
          have h2 := atD_step l id i m.p HI.out hp
          have h3 : ¬ (i + 1 ≤ atD l id) := fun h => hid (h2.2 h)
          omega
        have HAT := Lib.hid hat
        have HHAS := Lib.hid (has_at hat hp)
        have KS : Hid (∀ W, Below wr.heap.size wr W → (fun (W : World) => W.cell? ⟨kt, 0, none⟩ = some (.slice (some ⟨bk, off, none⟩) len cap) ∧ W.cell? ⟨bk, off + i * 4, none⟩ = some (.int .i64 m.p.id)) W) := by
          intro W hW
          refine ⟨(HT.out.keep hW).box.c0, ?_⟩
          rw [hW.cell (p := ⟨bk, off + i * 4, none⟩) (World.block_lt_of_cell? _ _ c0)]
          exact c0
        have hb1d : Below wr.heap.size wr wr.drew := (Below.refl _ wr).drew
        clear hat hp hm hid hbk
        go_upto_region 4 with fail
        clear c0 t0
        refine wp_region_noPanic ?_
        refine wp_region_z [] (fun (W : World) => W.cell? ⟨kt, 0, none⟩ = some (.slice (some ⟨bk, off, none⟩) len cap) ∧ W.cell? ⟨bk, off + i * 4, none⟩ = some (.int .i64 m.p.id)) (by kernel_rfl) ?_
        have hHeld : (fun (W : World) => W.cell? ⟨kt, 0, none⟩ = some (.slice (some ⟨bk, off, none⟩) len cap) ∧ W.cell? ⟨bk, off + i * 4, none⟩ = some (.int .i64 m.p.id)) _ := KS.out _ hb1d
        obtain ⟨u0, hu0⟩ : ∃ u, u = wr.drew := ⟨_, rfl⟩
        rw [← hu0] at hHeld hb1d
        rw [← hu0]
        clear hu0
        have HU := Lib.hid hb1d
        clear hb1d
        refine wpAnyZ_take (i := 0) (oi := ⟨_, _, _, _, _, _⟩) (v := ?_) rfl (by kernel_rfl) (by kernel_rfl) (by kernel_rfl) (by kernel_rfl) (by kernel_rfl) (fun _ _ _ h => h) (Or.inl ⟨by rfl, ?_⟩) (by assumption) ?_
        rotate_left
        · intro W hSw
          (try dsimp only at hSw)
          go_simp
          (try with_reducible rfl)
        (try simp only [Act.put, List.setIfInBounds_toArray, List.set_cons_zero, List.set_cons_succ])
        refine wpAnyZ_take (i := 1) (oi := ⟨_, _, _, _, _, _⟩) (v := ?_) rfl (by kernel_rfl) (by kernel_rfl) (by kernel_rfl) (by kernel_rfl) (by kernel_rfl) (fun _ _ _ h => h) (Or.inl ⟨by rfl, ?_⟩) (by assumption) ?_
        rotate_left
        · intro W hSw
          (try dsimp only at hSw)
          go_simp
          (try with_reducible rfl)
        (try simp only [Act.put, List.setIfInBounds_toArray, List.set_cons_zero, List.set_cons_succ])
        refine wpAnyZ_take (i := 2) (oi := ⟨_, _, _, _, _, _⟩) (v := ?_) rfl (by kernel_rfl) (by kernel_rfl) (by kernel_rfl) (by kernel_rfl) (by kernel_rfl) (fun _ _ _ h => h) (Or.inl ⟨by rfl, ?_⟩) (by assumption) ?_
        rotate_left
        · intro W hSw
          (try dsimp only at hSw)
          go_simp
          (try with_reducible rfl)
        (try simp only [Act.put, List.setIfInBounds_toArray, List.set_cons_zero, List.set_cons_succ])
        refine wpAnyZ_take (i := 3) (oi := ⟨_, _, _, _, _, _⟩) (v := ?_) rfl (by kernel_rfl) (by kernel_rfl) (by kernel_rfl) (by kernel_rfl) (by kernel_rfl) (fun _ _ _ h => h) (Or.inl ⟨by rfl, ?_⟩) (by assumption) ?_
        rotate_left
        · intro W hSw
          (try dsimp only at hSw)
          go_simp
          (try with_reducible rfl)
        (try simp only [Act.put, List.setIfInBounds_toArray, List.set_cons_zero, List.set_cons_succ])
        refine wpAnyZ_take (i := 4) (oi := ⟨_, _, _, _, _, _⟩) (v := ?_) rfl (by kernel_rfl) (by kernel_rfl) (by kernel_rfl) (by kernel_rfl) (by kernel_rfl) (fun _ _ _ h => h) (Or.inl ⟨by rfl, ?_⟩) (by assumption) ?_
        rotate_left
        · intro W hSw
          (try dsimp only at hSw)
          go_simp
          (try with_reducible rfl)
        (try simp only [Act.put, List.setIfInBounds_toArray, List.set_cons_zero, List.set_cons_succ])
        refine wpAnyZ_take (i := 5) (oi := ⟨_, _, _, _, _, _⟩) (v := ?_) rfl (by kernel_rfl) (by kernel_rfl) (by kernel_rfl) (by kernel_rfl) (by kernel_rfl) (fun _ _ _ h => h) (Or.inl ⟨by rfl, ?_⟩) (by assumption) ?_
        rotate_left
        · intro W hSw
          (try dsimp only at hSw)
          go_simp
          (try with_reducible rfl)
        (try simp only [Act.put, List.setIfInBounds_toArray, List.set_cons_zero, List.set_cons_succ])
        refine wpAnyZ_take (i := 6) (oi := ⟨_, _, _, _, _, _⟩) (v := ?_) rfl (by kernel_rfl) (by kernel_rfl) (by kernel_rfl) (by kernel_rfl) (by kernel_rfl) (fun _ _ _ h => h) (Or.inl ⟨by rfl, ?_⟩) (by assumption) ?_
        rotate_left
        · intro W hSw
          (try dsimp only at hSw)
          go_simp
          (try with_reducible rfl)
        (try simp only [Act.put, List.setIfInBounds_toArray, List.set_cons_zero, List.set_cons_succ])
        refine wpAnyZ_take (i := 7) (oi := ⟨_, _, _, _, _, _⟩) (v := ?_) rfl (by kernel_rfl) (by kernel_rfl) (by kernel_rfl) (by kernel_rfl) (by kernel_rfl) (fun _ _ _ h => h) (Or.inl ⟨by rfl, ?_⟩) (by assumption) ?_
        rotate_left
        · intro W hSw
          (try dsimp only at hSw)
          go_simp
          (try with_reducible rfl)
        (try simp only [Act.put, List.setIfInBounds_toArray, List.set_cons_zero, List.set_cons_succ])
        refine wpAnyZ_take (i := 8) (oi := ⟨_, _, _, _, _, _⟩) (v := ?_) rfl (by kernel_rfl) (by kernel_rfl) (by kernel_rfl) (by kernel_rfl) (by kernel_rfl) (fun _ _ _ h => h) (Or.inl ⟨by rfl, ?_⟩) (by assumption) ?_
        rotate_left
        · intro W hSw
          (try dsimp only at hSw)
          go_simp
          (try with_reducible rfl)
        (try simp only [Act.put, List.setIfInBounds_toArray, List.set_cons_zero, List.set_cons_succ])
        refine wpAnyZ_take (i := 9) (oi := ⟨_, _, _, _, _, _⟩) (v := ?_) rfl (by kernel_rfl) (by kernel_rfl) (by kernel_rfl) (by kernel_rfl) (by kernel_rfl) (fun _ _ _ h => h) (Or.inl ⟨by rfl, ?_⟩) (by assumption) ?_
        rotate_left
        · intro W hSw
          (try dsimp only at hSw)
          go_simp
          (try with_reducible rfl)
        (try simp only [Act.put, List.setIfInBounds_toArray, List.set_cons_zero, List.set_cons_succ])
        refine wpAnyZ_take (i := 10) (oi := ⟨_, _, _, _, _, _⟩) (v := ?_) rfl (by kernel_rfl) (by kernel_rfl) (by kernel_rfl) (by kernel_rfl) (by kernel_rfl) (fun _ _ _ h => h) (Or.inl ⟨by rfl, ?_⟩) (by assumption) ?_
        rotate_left
        · intro W hSw
          (try dsimp only at hSw)
          go_simp
          (try with_reducible rfl)
        (try simp only [Act.put, List.setIfInBounds_toArray, List.set_cons_zero, List.set_cons_succ])
        refine wpAnyZ_take (i := 11) (oi := ⟨_, _, _, _, _, _⟩) (v := ?_) rfl (by kernel_rfl) (by kernel_rfl) (by kernel_rfl) (by kernel_rfl) (by kernel_rfl) (fun _ _ _ h => h) (Or.inl ⟨by rfl, ?_⟩) (by assumption) ?_
        rotate_left
        · intro W hSw
          (try dsimp only at hSw)
          go_simp
          (try with_reducible rfl)
        (try simp only [Act.put, List.setIfInBounds_toArray, List.set_cons_zero, List.set_cons_succ])
        refine wpAnyZ_take (i := 12) (oi := ⟨_, _, _, _, _, _⟩) (v := ?_) rfl (by kernel_rfl) (by kernel_rfl) (by kernel_rfl) (by kernel_rfl) (by kernel_rfl) (fun _ _ _ h => h) (Or.inl ⟨by rfl, ?_⟩) (by assumption) ?_
        rotate_left
        · intro W hSw
          (try dsimp only at hSw)
          go_simp
          (try with_reducible rfl)
        (try simp only [Act.put, List.setIfInBounds_toArray, List.set_cons_zero, List.set_cons_succ])
        refine wpAnyZ_take (i := 13) (oi := ⟨_, _, _, _, _, _⟩) (v := ?_) rfl (by kernel_rfl) (by kernel_rfl) (by kernel_rfl) (by kernel_rfl) (by kernel_rfl) (fun _ _ _ h => h) (Or.inl ⟨by rfl, ?_⟩) (by assumption) ?_
        rotate_left
        · intro W hSw
          (try dsimp only at hSw)
          go_simp
          (try with_reducible rfl)
        (try simp only [Act.put, List.setIfInBounds_toArray, List.set_cons_zero, List.set_cons_succ])
        refine wpAnyZ_take (i := 14) (oi := ⟨_, _, _, _, _, _⟩) (v := ?_) rfl (by kernel_rfl) (by kernel_rfl) (by kernel_rfl) (by kernel_rfl) (by kernel_rfl) (fun _ _ _ h => h) (Or.inl ⟨by rfl, ?_⟩) (by assumption) ?_
        rotate_left
        · intro W hSw
          (try dsimp only at hSw)
          go_simp
          (try with_reducible rfl)
        (try simp only [Act.put, List.setIfInBounds_toArray, List.set_cons_zero, List.set_cons_succ])
        refine wpAnyZ_take (i := 15) (oi := ⟨_, _, _, _, _, _⟩) (v := ?_) rfl (by kernel_rfl) (by kernel_rfl) (by kernel_rfl) (by kernel_rfl) (by kernel_rfl) (fun _ _ _ h => h) (Or.inl ⟨by rfl, ?_⟩) (by assumption) ?_
        rotate_left
        · intro W hSw
          (try dsimp only at hSw)
          go_simp
          (try with_reducible rfl)
        (try simp only [Act.put, List.setIfInBounds_toArray, List.set_cons_zero, List.set_cons_succ])
        refine wpAnyZ_take (i := 16) (oi := ⟨_, _, _, _, _, _⟩) (v := ?_) rfl (by kernel_rfl) (by kernel_rfl) (by kernel_rfl) (by kernel_rfl) (by kernel_rfl) (fun _ _ _ h => h) (Or.inl ⟨by rfl, ?_⟩) (by assumption) ?_
        rotate_left
        · intro W hSw
          (try dsimp only at hSw)
          go_simp
          (try with_reducible rfl)
        (try simp only [Act.put, List.setIfInBounds_toArray, List.set_cons_zero, List.set_cons_succ])
        refine wpAnyZ_take (i := 17) (oi := ⟨_, _, _, _, _, _⟩) (v := ?_) rfl (by kernel_rfl) (by kernel_rfl) (by kernel_rfl) (by kernel_rfl) (by kernel_rfl) (fun _ _ _ h => h) (Or.inl ⟨by rfl, ?_⟩) (by assumption) ?_
        rotate_left
        · intro W hSw
          (try dsimp only at hSw)
          go_simp
          (try with_reducible rfl)
        (try simp only [Act.put, List.setIfInBounds_toArray, List.set_cons_zero, List.set_cons_succ])
        refine wpAnyZ_take (i := 18) (oi := ⟨_, _, _, _, _, _⟩) (v := ?_) rfl (by kernel_rfl) (by kernel_rfl) (by kernel_rfl) (by kernel_rfl) (by kernel_rfl) (fun _ _ _ h => h) (Or.inl ⟨by rfl, ?_⟩) (by assumption) ?_
        rotate_left
        · intro W hSw
          (try dsimp only at hSw)
          go_simp
          (try with_reducible rfl)
        (try simp only [Act.put, List.setIfInBounds_toArray, List.set_cons_zero, List.set_cons_succ])
        refine wpAnyZ_take (i := 19) (oi := ⟨_, _, _, _, _, _⟩) (v := ?_) rfl (by kernel_rfl) (by kernel_rfl) (by kernel_rfl) (by kernel_rfl) (by kernel_rfl) (fun _ _ _ h => h) (Or.inl ⟨by rfl, ?_⟩) (by assumption) ?_
        rotate_left
        · intro W hSw
          (try dsimp only at hSw)
          go_simp
          (try with_reducible rfl)
        (try simp only [Act.put, List.setIfInBounds_toArray, List.set_cons_zero, List.set_cons_succ])
        refine wpAnyZ_take (i := 20) (oi := ⟨_, _, _, _, _, _⟩) (v := ?_) rfl (by kernel_rfl) (by kernel_rfl) (by kernel_rfl) (by kernel_rfl) (by kernel_rfl) (fun _ _ _ h => h) (Or.inl ⟨by rfl, ?_⟩) (by assumption) ?_
        rotate_left
        · intro W hSw
          (try dsimp only at hSw)
          go_simp
          (try with_reducible rfl)
        (try simp only [Act.put, List.setIfInBounds_toArray, List.set_cons_zero, List.set_cons_succ])
        refine wpAnyZ_take (i := 21) (oi := ⟨_, _, _, _, _, _⟩) (v := ?_) rfl (by kernel_rfl) (by kernel_rfl) (by kernel_rfl) (by kernel_rfl) (by kernel_rfl) (fun _ _ _ h => h) (Or.inl ⟨by rfl, ?_⟩) (by assumption) ?_
        rotate_left
        · intro W hSw
          (try dsimp only at hSw)
          go_simp
          (try with_reducible rfl)
        (try simp only [Act.put, List.setIfInBounds_toArray, List.set_cons_zero, List.set_cons_succ])
        refine wpAnyZ_done (by kernel_rfl) ?_ _
        refine NoPanic.normal ?_
        clear hHeld
        go_wp2
        go_ret2
        exact gives_at HAT.out.symm (by rw [HHAS.out, beq_dec]) (HB.out.trans (HU.out.mono HB.out.size))
    · have hd : decide (i < len) = false := decide_eq_false hlt
      have hat : atD l id = i := by have := atD_le l id; have := HI.out; omega
      have HAT := Lib.hid hat
      have HHAS := Lib.hid (has_end hat (by omega))
      have KS : Hid (∀ W, Below wr.heap.size wr W → (fun (W : World) => W.cell? ⟨kt, 0, none⟩ = some (.slice ad len cap)) W) := fun W hW => (HT.out.keep hW).box.c0
      have hb1d : Below wr.heap.size wr wr.drew := (Below.refl _ wr).drew
      clear hat
      go_upto_region 4 with fail
      clear t0
      refine wp_region_noPanic ?_
      refine wp_region_z [] (fun (W : World) => W.cell? ⟨kt, 0, none⟩ = some (.slice ad len cap)) (by kernel_rfl) ?_
      have hHeld : (fun (W : World) => W.cell? ⟨kt, 0, none⟩ = some (.slice ad len cap)) _ := KS.out _ hb1d
      obtain ⟨u0, hu0⟩ : ∃ u, u = wr.drew := ⟨_, rfl⟩
      rw [← hu0] at hHeld hb1d
      rw [← hu0]
      clear hu0
      have HU := Lib.hid hb1d
      clear hb1d
      refine wpAnyZ_take (i := 0) (oi := ⟨_, _, _, _, _, _⟩) (v := ?_) rfl (by kernel_rfl) (by kernel_rfl) (by kernel_rfl) (by kernel_rfl) (by kernel_rfl) (fun _ _ _ h => h) (Or.inl ⟨by rfl, ?_⟩) (by assumption) ?_
      rotate_left
      · intro W hSw
        (try dsimp only at hSw)
        go_simp
        (try with_reducible rfl)
      (try simp only [Act.put, List.setIfInBounds_toArray, List.set_cons_zero, List.set_cons_succ])
      refine wpAnyZ_take (i := 1) (oi := ⟨_, _, _, _, _, _⟩) (v := ?_) rfl (by kernel_rfl) (by kernel_rfl) (by kernel_rfl) (by kernel_rfl) (by kernel_rfl) (fun _ _ _ h => h) (Or.inl ⟨by rfl, ?_⟩) (by assumption) ?_
      rotate_left
      · intro W hSw
        (try dsimp only at hSw)
        go_simp
        (try with_reducible rfl)
      (try simp only [Act.put, List.setIfInBounds_toArray, List.set_cons_zero, List.set_cons_succ])
      refine wpAnyZ_take (i := 2) (oi := ⟨_, _, _, _, _, _⟩) (v := ?_) rfl (by kernel_rfl) (by kernel_rfl) (by kernel_rfl) (by kernel_rfl) (by kernel_rfl) (fun _ _ _ h => h) (Or.inl ⟨by rfl, ?_⟩) (by assumption) ?_
      rotate_left
      · intro W hSw
        (try dsimp only at hSw)
        go_simp
        (try with_reducible rfl)
      (try simp only [Act.put, List.setIfInBounds_toArray, List.set_cons_zero, List.set_cons_succ])
      refine wpAnyZ_take (i := 3) (oi := ⟨_, _, _, _, _, _⟩) (v := ?_) rfl (by kernel_rfl) (by kernel_rfl) (by kernel_rfl) (by kernel_rfl) (by kernel_rfl) (fun _ _ _ h => h) (Or.inl ⟨by rfl, ?_⟩) (by assumption) ?_
      rotate_left
      · intro W hSw
        (try dsimp only at hSw)
        go_simp
        (try with_reducible rfl)
      (try simp only [Act.put, List.setIfInBounds_toArray, List.set_cons_zero, List.set_cons_succ])
      refine wpAnyZ_take (i := 4) (oi := ⟨_, _, _, _, _, _⟩) (v := ?_) rfl (by kernel_rfl) (by kernel_rfl) (by kernel_rfl) (by kernel_rfl) (by kernel_rfl) (fun _ _ _ h => h) (Or.inl ⟨by rfl, ?_⟩) (by assumption) ?_
      rotate_left
      · intro W hSw
        (try dsimp only at hSw)
        go_simp
        (try with_reducible rfl)
      (try simp only [Act.put, List.setIfInBounds_toArray, List.set_cons_zero, List.set_cons_succ])
      refine wpAnyZ_take (i := 5) (oi := ⟨_, _, _, _, _, _⟩) (v := ?_) rfl (by kernel_rfl) (by kernel_rfl) (by kernel_rfl) (by kernel_rfl) (by kernel_rfl) (fun _ _ _ h => h) (Or.inl ⟨by rfl, ?_⟩) (by assumption) ?_
      rotate_left
      · intro W hSw
        (try dsimp only at hSw)
        go_simp
        (try with_reducible rfl)
      (try simp only [Act.put, List.setIfInBounds_toArray, List.set_cons_zero, List.set_cons_succ])
      refine wpAnyZ_take (i := 6) (oi := ⟨_, _, _, _, _, _⟩) (v := ?_) rfl (by kernel_rfl) (by kernel_rfl) (by kernel_rfl) (by kernel_rfl) (by kernel_rfl) (fun _ _ _ h => h) (Or.inl ⟨by rfl, ?_⟩) (by assumption) ?_
      rotate_left
      · intro W hSw
        (try dsimp only at hSw)
        go_simp
        (try with_reducible rfl)
      (try simp only [Act.put, List.setIfInBounds_toArray, List.set_cons_zero, List.set_cons_succ])
      refine wpAnyZ_take (i := 7) (oi := ⟨_, _, _, _, _, _⟩) (v := ?_) rfl (by kernel_rfl) (by kernel_rfl) (by kernel_rfl) (by kernel_rfl) (by kernel_rfl) (fun _ _ _ h => h) (Or.inl ⟨by rfl, ?_⟩) (by assumption) ?_
      rotate_left
      · intro W hSw
        (try dsimp only at hSw)
        go_simp
        (try with_reducible rfl)
      (try simp only [Act.put, List.setIfInBounds_toArray, List.set_cons_zero, List.set_cons_succ])
      refine wpAnyZ_take (i := 8) (oi := ⟨_, _, _, _, _, _⟩) (v := ?_) rfl (by kernel_rfl) (by kernel_rfl) (by kernel_rfl) (by kernel_rfl) (by kernel_rfl) (fun _ _ _ h => h) (Or.inl ⟨by rfl, ?_⟩) (by assumption) ?_
      rotate_left
      · intro W hSw
        (try dsimp only at hSw)
        go_simp
        (try with_reducible rfl)
      (try simp only [Act.put, List.setIfInBounds_toArray, List.set_cons_zero, List.set_cons_succ])
      refine wpAnyZ_take (i := 9) (oi := ⟨_, _, _, _, _, _⟩) (v := undef) rfl (by kernel_rfl) (by kernel_rfl) (by kernel_rfl) (by kernel_rfl) (by kernel_rfl) (fun _ _ _ h => h) (Or.inr ⟨by rfl, rfl⟩) (by assumption) ?_
      (try simp only [Act.put, List.setIfInBounds_toArray, List.set_cons_zero, List.set_cons_succ])
      refine wpAnyZ_take (i := 10) (oi := ⟨_, _, _, _, _, _⟩) (v := undef) rfl (by kernel_rfl) (by kernel_rfl) (by kernel_rfl) (by kernel_rfl) (by kernel_rfl) (fun _ _ _ h => h) (Or.inr ⟨by rfl, rfl⟩) (by assumption) ?_
      (try simp only [Act.put, List.setIfInBounds_toArray, List.set_cons_zero, List.set_cons_succ])
      refine wpAnyZ_take (i := 11) (oi := ⟨_, _, _, _, _, _⟩) (v := undef) rfl (by kernel_rfl) (by kernel_rfl) (by kernel_rfl) (by kernel_rfl) (by kernel_rfl) (fun _ _ _ h => h) (Or.inr ⟨by rfl, rfl⟩) (by assumption) ?_
      (try simp only [Act.put, List.setIfInBounds_toArray, List.set_cons_zero, List.set_cons_succ])
      refine wpAnyZ_take (i := 12) (oi := ⟨_, _, _, _, _, _⟩) (v := undef) rfl (by kernel_rfl) (by kernel_rfl) (by kernel_rfl) (by kernel_rfl) (by kernel_rfl) (fun _ _ _ h => h) (Or.inr ⟨by rfl, rfl⟩) (by assumption) ?_
      (try simp only [Act.put, List.setIfInBounds_toArray, List.set_cons_zero, List.set_cons_succ])
      refine wpAnyZ_take (i := 13) (oi := ⟨_, _, _, _, _, _⟩) (v := undef) rfl (by kernel_rfl) (by kernel_rfl) (by kernel_rfl) (by kernel_rfl) (by kernel_rfl) (fun _ _ _ h => h) (Or.inr ⟨by rfl, rfl⟩) (by assumption) ?_
      (try simp only [Act.put, List.setIfInBounds_toArray, List.set_cons_zero, List.set_cons_succ])
      refine wpAnyZ_take (i := 14) (oi := ⟨_, _, _, _, _, _⟩) (v := undef) rfl (by kernel_rfl) (by kernel_rfl) (by kernel_rfl) (by kernel_rfl) (by kernel_rfl) (fun _ _ _ h => h) (Or.inr ⟨by rfl, rfl⟩) (by assumption) ?_
      (try simp only [Act.put, List.setIfInBounds_toArray, List.set_cons_zero, List.set_cons_succ])
      refine wpAnyZ_take (i := 15) (oi := ⟨_, _, _, _, _, _⟩) (v := undef) rfl (by kernel_rfl) (by kernel_rfl) (by kernel_rfl) (by kernel_rfl) (by kernel_rfl) (fun _ _ _ h => h) (Or.inr ⟨by rfl, rfl⟩) (by assumption) ?_
      (try simp only [Act.put, List.setIfInBounds_toArray, List.set_cons_zero, List.set_cons_succ])
      refine wpAnyZ_take (i := 16) (oi := ⟨_, _, _, _, _, _⟩) (v := undef) rfl (by kernel_rfl) (by kernel_rfl) (by kernel_rfl) (by kernel_rfl) (by kernel_rfl) (fun _ _ _ h => h) (Or.inr ⟨by rfl, rfl⟩) (by assumption) ?_
      (try simp only [Act.put, List.setIfInBounds_toArray, List.set_cons_zero, List.set_cons_succ])
      refine wpAnyZ_take (i := 17) (oi := ⟨_, _, _, _, _, _⟩) (v := undef) rfl (by kernel_rfl) (by kernel_rfl) (by kernel_rfl) (by kernel_rfl) (by kernel_rfl) (fun _ _ _ h => h) (Or.inr ⟨by rfl, rfl⟩) (by assumption) ?_
      (try simp only [Act.put, List.setIfInBounds_toArray, List.set_cons_zero, List.set_cons_succ])
      refine wpAnyZ_take (i := 18) (oi := ⟨_, _, _, _, _, _⟩) (v := undef) rfl (by kernel_rfl) (by kernel_rfl) (by kernel_rfl) (by kernel_rfl) (by kernel_rfl) (fun _ _ _ h => h) (Or.inr ⟨by rfl, rfl⟩) (by assumption) ?_
      (try simp only [Act.put, List.setIfInBounds_toArray, List.set_cons_zero, List.set_cons_succ])
      refine wpAnyZ_take (i := 19) (oi := ⟨_, _, _, _, _, _⟩) (v := ?_) rfl (by kernel_rfl) (by kernel_rfl) (by kernel_rfl) (by kernel_rfl) (by kernel_rfl) (fun _ _ _ h => h) (Or.inl ⟨by rfl, ?_⟩) (by assumption) ?_
      rotate_left
      · intro W hSw
        (try dsimp only at hSw)
        go_simp
        (try with_reducible rfl)
      (try simp only [Act.put, List.setIfInBounds_toArray, List.set_cons_zero, List.set_cons_succ])
      refine wpAnyZ_take (i := 20) (oi := ⟨_, _, _, _, _, _⟩) (v := ?_) rfl (by kernel_rfl) (by kernel_rfl) (by kernel_rfl) (by kernel_rfl) (by kernel_rfl) (fun _ _ _ h => h) (Or.inl ⟨by rfl, ?_⟩) (by assumption) ?_
      rotate_left
      · intro W hSw
        (try dsimp only at hSw)
        go_simp
        (try with_reducible rfl)
      (try simp only [Act.put, List.setIfInBounds_toArray, List.set_cons_zero, List.set_cons_succ])
      refine wpAnyZ_take (i := 21) (oi := ⟨_, _, _, _, _, _⟩) (v := ?_) rfl (by kernel_rfl) (by kernel_rfl) (by kernel_rfl) (by kernel_rfl) (by kernel_rfl) (fun _ _ _ h => h) (Or.inl ⟨by rfl, ?_⟩) (by assumption) ?_
      rotate_left
      · intro W hSw
        (try dsimp only at hSw)
        go_simp
        (try with_reducible rfl)
      (try simp only [Act.put, List.setIfInBounds_toArray, List.set_cons_zero, List.set_cons_succ])
      refine wpAnyZ_done (by kernel_rfl) ?_ _
      refine NoPanic.normal ?_
      clear hHeld
      go_wp2
      go_ret2
      exact gives_at HAT.out.symm HHAS.out.symm (HB.out.trans (HU.out.mono HB.out.size))
end Go.Proofs.YtgohekjkbgfeeaaGreat
namespace Go.Proofs.YtgohekjkbgfeeaaGreat
open Go.RowKit
open Go.SeqMath
set_option linter.unusedVariables false

theorem seq_wrap (n : Int) (w : World) (v : Int) (h0 : -2147483648 ≤ n) (h1 : n ≤ 4294967295) (hv : n % 2147483648 = v) :
    Calls Tryz.prog 159 #[.int .i64 n] w fun e w' => e = .returned (.int .i64 v) ∧ w = w' := by
  have HV := Lib.hid hv
  clear hv
  go_enter Tryz.func159, Tryz.ntmps159
  go_wp2
  go_ret
  exact ⟨seq_ret (by have := HV.out; omega), rfl⟩
set_option maxHeartbeats 400000 in
theorem seq_add (n k : Int) (w : World) (v : Int) (k0 : -9223372036854775808 ≤ k) (k1 : k ≤ 9223372036854775807) (hv : addI n k = v) :
    Calls Tryz.prog 144 #[.int .i64 n, .int .i64 k] w fun e w' => e = .returned (.int .i64 v) ∧ w = w' := by
  rcases hr : rightB n with _ | _
  · have HV : Hid (v = -1) := by show _ = _; rw [← hv, add_no hr]
    have HR := Lib.hid hr
    clear hv hr
    go_enter Tryz.func144, Tryz.ntmps144
    go_wp2_with (go_at_call 111; refine (seq_right n _ false HR.out).mono ?_; rintro e w' ⟨rfl, rfl⟩)
    go_ret
    exact ⟨seq_ret HV.out.symm, rfl⟩
  · obtain ⟨n0, n1⟩ := of_right hr
    have HV : Hid ((n + k) % 2147483648 = v) := by show _ = _; rw [← hv, add_yes n0 n1]
    have HR := Lib.hid hr
    clear hv hr
    by_cases hk : 0 ≤ k
    · go_enter Tryz.func144, Tryz.ntmps144
      go_wp2_with (first | (go_at_call 111; refine (seq_right n _ true HR.out).mono ?_; rintro e w' ⟨rfl, rfl⟩) | (go_at_call 159; refine (seq_wrap _ _ v (by omega) (by omega) (by have := HV.out; omega)).mono ?_; rintro e w' ⟨rfl, rfl⟩))
      go_ret
      exact ⟨rfl, rfl⟩
    · have hk' : k < 0 := by omega
      obtain ⟨t, ht⟩ : ∃ t, t = k.tmod 2147483648 := ⟨_, rfl⟩
      have ht2 : t = -((-k) % 2147483648) := by
        rw [ht, ← Int.tmod_eq_emod_of_nonneg (by omega : 0 ≤ -k), Int.neg_tmod, Int.neg_neg]
      have HT : Hid (k.tmod 2147483648 = t) := ht.symm
      have HT2 := Lib.hid ht2
      have t0 : -2147483648 < t := by omega
      have t1 : t ≤ 0 := by omega
      have htt := HT.out
      clear ht ht2
      go_enter Tryz.func144, Tryz.ntmps144
      go_wp2_with (first | (go_at_call 111; refine (seq_right n _ true HR.out).mono ?_; rintro e w' ⟨rfl, rfl⟩) | (go_at_call 159; refine (seq_wrap _ _ v (by omega) (by omega) (by have := HV.out; have := HT2.out; omega)).mono ?_; rintro e w' ⟨rfl, rfl⟩))
      go_ret
      exact ⟨rfl, rfl⟩
end Go.Proofs.YtgohekjkbgfeeaaGreat
namespace Go.Proofs.YtgohekjkbgfeeaaGreat
open Go.RowKit
open Go.SeqMath
set_option linter.unusedVariables false

theorem seq_last (n c : Int) (w : World) (v : Int) (c0 : -9223372036854775808 ≤ c) (c1 : c ≤ 9223372036854775807) (hv : lastI n c = v) :
    Calls Tryz.prog 113 #[.int .i64 n, .int .i64 c] w fun e w' => e = .returned (.int .i64 v) ∧ w = w' := by
  by_cases h0 : c < 1
  · have HV : Hid (v = -1) := by show _ = _; rw [← hv, last_no (.inl h0)]
    clear hv
    go_enter Tryz.func113, Tryz.ntmps113
    go_wp2
    go_ret
    exact ⟨seq_ret HV.out.symm, rfl⟩
  · have h0' : 1 ≤ c := by omega
    by_cases h1 : 16 < c
    · have HV : Hid (v = -1) := by show _ = _; rw [← hv, last_no (.inr h1)]
      clear hv
      go_enter Tryz.func113, Tryz.ntmps113
      go_wp2
      go_ret
      exact ⟨seq_ret HV.out.symm, rfl⟩
    · have h1' : c ≤ 16 := by omega
      have HV : Hid (addI n (c - 1) = v) := by show _ = _; rw [← hv, last_yes h0' h1']
      clear hv
      go_enter Tryz.func113, Tryz.ntmps113
      go_wp2_with (go_at_call 144; refine (seq_add n _ _ v (by omega) (by omega) HV.out).mono ?_; rintro e w' ⟨rfl, rfl⟩)
      go_ret
      exact ⟨rfl, rfl⟩
end Go.Proofs.YtgohekjkbgfeeaaGreat
namespace Go.Proofs.YtgohekjkbgfeeaaGreat
open Go.RowKit
open Go.SeqMath
set_option linter.unusedVariables false

set_option maxHeartbeats 400000 in
theorem seq_gap (a b : Int) (w : World) (v : Int) (hv : gapI a b = v) :
    Calls Tryz.prog 157 #[.int .i64 a, .int .i64 b] w fun e w' => e = .returned (.int .i64 v) ∧ w = w' := by
  rcases ha : rightB a with _ | _
  · have HV : Hid (v = -1) := by show _ = _; rw [← hv, gap_no (.inl ha)]
    have HA := Lib.hid ha
    clear hv ha
    go_enter Tryz.func157, Tryz.ntmps157
    go_wp2_with (go_at_call 111; refine (seq_right a _ false HA.out).mono ?_; rintro e w' ⟨rfl, rfl⟩)
    go_ret
    exact ⟨seq_ret HV.out.symm, rfl⟩
  · rcases hb : rightB b with _ | _
    · have HV : Hid (v = -1) := by show _ = _; rw [← hv, gap_no (.inr hb)]
      have HA := Lib.hid ha
      have HB := Lib.hid hb
      clear hv ha hb
      go_enter Tryz.func157, Tryz.ntmps157
      go_wp2_with fail
      refine (seq_right a _ true HA.out).mono ?_
      rintro e w' ⟨rfl, rfl⟩
      go_wp2_with fail
      refine (seq_right b _ false HB.out).mono ?_
      rintro e w' ⟨rfl, rfl⟩
      go_wp2
      go_ret
      exact ⟨seq_ret HV.out.symm, rfl⟩
    · obtain ⟨a0, a1⟩ := of_right ha
      obtain ⟨b0, b1⟩ := of_right hb
      have HV : Hid ((b - a) % 2147483648 = v) := by show _ = _; rw [← hv, gap_yes a0 a1 b0 b1]
      have HA := Lib.hid ha
      have HB := Lib.hid hb
      clear hv ha hb
      go_enter Tryz.func157, Tryz.ntmps157
      go_wp2_with fail
      refine (seq_right a _ true HA.out).mono ?_
      rintro e w' ⟨rfl, rfl⟩
      go_wp2_with fail
      refine (seq_right b _ true HB.out).mono ?_
      rintro e w' ⟨rfl, rfl⟩
      go_wp2_with fail
      refine (seq_wrap _ _ v (by omega) (by omega) HV.out).mono ?_
      rintro e w' ⟨rfl, rfl⟩
      go_wp2
      go_ret
      exact ⟨rfl, rfl⟩
end Go.Proofs.YtgohekjkbgfeeaaGreat
namespace Go.Proofs.YtgohekjkbgfeeaaGreat
open Go.RowKit
open Go.SeqMath
set_option linter.unusedVariables false

set_option maxHeartbeats 400000 in
theorem seq_follows (l f : Int) (w : World) (r : Bool) (hr : followsB l f = r) :
    Calls Tryz.prog 158 #[.int .i64 l, .int .i64 f] w fun e w' => e = .returned (.bool r) ∧ w = w' := by
  by_cases hl : l = -1
  · subst hl
    rw [follows_none] at hr
    by_cases hf : f = 0
    · subst hf
      obtain rfl : r = true := by rw [← hr]; rfl
      clear hr
      go_enter Tryz.func158, Tryz.ntmps158
      go_wp2
      go_ret
      exact ⟨rfl, rfl⟩
    · obtain rfl : r = false := by rw [← hr]; exact decide_eq_false hf
      have hf1 : (f == 0) = false := by simpa using hf
      clear hr
      go_enter Tryz.func158, Tryz.ntmps158
      go_wp2
      go_ret
      exact ⟨rfl, rfl⟩
  · have hl1 : (l == -1) = false := by simpa using hl
    rcases hq : rightB l with _ | _
    · obtain rfl : r = false := by rw [← hr, follows_no hl hq]
      have HQ := Lib.hid hq
      clear hr hq
      go_enter Tryz.func158, Tryz.ntmps158
      go_wp2_with (go_at_call 111; refine (seq_right l _ false HQ.out).mono ?_; rintro e w' ⟨rfl, rfl⟩)
      go_ret
      exact ⟨rfl, rfl⟩
    · obtain ⟨l0, l1⟩ := of_right hq
      rw [follows_yes l0 l1] at hr
      obtain ⟨v, hv⟩ : ∃ v, addI l 1 = v := ⟨_, rfl⟩
      rw [hv] at hr
      have HV := Lib.hid hv
      have HQ := Lib.hid hq
      by_cases hf : f = v
      · subst hf
        obtain rfl : r = true := by rw [← hr]; exact decide_eq_true rfl
        clear hr hv hq
        go_enter Tryz.func158, Tryz.ntmps158
        go_wp2_with (first | (go_at_call 111; refine (seq_right l _ true HQ.out).mono ?_; rintro e w' ⟨rfl, rfl⟩) | (go_at_call 144; refine (seq_add l _ _ f (by omega) (by omega) HV.out).mono ?_; rintro e w' ⟨rfl, rfl⟩))
        go_ret
        exact ⟨rfl, rfl⟩
      · obtain rfl : r = false := by rw [← hr]; exact decide_eq_false hf
        have hf1 : (f == v) = false := by simpa using hf
        clear hr hv hq
        go_enter Tryz.func158, Tryz.ntmps158
        go_wp2_with (first | (go_at_call 111; refine (seq_right l _ true HQ.out).mono ?_; rintro e w' ⟨rfl, rfl⟩) | (go_at_call 144; refine (seq_add l _ _ v (by omega) (by omega) HV.out).mono ?_; rintro e w' ⟨rfl, rfl⟩))
        go_ret
        exact ⟨rfl, rfl⟩
end Go.Proofs.YtgohekjkbgfeeaaGreat
