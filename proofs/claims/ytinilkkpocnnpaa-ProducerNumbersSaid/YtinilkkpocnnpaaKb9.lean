/- Parts of a proof, merged: ProdApply, PrApply, PrKnown, Masks, PrEpochs, PrMarkers. -/
import Derived.WalkKit
import Derived.IntWalk
import Derived.Laws.BitsAllLaws
import Derived.Test.YtinilkkpocnnpaaKb5
import Derived.Test.YtinilkkpocnnpaaKb8
import Derived.Test.YtinilkkpocnnpaaKb3
namespace Go.Proofs.Ytinilkkpocnnpaa
open Go.RowKit
open Go.SeqMath
open Go.ProdMath
open Go.BatMath hiding AllB getD_lt take_all
set_option linter.unusedVariables false

/-- The four blocks of the walk: the producer and the batch that came in, the result, what is known so far. -/
structure AS (w : World) (po xo : Obj) (b1 b2 : Int) (v : Value) (o : Int) (W : World) : Prop where
  pb : W.heap[w.heap.size]? = some po
  xb : W.heap[w.heap.size + 1]? = some xo
  rb : PBox W (w.heap.size + 2) 0 0 (.slice none 0 0) 0
  ob : PBox W (w.heap.size + 3) b1 b2 v o
  bel : Below w.heap.size w W
section
variable {w W W' : World} {po xo : Obj} {b1 b2 o : Int} {v : Value}
theorem AS.s2 (h : AS w po xo b1 b2 v o W) (u : Value) : AS w po xo b1 b2 u o (W.setCell ⟨w.heap.size + 3, 2, none⟩ u) := ⟨box_off h.pb (by omega) _, box_off h.xb (by omega) _, h.rb.off (by omega) _, h.ob.s2 u, h.bel.setCell (Nat.le_add_right _ _) _⟩
theorem AS.s3 (h : AS w po xo b1 b2 v o W) (n : Int) : AS w po xo b1 b2 v n (W.setCell ⟨w.heap.size + 3, 3, none⟩ (.int .i64 n)) := ⟨box_off h.pb (by omega) _, box_off h.xb (by omega) _, h.rb.off (by omega) _, h.ob.s3 n, h.bel.setCell (Nat.le_add_right _ _) _⟩
theorem AS.on (h : AS w po xo b1 b2 v o W) (hb : Below W.heap.size W W') : AS w po xo b1 b2 v o W' := by
  have h1 := lt_of_block h.pb
  have h2 := lt_of_block h.xb
  exact ⟨by rw [hb.block _ h1]; exact h.pb, by rw [hb.block _ h2]; exact h.xb, h.rb.on hb, h.ob.on hb, h.bel.trans (hb.mono h.bel.size)⟩
theorem AS.grown (h : AS w po xo b1 b2 v o W) {r : Option Nat} (hg : W.grownBy W' r) (hr : ∀ k, r = some k → w.heap.size + 4 ≤ k) : AS w po xo b1 b2 v o W' := by
  have h1 := lt_of_block h.pb
  have h2 := lt_of_block h.xb
  refine ⟨by rw [hg.block _ h1 (fun e => by have := hr _ e.symm; omega)]; exact h.pb, by rw [hg.block _ h2 (fun e => by have := hr _ e.symm; omega)]; exact h.xb, h.rb.grown hg (fun e => by have := hr _ e; omega), h.ob.grown hg (fun e => by have := hr _ e; omega), h.bel.grown hg h.bel.size fun k hk => by have := hr k hk; omega⟩
theorem AS.lt (h : AS w po xo b1 b2 v o W) : w.heap.size + 4 ≤ W.heap.size := h.ob.lt
end
def GivesApply (w : World) (p : Pd) (e : Ending) (w' : World) : Prop :=
  ∃ ad n cap, e = .returned (.agg #[.int .i64 p.id, .int .i64 p.epoch, .slice ad n cap, .int .i64 p.opn]) ∧ RowAt trK w' ad n cap p.last ∧ (∀ a, ad = some a → w.heap.size ≤ a.block ∧ a.block < w'.heap.size) ∧ Below w.heap.size w w'
theorem resultsApply {tmps : Array Value} {B : Nat} {W : World} {b0 b1 b3 : Int} {v : Value} (h : PBox W B b0 b1 v b3) (ht : tmps.getD 6 undef = .pointer (some ⟨B, 0, none⟩)) :
    (results Try.f28 tmps).run Try.prog W = .ok (.agg #[.int .i64 b0, .int .i64 b1, v, .int .i64 b3]) W := by
  rw [results_cell_one (p := 6) (ty := 40) Try.results28, ht]
  have hl := run_loadVar_row (P := Try.prog) W B 40 40 _ (0, 0) _ h Try.underlying40 rfl (by kernel_rfl)
  simp only [asAddr, Sem.run_pure, Result.andThen, hl]
theorem gives_apply {w W : World} {po xo : Obj} {b1 b2 o : Int} {v : Value} {p : Pd} {ad : Option Addr} {n cap : Nat} {l : List Tr} {u0 u1 u2 u3 : Value} (h : AS w po xo b1 b2 v o W) (hp : p = ⟨b1, b2, l, o⟩) (hr : RowAt trK W ad n cap l) (hk : ∀ a, ad = some a → w.heap.size + 4 ≤ a.block ∧ a.block < W.heap.size) :
    GivesApply w p (.returned (.agg #[.int .i64 b1, .int .i64 b2, .slice ad n cap, .int .i64 o])) ((((W.setCell ⟨w.heap.size + 2, 0, none⟩ u0).setCell ⟨w.heap.size + 2, 1, none⟩ u1).setCell ⟨w.heap.size + 2, 2, none⟩ u2).setCell ⟨w.heap.size + 2, 3, none⟩ u3) := by
  subst hp
  have hk2 : ∀ a, ad = some a → a.block ≠ w.heap.size + 2 := fun a ha => by have := (hk a ha).1; omega
  refine ⟨ad, n, cap, rfl, (((hr.off hk2 _ _).off hk2 _ _).off hk2 _ _).off hk2 _ _, (fun a ha => ⟨by have := (hk a ha).1; omega, by rw [size_set, size_set, size_set, size_set]; exact (hk a ha).2⟩), ?_⟩
  exact (((h.bel.setCell (Nat.le_add_right _ _) _).setCell (Nat.le_add_right _ _) _).setCell (Nat.le_add_right _ _) _).setCell (Nat.le_add_right _ _) _
set_option maxRecDepth 100000 in
set_option maxHeartbeats 8000000 in
theorem refApply_any (w : World) (id ep op : Int) (last : List Tr) (ad : Option Addr) (n cap : Nat) (hl : RowAt trK w ad n cap last) (hn : n ≤ 1000000) (known : Bool) (b0 b1 b2 b3 : Int) (b4 : Bool) (b5 : Int) (recs : List Rc) (rd : Option Addr) (rn rc : Nat) (hrl : recs.length = rn) (hrn : rn ≤ 140737488355328) (p : Pd) (hp : applyD ⟨id, ep, last, op⟩ known ⟨b0, b1, b2, b3, b4, b5, recs⟩ = p) :
    Calls Try.prog 28 #[.agg #[.int .i64 id, .int .i64 ep, .slice ad n cap, .int .i64 op], .bool known, .agg #[.int .i64 b0, .int .i64 b1, .int .i64 b2, .int .i64 b3, .bool b4, .int .i64 b5, .slice rd rn rc]] w (GivesApply w p) := by
  obtain ⟨po, hpo⟩ : ∃ po : Obj, po = (.cells #[.int .i64 id, .int .i64 ep, .slice ad n cap, .int .i64 op] 40 (0, 0)) := ⟨_, rfl⟩
  obtain ⟨xo, hxo⟩ : ∃ xo : Obj, xo = (.cells #[.int .i64 b0, .int .i64 b1, .int .i64 b2, .int .i64 b3, .bool b4, .int .i64 b5, .slice rd rn rc] 33 (0, 0)) := ⟨_, rfl⟩
  obtain ⟨W0, hW0⟩ : ∃ W0, W0 = ((((w.alloc (.cells #[.int .i64 id, .int .i64 ep, .slice ad n cap, .int .i64 op] 40)).alloc (.cells #[.int .i64 b0, .int .i64 b1, .int .i64 b2, .int .i64 b3, .bool b4, .int .i64 b5, .slice rd rn rc] 33)).alloc (.cells #[.int .i64 0, .int .i64 0, .slice none 0 0, .int .i64 0] 40)).alloc (.cells #[.int .i64 b1, .int .i64 b2, .slice none 0 0, .int .i64 (-1)] 40)) := ⟨_, rfl⟩
  have HA0 : Hid (AS w po xo b1 b2 (.slice none 0 0) (-1) W0) := by
    show AS _ _ _ _ _ _ _ _
    rw [hW0, hpo, hxo]
    have e2 := Below.refl w.heap.size w
    refine ⟨?_, ?_, ?_, ?_, (((e2.alloc (Nat.le_refl _) _).alloc (by simp) _).alloc (by simp <;> omega) _).alloc (by simp <;> omega) _⟩
    · rw [heap_alloc_old _ _ (by simp <;> omega), heap_alloc_old _ _ (by simp <;> omega), heap_alloc_old _ _ (by simp)]
      (try exact heap_alloc_new w _)
    · rw [heap_alloc_old _ _ (by simp <;> omega), heap_alloc_old _ _ (by simp)]
      have := heap_alloc_new (w.alloc (.cells #[.int .i64 id, .int .i64 ep, .slice ad n cap, .int .i64 op] 40)) (.cells #[.int .i64 b0, .int .i64 b1, .int .i64 b2, .int .i64 b3, .bool b4, .int .i64 b5, .slice rd rn rc] 33)
      simpa using this
    · show (_ : World).heap[_]? = _
      rw [heap_alloc_old _ _ (by simp)]
      have := heap_alloc_new ((w.alloc (.cells #[.int .i64 id, .int .i64 ep, .slice ad n cap, .int .i64 op] 40)).alloc (.cells #[.int .i64 b0, .int .i64 b1, .int .i64 b2, .int .i64 b3, .bool b4, .int .i64 b5, .slice rd rn rc] 33)) (.cells #[.int .i64 0, .int .i64 0, .slice none 0 0, .int .i64 0] 40)
      simpa using this
    · have := pbox_new (((w.alloc (.cells #[.int .i64 id, .int .i64 ep, .slice ad n cap, .int .i64 op] 40)).alloc (.cells #[.int .i64 b0, .int .i64 b1, .int .i64 b2, .int .i64 b3, .bool b4, .int .i64 b5, .slice rd rn rc] 33)).alloc (.cells #[.int .i64 0, .int .i64 0, .slice none 0 0, .int .i64 0] 40)) b1 b2 (.slice none 0 0) (-1)
      simpa using this
  have HL0 := Lib.hid hl
  have HPP : Hid (applyD ⟨id, ep, last, op⟩ known ⟨b0, b1, b2, b3, b4, b5, recs⟩ = p) := hp
  have HRL := Lib.hid hrl
  have hpb : PBox W0 w.heap.size id ep (.slice ad n cap) op := by have := HA0.out.pb; rw [hpo] at this; exact this
  have hxb : BoxAt W0 (w.heap.size + 1) b0 b1 b2 b3 b4 b5 (.slice rd rn rc) := by have := HA0.out.xb; rw [hxo] at this; exact this
  have HXO := Lib.hid hxo
  have HPB := Lib.hid hpb
  have HXB := Lib.hid hxb
  clear hl hp hrl hpo hxo hpb hxb
  go_enter Try.func28, Try.ntmps28
  go_upto_if 13 with (fail)
  rw [← hW0]
  clear hW0
  obtain ⟨l0, hl0⟩ : ∃ l0, l0 = oldLast ⟨id, ep, last, op⟩ known ⟨b0, b1, b2, b3, b4, b5, recs⟩ := ⟨_, rfl⟩
  obtain ⟨o0, ho0⟩ : ∃ o0, o0 = oldOpen ⟨id, ep, last, op⟩ known := ⟨_, rfl⟩
  go_cut [] from 8 (fun wx => ∃ v, AS w po xo b1 b2 v o0 wx ∧ OwnRow trK wx (w.heap.size + 4) v l0)
  case first =>
    have q1 := HPB.out.c1
    have q2 := HPB.out.c2
    have q3 := HPB.out.c3
    have p2 := HXB.out.c2
    have o2 := HA0.out.ob.c2
    have o3 := HA0.out.ob.c3
    have f2 := HA0.out.ob.free 2
    have f3 := HA0.out.ob.free 3
    cases known
    · have e1 : l0 = [] := by rw [hl0]; simp [oldLast]
      have e2 : o0 = -1 := by rw [ho0]; simp [oldOpen]
      clear hl0 ho0
      go_wp2
      go_meet
      case rel => exact ⟨_, by rw [e2]; exact HA0.out, by rw [e1]; exact ownRow_nil _ _ _⟩
    · have e2 : o0 = op := by rw [ho0]; simp [oldOpen]
      by_cases hee : ep = b2
      · have hd : (ep == b2) = true := by rw [hee]; simp
        have e1 : l0 = last := by rw [hl0]; simp [oldLast, hee]
        have HE1 := Lib.hid e1
        have HE2 := Lib.hid e2
        clear hl0 ho0 hee e1 e2
        go_upto_region 5 with fail
        obtain ⟨W1, hW1⟩ : ∃ W1, W1 = W0.setCell ⟨w.heap.size + 3, 3, none⟩ (.int .i64 op) := ⟨_, rfl⟩
        have HA1 : Hid (AS w po xo b1 b2 (.slice none 0 0) op W1) := by show AS _ _ _ _ _ _ _ _; rw [hW1]; exact HA0.out.s3 op
        have HPB1 : Hid (PBox W1 w.heap.size id ep (.slice ad n cap) op) := by show PBox _ _ _ _ _ _; rw [hW1]; exact HPB.out.off (by omega) _
        rw [← hW1]
        clear hW1 q1 q2 q3 o2 o3 f2 f3
        have q2 := (HPB1.out.on ((Below.refl _ _).alloc (Nat.le_refl _) (.cells #[] 59))).c2
        have HAE : Hid (AS w po xo b1 b2 (.slice none 0 0) op (W1.alloc (.cells #[] 59))) := HA1.out.on ((Below.refl _ _).alloc (Nat.le_refl _) _)
        have HL1 := Lib.hid (HL0.out.keep HAE.out.bel)
        have HVE : Hid (OwnRow trK (W1.alloc (.cells #[] 59)) (w.heap.size + 4) (.slice (some ⟨W1.heap.size, 0, none⟩) 0 0) []) := ownRow_lit trK_ok W1 _ [] HA1.out.lt (by simp) _ rfl 0 rfl
        go_wp2_with (at_builtin; refine list_row (by rfl) trK_ok (.tmp 22) (.tmp 24) rfl (w.heap.size + 4) [] last _ rfl HVE.out HAE.out.lt ad n cap rfl HL1.out (by rw [List.length_nil]; omega) ?_)
        intro v2 w2 hap
        obtain ⟨ad2, cap2, hv2, _, _⟩ := OwnRow.row trK_ok (l := last) (n := n) hap.1 HL0.out.length
        subst hv2
        have HO2 : Hid (OwnRow trK w2 (w.heap.size + 4) (.slice ad2 n cap2) last) := hap.1
        have HA2 : Hid (AS w po xo b1 b2 (.slice none 0 0) op w2) := HAE.out.grown hap.2.1 fun k hk => (HVE.out.lt k hk).1
        clear hap HVE
        have o2 := HA2.out.ob.c2
        have f2 := HA2.out.ob.free 2
        go_wp2
        go_meet
        case rel => exact ⟨_, by rw [HE2.out]; exact HA2.out.s2 (.slice ad2 n cap2), by rw [HE1.out]; exact HO2.out.off (by omega) _ _⟩
      · have hd : (ep == b2) = false := beq_false_of_ne hee
        have e1 : l0 = [] := by rw [hl0]; simp [oldLast, hee]
        clear hl0 ho0 hee
        go_wp2
        go_meet
        case rel => exact ⟨_, by rw [e2]; exact HA0.out.s3 op, by rw [e1]; exact ownRow_nil _ _ _⟩
  case rest =>
    obtain ⟨v, ha, ho⟩ := hcut
    have HA := Lib.hid ha
    have HO := Lib.hid ho
    have hxb : BoxAt wc (w.heap.size + 1) b0 b1 b2 b3 b4 b5 (.slice rd rn rc) := by have := ha.xb; rw [HXO.out] at this; exact this
    have HXC := Lib.hid hxb
    clear hxb HPB HXB HA0
    have hn0 : l0.length ≤ 1000000 := by
      have hll := HL0.out.length
      rw [hl0]
      unfold oldLast
      split
      · show last.length ≤ _; omega
      · exact Nat.zero_le _
    have HPE1 : Hid (b5 ≠ 0 → p = ⟨b1, b2, l0, -1⟩) := by
      intro hm
      rw [← HPP.out, hl0]
      simp [applyD, hm]
    have HPE2 : Hid (b5 = 0 → ∀ oz, oz = (if b4 = true ∧ o0 < 0 then b0 else o0) → p = ⟨b1, b2, newLast l0 ⟨b3, lastI b3 rn, b0⟩, oz⟩) := by
      intro hm oz hoz
      rw [hoz, ← HPP.out, hl0, ho0, ← HRL.out]
      simp [applyD, hm]
    clear hl0 ho0 HPP HRL HL0 ha ho
    obtain ⟨n0, hln0⟩ : ∃ n0, l0.length = n0 := ⟨_, rfl⟩
    rw [hln0] at hn0
    obtain ⟨ad0, cap0, hv0, hr0, hk0⟩ := OwnRow.row trK_ok HO.out hln0
    subst hv0
    have HLN := Lib.hid hln0
    have HR0 := Lib.hid hr0
    have HK0 : Hid (∀ a, ad0 = some a → w.heap.size + 4 ≤ a.block ∧ a.block < wc.heap.size) := fun a ha => hk0 a ha
    clear hln0 hr0 hk0
    have p5 := HXC.out.c5
    by_cases hm : b5 = 0
    · have hd : (b5 == 0) = true := by rw [hm]; rfl
      have HPE : Hid (∀ oz, oz = (if b4 = true ∧ o0 < 0 then b0 else o0) → p = ⟨b1, b2, newLast l0 ⟨b3, lastI b3 rn, b0⟩, oz⟩) := HPE2.out hm
      obtain ⟨lv, hlv⟩ : ∃ lv, lastI b3 rn = lv := ⟨_, rfl⟩
      rw [hlv] at HPE
      have HLV := Lib.hid hlv
      clear HPE1 HPE2 hm hlv
      go_upto_region 9 with fail
      clear p5
      have KS : Hid (∀ W, AS w po xo b1 b2 (.slice ad0 n0 cap0) o0 W → (fun (W : World) => W.cell? ⟨(w.heap.size + 1), 0, none⟩ = some (.int .i64 b0) ∧ W.cell? ⟨(w.heap.size + 1), 1, none⟩ = some (.int .i64 b1) ∧ W.cell? ⟨(w.heap.size + 1), 2, none⟩ = some (.int .i64 b2) ∧ W.cell? ⟨(w.heap.size + 1), 3, none⟩ = some (.int .i64 b3) ∧ W.cell? ⟨(w.heap.size + 1), 4, none⟩ = some (.bool b4) ∧ W.cell? ⟨(w.heap.size + 1), 5, none⟩ = some (.int .i64 b5) ∧ W.cell? ⟨(w.heap.size + 1), 6, none⟩ = some (.slice rd rn rc) ∧ W.cell? ⟨(w.heap.size + 3), 0, none⟩ = some (.int .i64 b1) ∧ W.cell? ⟨(w.heap.size + 3), 1, none⟩ = some (.int .i64 b2) ∧ W.cell? ⟨(w.heap.size + 3), 2, none⟩ = some (.slice ad0 n0 cap0) ∧ W.cell? ⟨(w.heap.size + 3), 3, none⟩ = some (.int .i64 o0) ∧ W.frozen? ⟨w.heap.size + 3, 2, none⟩ = false) W) := by
        intro W hW
        have hX : BoxAt W (w.heap.size + 1) b0 b1 b2 b3 b4 b5 (.slice rd rn rc) := by have := hW.xb; rw [HXO.out] at this; exact this
        exact ⟨hX.c0, hX.c1, hX.c2, hX.c3, hX.c4, hX.c5, hX.c6, hW.ob.c0, hW.ob.c1, hW.ob.c2, hW.ob.c3, hW.ob.free 2⟩
      have hdr : Below wc.heap.size wc wc.drew := (Below.refl _ wc).drew
      have HAd := Lib.hid (HA.out.on hdr)
      have HOd := Lib.hid (HO.out.on hdr)
      refine wp_region_noPanic ?_
      refine wp_region_z [16] (fun (W : World) => W.cell? ⟨(w.heap.size + 1), 0, none⟩ = some (.int .i64 b0) ∧ W.cell? ⟨(w.heap.size + 1), 1, none⟩ = some (.int .i64 b1) ∧ W.cell? ⟨(w.heap.size + 1), 2, none⟩ = some (.int .i64 b2) ∧ W.cell? ⟨(w.heap.size + 1), 3, none⟩ = some (.int .i64 b3) ∧ W.cell? ⟨(w.heap.size + 1), 4, none⟩ = some (.bool b4) ∧ W.cell? ⟨(w.heap.size + 1), 5, none⟩ = some (.int .i64 b5) ∧ W.cell? ⟨(w.heap.size + 1), 6, none⟩ = some (.slice rd rn rc) ∧ W.cell? ⟨(w.heap.size + 3), 0, none⟩ = some (.int .i64 b1) ∧ W.cell? ⟨(w.heap.size + 3), 1, none⟩ = some (.int .i64 b2) ∧ W.cell? ⟨(w.heap.size + 3), 2, none⟩ = some (.slice ad0 n0 cap0) ∧ W.cell? ⟨(w.heap.size + 3), 3, none⟩ = some (.int .i64 o0) ∧ W.frozen? ⟨w.heap.size + 3, 2, none⟩ = false) (by kernel_rfl) ?_
      have hHeld : (fun (W : World) => W.cell? ⟨(w.heap.size + 1), 0, none⟩ = some (.int .i64 b0) ∧ W.cell? ⟨(w.heap.size + 1), 1, none⟩ = some (.int .i64 b1) ∧ W.cell? ⟨(w.heap.size + 1), 2, none⟩ = some (.int .i64 b2) ∧ W.cell? ⟨(w.heap.size + 1), 3, none⟩ = some (.int .i64 b3) ∧ W.cell? ⟨(w.heap.size + 1), 4, none⟩ = some (.bool b4) ∧ W.cell? ⟨(w.heap.size + 1), 5, none⟩ = some (.int .i64 b5) ∧ W.cell? ⟨(w.heap.size + 1), 6, none⟩ = some (.slice rd rn rc) ∧ W.cell? ⟨(w.heap.size + 3), 0, none⟩ = some (.int .i64 b1) ∧ W.cell? ⟨(w.heap.size + 3), 1, none⟩ = some (.int .i64 b2) ∧ W.cell? ⟨(w.heap.size + 3), 2, none⟩ = some (.slice ad0 n0 cap0) ∧ W.cell? ⟨(w.heap.size + 3), 3, none⟩ = some (.int .i64 o0) ∧ W.frozen? ⟨w.heap.size + 3, 2, none⟩ = false) _ := KS.out _ HAd.out
      obtain ⟨u0, hu0⟩ : ∃ u, u = wc.drew := ⟨_, rfl⟩
      rw [← hu0] at hHeld HAd HOd
      rw [← hu0]
      clear hu0
      refine wpAnyZ_take (i := 0) (oi := ⟨_, _, _, _, _, _⟩) (v := ?_) rfl (by kernel_rfl) (by kernel_rfl) (by kernel_rfl) (by kernel_rfl) (by kernel_rfl) (fun _ _ _ h => h) (Or.inl ⟨by rfl, ?_⟩) (by assumption) ?_
      rotate_left
      · intro W hSw
        (try dsimp only at hSw)
        go_simp
        (try with_reducible rfl)
      (try simp only [Act.put, List.setIfInBounds_toArray, List.set_cons_zero, List.set_cons_succ])
      refine wpAnyZ_take (i := 1) (oi := ⟨_, _, _, _, _, _⟩) (v := ?_) rfl (by kernel_rfl) (by kernel_rfl) (by kernel_rfl) (by kernel_rfl) (by kernel_rfl) (fun _ _ _ h => h) (Or.inl ⟨by rfl, ?_⟩) (by assumption) ?_
      rotate_left
      · intro W hSw
        (try dsimp only at hSw)
        go_simp
        (try with_reducible rfl)
      (try simp only [Act.put, List.setIfInBounds_toArray, List.set_cons_zero, List.set_cons_succ])
      refine wpAnyZ_take (i := 2) (oi := ⟨_, _, _, _, _, _⟩) (v := ?_) rfl (by kernel_rfl) (by kernel_rfl) (by kernel_rfl) (by kernel_rfl) (by kernel_rfl) (fun _ _ _ h => h) (Or.inl ⟨by rfl, ?_⟩) (by assumption) ?_
      rotate_left
      · intro W hSw
        (try dsimp only at hSw)
        go_simp
        (try with_reducible rfl)
      (try simp only [Act.put, List.setIfInBounds_toArray, List.set_cons_zero, List.set_cons_succ])
      refine wpAnyZ_take (i := 3) (oi := ⟨_, _, _, _, _, _⟩) (v := ?_) rfl (by kernel_rfl) (by kernel_rfl) (by kernel_rfl) (by kernel_rfl) (by kernel_rfl) (fun _ _ _ h => h) (Or.inl ⟨by rfl, ?_⟩) (by assumption) ?_
      rotate_left
      · intro W hSw
        (try dsimp only at hSw)
        go_simp
        (try with_reducible rfl)
      (try simp only [Act.put, List.setIfInBounds_toArray, List.set_cons_zero, List.set_cons_succ])
      refine wpAnyZ_take (i := 4) (oi := ⟨_, _, _, _, _, _⟩) (v := ?_) rfl (by kernel_rfl) (by kernel_rfl) (by kernel_rfl) (by kernel_rfl) (by kernel_rfl) (fun _ _ _ h => h) (Or.inl ⟨by rfl, ?_⟩) (by assumption) ?_
      rotate_left
      · intro W hSw
        (try dsimp only at hSw)
        go_simp
        (try with_reducible rfl)
      (try simp only [Act.put, List.setIfInBounds_toArray, List.set_cons_zero, List.set_cons_succ])
      refine wpAnyZ_take (i := 5) (oi := ⟨_, _, _, _, _, _⟩) (v := ?_) rfl (by kernel_rfl) (by kernel_rfl) (by kernel_rfl) (by kernel_rfl) (by kernel_rfl) (fun _ _ _ h => h) (Or.inl ⟨by rfl, ?_⟩) (by assumption) ?_
      rotate_left
      · intro W hSw
        (try dsimp only at hSw)
        go_simp
        (try with_reducible rfl)
      (try simp only [Act.put, List.setIfInBounds_toArray, List.set_cons_zero, List.set_cons_succ])
      refine wpAnyZ_take (i := 6) (oi := ⟨_, _, _, _, _, _⟩) (v := ?_) rfl (by kernel_rfl) (by kernel_rfl) (by kernel_rfl) (by kernel_rfl) (by kernel_rfl) (fun _ _ _ h => h) (Or.inl ⟨by rfl, ?_⟩) (by assumption) ?_
      rotate_left
      · intro W hSw
        (try dsimp only at hSw)
        go_simp
        (try with_reducible rfl)
      (try simp only [Act.put, List.setIfInBounds_toArray, List.set_cons_zero, List.set_cons_succ])
      refine wpAnyZ_take (i := 7) (oi := ⟨_, _, _, _, _, _⟩) (v := ?_) rfl (by kernel_rfl) (by kernel_rfl) (by kernel_rfl) (by kernel_rfl) (by kernel_rfl) (fun _ _ _ h => h) (Or.inl ⟨by rfl, ?_⟩) (by assumption) ?_
      rotate_left
      · intro W hSw
        (try dsimp only at hSw)
        go_simp
        (try with_reducible rfl)
      (try simp only [Act.put, List.setIfInBounds_toArray, List.set_cons_zero, List.set_cons_succ])
      refine wpAnyZ_take (i := 8) (oi := ⟨_, _, _, _, _, _⟩) (v := ?_) rfl (by kernel_rfl) (by kernel_rfl) (by kernel_rfl) (by kernel_rfl) (by kernel_rfl) (fun _ _ _ h => h) (Or.inl ⟨by rfl, ?_⟩) (by assumption) ?_
      rotate_left
      · intro W hSw
        (try dsimp only at hSw)
        go_simp
        (try with_reducible rfl)
      (try simp only [Act.put, List.setIfInBounds_toArray, List.set_cons_zero, List.set_cons_succ])
      refine wpAnyZ_take (i := 10) (oi := ⟨_, _, _, _, _, _⟩) (v := ?_) rfl (by kernel_rfl) (by kernel_rfl) (by kernel_rfl) (by kernel_rfl) (by kernel_rfl) (fun _ _ _ h => h) (Or.inl ⟨by rfl, ?_⟩) (by assumption) ?_
      rotate_left
      · intro W hSw
        (try dsimp only at hSw)
        go_simp
        (try with_reducible rfl)
      (try simp only [Act.put, List.setIfInBounds_toArray, List.set_cons_zero, List.set_cons_succ])
      refine wpAnyZ_take (i := 11) (oi := ⟨_, _, _, _, _, _⟩) (v := ?_) rfl (by kernel_rfl) (by kernel_rfl) (by kernel_rfl) (by kernel_rfl) (by kernel_rfl) (fun _ _ _ h => h) (Or.inl ⟨by rfl, ?_⟩) (by assumption) ?_
      rotate_left
      · intro W hSw
        (try dsimp only at hSw)
        go_simp
        (try with_reducible rfl)
      (try simp only [Act.put, List.setIfInBounds_toArray, List.set_cons_zero, List.set_cons_succ])
      refine wpAnyZ_ready (rs := [9]) (by kernel_rfl) (by simp) ?_
      refine AllReadyZ.cons (o := ⟨_, _, _, _, _, _⟩) rfl (fun C hC => ?_) AllReadyZ.nil
      go_simp
      refine (refLast_any b3 rn u0 lv hrn HLV.out).mono ?_
      rintro e u1 ⟨rfl, rfl⟩
      go_wp2_with fail
      have hHeld : (fun (W : World) => W.cell? ⟨(w.heap.size + 1), 0, none⟩ = some (.int .i64 b0) ∧ W.cell? ⟨(w.heap.size + 1), 1, none⟩ = some (.int .i64 b1) ∧ W.cell? ⟨(w.heap.size + 1), 2, none⟩ = some (.int .i64 b2) ∧ W.cell? ⟨(w.heap.size + 1), 3, none⟩ = some (.int .i64 b3) ∧ W.cell? ⟨(w.heap.size + 1), 4, none⟩ = some (.bool b4) ∧ W.cell? ⟨(w.heap.size + 1), 5, none⟩ = some (.int .i64 b5) ∧ W.cell? ⟨(w.heap.size + 1), 6, none⟩ = some (.slice rd rn rc) ∧ W.cell? ⟨(w.heap.size + 3), 0, none⟩ = some (.int .i64 b1) ∧ W.cell? ⟨(w.heap.size + 3), 1, none⟩ = some (.int .i64 b2) ∧ W.cell? ⟨(w.heap.size + 3), 2, none⟩ = some (.slice ad0 n0 cap0) ∧ W.cell? ⟨(w.heap.size + 3), 3, none⟩ = some (.int .i64 o0) ∧ W.frozen? ⟨w.heap.size + 3, 2, none⟩ = false) _ := hHeld
      refine hC.out _ _ (fun _ => hHeld) (fun _ => ?_)
      clear hC C
      (try simp only [Act.put, List.setIfInBounds_toArray, List.set_cons_zero, List.set_cons_succ])
      refine wpAnyZ_take (i := 12) (oi := ⟨_, _, _, _, _, _⟩) (v := ?_) rfl (by kernel_rfl) (by kernel_rfl) (by kernel_rfl) (by kernel_rfl) (by kernel_rfl) (fun _ _ _ h => h) (Or.inl ⟨by rfl, ?_⟩) (by assumption) ?_
      rotate_left
      · intro W hSw
        (try dsimp only at hSw)
        go_simp
        (try with_reducible rfl)
      (try simp only [Act.put, List.setIfInBounds_toArray, List.set_cons_zero, List.set_cons_succ])
      refine wpAnyZ_ready (rs := [13]) (by kernel_rfl) (by simp) ?_
      refine AllReadyZ.cons (o := ⟨_, _, _, _, _, _⟩) rfl (fun C hC => ?_) AllReadyZ.nil
      go_simp
      obtain ⟨u1, hu1⟩ : ∃ u, u = u0.alloc (.cells #[.int .i64 b3, .int .i64 lv, .int .i64 b0] 59) := ⟨_, rfl⟩
      have hb1 : Below u0.heap.size u0 u1 := by rw [hu1]; exact (Below.refl _ _).alloc (Nat.le_refl _) _
      have HA1 := Lib.hid (HAd.out.on hb1)
      have HO1 := Lib.hid (HOd.out.on hb1)
      have HX1 : Hid (RowAt trK u1 (some ⟨u0.heap.size, 0, none⟩) 1 1 [⟨b3, lv, b0⟩]) := by show RowAt _ _ _ _ _ _; rw [hu1]; exact rowAt_lit trK_ok u0 [⟨b3, lv, b0⟩] (by simp) _ rfl 1 rfl
      obtain ⟨G0, hG0⟩ : ∃ G, G = u0.heap.size := ⟨_, rfl⟩
      rw [← hG0] at HX1
      rw [← hu1, ← hG0]
      clear hu1 hb1 hG0
      have hHeld : (fun (W : World) => W.cell? ⟨(w.heap.size + 1), 0, none⟩ = some (.int .i64 b0) ∧ W.cell? ⟨(w.heap.size + 1), 1, none⟩ = some (.int .i64 b1) ∧ W.cell? ⟨(w.heap.size + 1), 2, none⟩ = some (.int .i64 b2) ∧ W.cell? ⟨(w.heap.size + 1), 3, none⟩ = some (.int .i64 b3) ∧ W.cell? ⟨(w.heap.size + 1), 4, none⟩ = some (.bool b4) ∧ W.cell? ⟨(w.heap.size + 1), 5, none⟩ = some (.int .i64 b5) ∧ W.cell? ⟨(w.heap.size + 1), 6, none⟩ = some (.slice rd rn rc) ∧ W.cell? ⟨(w.heap.size + 3), 0, none⟩ = some (.int .i64 b1) ∧ W.cell? ⟨(w.heap.size + 3), 1, none⟩ = some (.int .i64 b2) ∧ W.cell? ⟨(w.heap.size + 3), 2, none⟩ = some (.slice ad0 n0 cap0) ∧ W.cell? ⟨(w.heap.size + 3), 3, none⟩ = some (.int .i64 o0) ∧ W.frozen? ⟨w.heap.size + 3, 2, none⟩ = false) u1 := KS.out _ HA1.out
      refine hC.out _ _ (fun _ => hHeld) (fun _ => ?_)
      clear hC C
      (try simp only [Act.put, List.setIfInBounds_toArray, List.set_cons_zero, List.set_cons_succ])
      refine wpAnyZ_ready (rs := [14]) (by kernel_rfl) (by simp) ?_
      refine AllReadyZ.cons (o := ⟨_, _, _, _, _, _⟩) rfl (fun C hC => ?_) AllReadyZ.nil
      refine held_row (by rfl) trK_ok (.tmp 33) (.tmp 45) rfl (w.heap.size + 4) l0 [⟨b3, lv, b0⟩] _ rfl HO1.out HA1.out.lt (some ⟨G0, 0, none⟩) 1 1 rfl HX1.out (by rw [HLN.out]; omega) ?_
      rintro v2 u2 hap
      obtain ⟨ad2, cap2, hv2, hr2, hk2⟩ := OwnRow.row trK_ok hap.1 (n := n0 + 1) (by rw [List.length_append, HLN.out]; rfl)
      subst hv2
      have HA2 : Hid (AS w po xo b1 b2 (.slice ad0 n0 cap0) o0 u2) := HA1.out.grown hap.2.1 fun k hk => (HO1.out.lt k hk).1
      have HR2 := Lib.hid hr2
      have HK2 : Hid (∀ a, ad2 = some a → w.heap.size + 4 ≤ a.block ∧ a.block < u2.heap.size) := fun a ha => hk2 a ha
      clear hap hr2 hk2 HO1 HA1 HX1
      have hHeld : (fun (W : World) => W.cell? ⟨(w.heap.size + 1), 0, none⟩ = some (.int .i64 b0) ∧ W.cell? ⟨(w.heap.size + 1), 1, none⟩ = some (.int .i64 b1) ∧ W.cell? ⟨(w.heap.size + 1), 2, none⟩ = some (.int .i64 b2) ∧ W.cell? ⟨(w.heap.size + 1), 3, none⟩ = some (.int .i64 b3) ∧ W.cell? ⟨(w.heap.size + 1), 4, none⟩ = some (.bool b4) ∧ W.cell? ⟨(w.heap.size + 1), 5, none⟩ = some (.int .i64 b5) ∧ W.cell? ⟨(w.heap.size + 1), 6, none⟩ = some (.slice rd rn rc) ∧ W.cell? ⟨(w.heap.size + 3), 0, none⟩ = some (.int .i64 b1) ∧ W.cell? ⟨(w.heap.size + 3), 1, none⟩ = some (.int .i64 b2) ∧ W.cell? ⟨(w.heap.size + 3), 2, none⟩ = some (.slice ad0 n0 cap0) ∧ W.cell? ⟨(w.heap.size + 3), 3, none⟩ = some (.int .i64 o0) ∧ W.frozen? ⟨w.heap.size + 3, 2, none⟩ = false) u2 := KS.out _ HA2.out
      refine hC.out _ _ (fun _ => hHeld) (fun _ => ?_)
      clear hC C
      (try simp only [Act.put, List.setIfInBounds_toArray, List.set_cons_zero, List.set_cons_succ])
      refine wpAnyZ_take (i := 15) (oi := ⟨_, _, _, _, _, _⟩) (v := ?_) rfl (by kernel_rfl) (by kernel_rfl) (by kernel_rfl) (by kernel_rfl) (by kernel_rfl) (fun _ _ _ h => h) (Or.inl ⟨by rfl, ?_⟩) (by assumption) ?_
      rotate_left
      · intro W hSw
        (try dsimp only at hSw)
        go_simp
        (try with_reducible rfl)
      (try simp only [Act.put, List.setIfInBounds_toArray, List.set_cons_zero, List.set_cons_succ])
      refine wpAnyZ_ready (rs := [16]) (by kernel_rfl) (by simp) ?_
      refine AllReadyZ.cons (o := ⟨_, _, _, _, _, _⟩) rfl (fun C hC => ?_) AllReadyZ.nil
      go_simp
      refine hC.out _ _ (zfree_no (by kernel_rfl)) (fun _ => ?_)
      clear hC C
      (try simp only [Act.put, List.setIfInBounds_toArray, List.set_cons_zero, List.set_cons_succ])
      refine wpAnyZ_done (by kernel_rfl) ?_ _
      refine NoPanic.normal ?_
      clear hHeld
      obtain ⟨w3, hw3⟩ : ∃ w3, w3 = u2.setCell ⟨w.heap.size + 3, 2, none⟩ (.slice ad2 (n0 + 1) cap2) := ⟨_, rfl⟩
      have HA3 : Hid (AS w po xo b1 b2 (.slice ad2 (n0 + 1) cap2) o0 w3) := by show AS _ _ _ _ _ _ _ _; rw [hw3]; exact HA2.out.s2 _
      have HR3 : Hid (RowAt trK w3 ad2 (n0 + 1) cap2 (l0 ++ [⟨b3, lv, b0⟩])) := by show RowAt _ _ _ _ _ _; rw [hw3]; exact HR2.out.off (fun a ha => by have := (HK2.out a ha).1; omega) _ _
      have HK3 : Hid (∀ a, ad2 = some a → w.heap.size + 4 ≤ a.block ∧ a.block < w3.heap.size) := fun a ha => by rw [hw3, size_set]; exact HK2.out a ha
      rw [show w.heap.size + 1 + 1 + 1 = w.heap.size + 3 from rfl, ← hw3]
      clear hw3 HA2 HR2 HA HAd HOd HR0 HK0 HXC HO HK2
      obtain ⟨k, hk⟩ : ∃ k, k = n0 + 1 - 5 := ⟨_, rfl⟩
      obtain ⟨ad4, cap4, hcut, hr4, hk4⟩ := row_from trK_ok HR3.out k (by omega)
      have hcut : ∀ W, (Instr.slice 38 (.slice ad2 (n0 + 1) cap2) (some (.int .i64 (k : Int))) none none).run Try.prog W = .ok (.slice ad4 (n0 + 1 - k) cap4) W := hcut
      have hmx : (if (n0 : Int) + 1 - 5 < 0 then 0 else (n0 : Int) + 1 - 5) = (k : Int) := by split <;> omega
      have HK4 : Hid (∀ a, ad4 = some a → w.heap.size + 4 ≤ a.block ∧ a.block < w3.heap.size) := fun a ha => by
        obtain ⟨a0, h0, h1⟩ := hk4 a ha
        rw [h1]; exact HK3.out a0 h0
      obtain ⟨l4, hl4⟩ : ∃ l4, l4 = (l0 ++ [(⟨b3, lv, b0⟩ : Tr)]).drop k := ⟨_, rfl⟩
      have HPF : Hid (∀ oz, oz = (if b4 = true ∧ o0 < 0 then b0 else o0) → p = ⟨b1, b2, l4, oz⟩) := by
        intro oz hoz
        rw [HPE.out oz hoz, hl4, hk]
        unfold newLast
        rw [HLN.out]
      rw [← hl4] at hr4
      have HR4 := Lib.hid hr4
      have HKK := Lib.hid hk
      clear hr4 hk4 hl4 HPE HR3 HK3 hk
      have o0_ := HA3.out.ob.c2
      have g2 := HA3.out.ob.free 2
      go_upto_region 11 with fail
      obtain ⟨n4, hn4⟩ : ∃ n4, n4 = n0 + 1 - k := ⟨_, rfl⟩
      rw [← hn4] at HR4
      rw [← hn4]
      obtain ⟨w4, hw4⟩ : ∃ w4, w4 = w3.setCell ⟨w.heap.size + 3, 2, none⟩ (.slice ad4 n4 cap4) := ⟨_, rfl⟩
      have HA4 : Hid (AS w po xo b1 b2 (.slice ad4 n4 cap4) o0 w4) := by show AS _ _ _ _ _ _ _ _; rw [hw4]; exact HA3.out.s2 _
      have HR5 : Hid (RowAt trK w4 ad4 n4 cap4 l4) := by show RowAt _ _ _ _ _ _; rw [hw4]; exact HR4.out.off (fun a ha => by have := (HK4.out a ha).1; omega) _ _
      have HK5 : Hid (∀ a, ad4 = some a → w.heap.size + 4 ≤ a.block ∧ a.block < w4.heap.size) := fun a ha => by rw [hw4, size_set]; exact HK4.out a ha
      rw [← hw4]
      clear hw4 HA3 HR4 HK4 hcut hmx hn4 o0_ g2 KS
      have hX : BoxAt w4 (w.heap.size + 1) b0 b1 b2 b3 b4 b5 (.slice rd rn rc) := by have := HA4.out.xb; rw [HXO.out] at this; exact this
      have p0 := hX.c0
      have p4 := hX.c4
      clear hX
      have oc0 := HA4.out.ob.c0
      have g0 := HA4.out.ob.free 0
      have r0 := HA4.out.rb.c0
      have f0 := HA4.out.rb.free 0
      have oc1 := HA4.out.ob.c1
      have g1 := HA4.out.ob.free 1
      have r1 := HA4.out.rb.c1
      have f1 := HA4.out.rb.free 1
      have oc2 := HA4.out.ob.c2
      have g2 := HA4.out.ob.free 2
      have r2 := HA4.out.rb.c2
      have f2 := HA4.out.rb.free 2
      have oc3 := HA4.out.ob.c3
      have g3 := HA4.out.ob.free 3
      have r3 := HA4.out.rb.c3
      have f3 := HA4.out.rb.free 3
      cases b4
      · have HP : Hid (p = ⟨b1, b2, l4, o0⟩) := HPF.out o0 (by simp)
        clear HPF
        go_wp2
        exact bodyPost_ret (resultsApply ((((HA4.out.rb.s0 b1).s1 b2).s2 (.slice ad4 n4 cap4)).s3 o0) rfl) rfl (gives_apply HA4.out HP.out HR5.out HK5.out)
      · by_cases hlt : o0 < 0
        · have hd9 : decide (o0 < 0) = true := decide_eq_true hlt
          have HP : Hid (p = ⟨b1, b2, l4, b0⟩) := HPF.out b0 (by simp [hlt])
          clear HPF hlt
          go_wp2
          exact bodyPost_ret (resultsApply (((((HA4.out.s3 b0).rb.s0 b1).s1 b2).s2 (.slice ad4 n4 cap4)).s3 b0) rfl) rfl (gives_apply (HA4.out.s3 b0) HP.out (HR5.out.off (fun a ha => by have := (HK5.out a ha).1; omega) _ _) (fun a ha => by rw [size_set]; exact HK5.out a ha))
        · have hd9 : decide (o0 < 0) = false := decide_eq_false hlt
          have HP : Hid (p = ⟨b1, b2, l4, o0⟩) := HPF.out o0 (by simp [hlt])
          clear HPF hlt
          go_wp2
          exact bodyPost_ret (resultsApply ((((HA4.out.rb.s0 b1).s1 b2).s2 (.slice ad4 n4 cap4)).s3 o0) rfl) rfl (gives_apply HA4.out HP.out HR5.out HK5.out)
    · have hd : (b5 == 0) = false := beq_false_of_ne hm
      have HPE := Lib.hid (HPE1.out hm)
      clear HPE1 HPE2 hm
      have oc0 := HA.out.ob.c0
      have g0 := HA.out.ob.free 0
      have r0 := HA.out.rb.c0
      have f0 := HA.out.rb.free 0
      have oc1 := HA.out.ob.c1
      have g1 := HA.out.ob.free 1
      have r1 := HA.out.rb.c1
      have f1 := HA.out.rb.free 1
      have oc2 := HA.out.ob.c2
      have g2 := HA.out.ob.free 2
      have r2 := HA.out.rb.c2
      have f2 := HA.out.rb.free 2
      have oc3 := HA.out.ob.c3
      have g3 := HA.out.ob.free 3
      have r3 := HA.out.rb.c3
      have f3 := HA.out.rb.free 3
      go_wp2
      exact bodyPost_ret (resultsApply (((((HA.out.s3 (-1)).rb.s0 b1).s1 b2).s2 (.slice ad0 n0 cap0)).s3 (-1)) rfl) rfl (gives_apply (HA.out.s3 (-1)) HPE.out (HR0.out.off (fun a ha => by have := (HK0.out a ha).1; omega) _ _) (fun a ha => by rw [size_set]; exact HK0.out a ha))
end Go.Proofs.Ytinilkkpocnnpaa
namespace Go.Proofs.Ytinilkkpocnnpaa
open Go.RowKit
open Go.SeqMath
open Go.ProdMath
open Go.BatMath hiding AllB getD_lt take_all
set_option linter.unusedVariables false

/-- The blocks ahead of the result: the batch that came in, the result's, and how many there are. -/
structure AP (w : World) (xo : Obj) (W : World) : Prop where
  xb : W.heap[w.heap.size + 1]? = some xo
  rb : PBox W (w.heap.size + 2) 0 0 (.slice none 0 0) 0
  sz : W.heap.size = w.heap.size + 3
  bel : Below w.heap.size w W
theorem AP.p {w W : World} {xo : Obj} (h : AP w xo W) (j : Nat) (u : Value) : AP w xo (W.setCell ⟨w.heap.size, j, none⟩ u) :=
  ⟨box_off h.xb (by omega) _, h.rb.off (by omega) _, by rw [size_set]; exact h.sz, h.bel.setCell (Nat.le_refl _) _⟩
theorem resultsPrApply {tmps : Array Value} {B : Nat} {W : World} {b0 b1 b3 : Int} {v : Value} (h : PBox W B b0 b1 v b3) (ht : tmps.getD 6 undef = .pointer (some ⟨B, 0, none⟩)) :
    (results Try.f18 tmps).run Try.prog W = .ok (.agg #[.int .i64 b0, .int .i64 b1, v, .int .i64 b3]) W := by
  rw [results_cell_one (p := 6) (ty := 40) Try.results18, ht]
  have hl := run_loadVar_row (P := Try.prog) W B 40 40 _ (0, 0) _ h Try.underlying40 rfl (by kernel_rfl)
  simp only [asAddr, Sem.run_pure, Result.andThen, hl]
/-- What the walk knows ahead of the new state. -/
def ApCut (w : World) (xo : Obj) (b2 : Int) (l0 : List Tr) (o0 : Int) (W : World) : Prop :=
  ∃ i1 e1 a1 n1 c1 o1 l1, AP w xo W ∧ PBox W w.heap.size i1 e1 (.slice a1 n1 c1) o1 ∧ RowAt trK W a1 n1 c1 l1 ∧ n1 ≤ 1000000 ∧ Hid ((if b2 = e1 then l1 else []) = l0) ∧ Hid (o1 = o0)
set_option maxRecDepth 100000 in
set_option maxHeartbeats 8000000 in
theorem prApply_any (w : World) (id ep op : Int) (last : List Tr) (ad : Option Addr) (n cap : Nat) (hl : RowAt trK w ad n cap last) (hn : n ≤ 1000000) (known : Bool) (b0 b1 b2 b3 : Int) (b4 : Bool) (b5 : Int) (recs : List Rc) (rd : Option Addr) (rn rc : Nat) (hrl : recs.length = rn) (hrn : rn ≤ 140737488355328) (p : Pd) (hp : applyD ⟨id, ep, last, op⟩ known ⟨b0, b1, b2, b3, b4, b5, recs⟩ = p) :
    Calls Try.prog 18 #[.agg #[.int .i64 id, .int .i64 ep, .slice ad n cap, .int .i64 op], .bool known, .agg #[.int .i64 b0, .int .i64 b1, .int .i64 b2, .int .i64 b3, .bool b4, .int .i64 b5, .slice rd rn rc]] w (GivesApply w p) := by
  obtain ⟨xo, hxo⟩ : ∃ xo : Obj, xo = (.cells #[.int .i64 b0, .int .i64 b1, .int .i64 b2, .int .i64 b3, .bool b4, .int .i64 b5, .slice rd rn rc] 33 (0, 0)) := ⟨_, rfl⟩
  obtain ⟨W0, hW0⟩ : ∃ W0, W0 = (((w.alloc (.cells #[.int .i64 id, .int .i64 ep, .slice ad n cap, .int .i64 op] 40)).alloc (.cells #[.int .i64 b0, .int .i64 b1, .int .i64 b2, .int .i64 b3, .bool b4, .int .i64 b5, .slice rd rn rc] 33)).alloc (.cells #[.int .i64 0, .int .i64 0, .slice none 0 0, .int .i64 0] 40)) := ⟨_, rfl⟩
  have HA0 : Hid (AP w xo W0) := by
    show AP _ _ _
    rw [hW0, hxo]
    have e2 := Below.refl w.heap.size w
    refine ⟨?_, ?_, by simp, ((e2.alloc (Nat.le_refl _) _).alloc (by simp) _).alloc (by simp <;> omega) _⟩
    · rw [heap_alloc_old _ _ (by simp)]
      have := heap_alloc_new (w.alloc (.cells #[.int .i64 id, .int .i64 ep, .slice ad n cap, .int .i64 op] 40)) (.cells #[.int .i64 b0, .int .i64 b1, .int .i64 b2, .int .i64 b3, .bool b4, .int .i64 b5, .slice rd rn rc] 33)
      simpa using this
    · show (_ : World).heap[_]? = _
      have := heap_alloc_new ((w.alloc (.cells #[.int .i64 id, .int .i64 ep, .slice ad n cap, .int .i64 op] 40)).alloc (.cells #[.int .i64 b0, .int .i64 b1, .int .i64 b2, .int .i64 b3, .bool b4, .int .i64 b5, .slice rd rn rc] 33)) (.cells #[.int .i64 0, .int .i64 0, .slice none 0 0, .int .i64 0] 40)
      simpa using this
  have HPB : Hid (PBox W0 w.heap.size id ep (.slice ad n cap) op) := by
    show (_ : World).heap[_]? = _
    rw [hW0, heap_alloc_old _ _ (by simp <;> omega), heap_alloc_old _ _ (by simp)]
    exact heap_alloc_new w _
  have HL0 := Lib.hid (hl.keep HA0.out.bel)
  have HPP : Hid (applyD ⟨id, ep, last, op⟩ known ⟨b0, b1, b2, b3, b4, b5, recs⟩ = p) := hp
  have HRL := Lib.hid hrl
  have HXO := Lib.hid hxo
  clear hl hp hrl hxo
  go_enter Try.func18, Try.ntmps18
  go_upto_if 9 with (fail)
  rw [← hW0]
  clear hW0
  obtain ⟨l0, hl0⟩ : ∃ l0, l0 = oldLast ⟨id, ep, last, op⟩ known ⟨b0, b1, b2, b3, b4, b5, recs⟩ := ⟨_, rfl⟩
  obtain ⟨o0, ho0⟩ : ∃ o0, o0 = oldOpen ⟨id, ep, last, op⟩ known := ⟨_, rfl⟩
  have HPE1 : Hid (b5 ≠ 0 → p = ⟨b1, b2, l0, -1⟩) := by
    intro hm
    rw [← HPP.out, hl0]
    simp [applyD, hm]
  have HPE2 : Hid (b5 = 0 → ∀ oz, oz = (if b4 = true ∧ o0 < 0 then b0 else o0) → p = ⟨b1, b2, newLast l0 ⟨b3, lastI b3 rn, b0⟩, oz⟩) := by
    intro hm oz hoz
    rw [hoz, ← HPP.out, hl0, ho0, ← HRL.out]
    simp [applyD, hm]
  have HLE : Hid (l0 = if known = true ∧ ep = b2 then last else []) := by show l0 = _; rw [hl0]; rfl
  have HOE : Hid (o0 = if known = true then op else -1) := by show o0 = _; rw [ho0]; rfl
  clear hl0 ho0 HPP HRL
  go_cut [] from 8 (fun wx => ApCut w xo b2 l0 o0 wx)
  case first =>
    have q0 := HPB.out.c0
    have q1 := HPB.out.c1
    have q2 := HPB.out.c2
    have q3 := HPB.out.c3
    have f0 := HPB.out.free 0
    have f1 := HPB.out.free 1
    have f2 := HPB.out.free 2
    have f3 := HPB.out.free 3
    cases known
    · go_wp2
      go_meet
      case rel =>
        refine ⟨0, 0, none, 0, 0, -1, [], (((HA0.out.p 0 _).p 1 _).p 2 _).p 3 _, (((HPB.out.s0 0).s1 0).s2 (.slice none 0 0)).s3 (-1), rowAt_nil _, by omega, ?_, ?_⟩
        · show _ = _; rw [HLE.out]; simp
        · show _ = _; rw [HOE.out]; rfl
    · go_wp2
      go_meet
      case rel =>
        refine ⟨id, ep, ad, n, cap, op, last, HA0.out, HPB.out, HL0.out, hn, ?_, ?_⟩
        · show _ = _
          rw [HLE.out]
          by_cases h : b2 = ep
          · rw [if_pos h, if_pos (by simp [h])]
          · rw [if_neg h, if_neg (fun h2 => h h2.2.symm)]
        · show _ = _; rw [HOE.out]; rfl
  case rest =>
    obtain ⟨i1, e1, a1, n1, c1, o1, l1, hap, hpb, hrw, hn1, hle, hoe⟩ := hcut
    have HAP := Lib.hid hap
    have HPB1 := Lib.hid hpb
    have HRW := Lib.hid hrw
    clear hap hpb hrw HA0 HPB HL0 HLE HOE hn
    have hxb : BoxAt wc (w.heap.size + 1) b0 b1 b2 b3 b4 b5 (.slice rd rn rc) := by have := HAP.out.xb; rw [HXO.out] at this; exact this
    have HXB := Lib.hid hxb
    clear hxb
    have x1 := HXB.out.c1
    have x2 := HXB.out.c2
    have y1 := HPB1.out.c1
    go_upto_region 4 with fail
    obtain ⟨W1, hW1⟩ : ∃ W1, W1 = wc.alloc (.cells #[.int .i64 b1, .int .i64 b2, .slice none 0 0, .int .i64 (-1)] 40) := ⟨_, rfl⟩
    obtain ⟨po, hpo⟩ : ∃ po : Obj, po = .cells #[.int .i64 i1, .int .i64 e1, .slice a1 n1 c1, .int .i64 o1] 40 (0, 0) := ⟨_, rfl⟩
    have hb1 : Below wc.heap.size wc W1 := by rw [hW1]; exact (Below.refl _ _).alloc (Nat.le_refl _) _
    have HPB2 := Lib.hid (HPB1.out.on hb1)
    have HA1 : Hid (AS w po xo b1 b2 (.slice none 0 0) (-1) W1) := by
      show AS _ _ _ _ _ _ _ _
      refine ⟨by rw [hpo]; exact HPB2.out, ?_, HAP.out.rb.on hb1, ?_, HAP.out.bel.trans (hb1.mono HAP.out.bel.size)⟩
      · rw [hb1.block _ (lt_of_block HAP.out.xb)]; exact HAP.out.xb
      · have h3 := pbox_new wc b1 b2 (.slice none 0 0) (-1)
        rw [← hW1, HAP.out.sz] at h3
        exact h3
    have HL1 := Lib.hid (HRW.out.keep hb1)
    have HXB1 := Lib.hid (HXB.out.on hb1)
    have hsz := HAP.out.sz
    rw [← hW1, hsz]
    have HPO := Lib.hid hpo
    clear hW1 hb1 hsz x1 x2 y1 HPB1 HRW HXB HAP hpo
    have x2 := HXB1.out.c2
    have y1 := HPB2.out.c1
    have y2 := HPB2.out.c2
    have o2 := HA1.out.ob.c2
    have f2 := HA1.out.ob.free 2
    go_upto_if 20 with (fail)
    go_cut [] from 16 (fun wx => ∃ v, AS w po xo b1 b2 v (-1) wx ∧ OwnRow trK wx (w.heap.size + 4) v l0)
    case first =>
      by_cases hee : b2 = e1
      · have hd : (b2 == e1) = true := by rw [hee]; simp
        have e2 : l0 = l1 := by rw [← hle.out, if_pos hee]
        have HE2 := Lib.hid e2
        have HVE : Hid (OwnRow trK W1 (w.heap.size + 4) (.slice none 0 0) []) := ownRow_nil _ _ _
        clear hee e2
        go_wp2_with (at_builtin; refine list_row (by rfl) trK_ok (.tmp 22) (.tmp 24) rfl (w.heap.size + 4) [] l1 _ rfl HVE.out HA1.out.lt a1 n1 c1 rfl HL1.out (by rw [List.length_nil]; omega) ?_)
        intro v2 w2 hap
        obtain ⟨ad2, cap2, hv2, _, _⟩ := OwnRow.row trK_ok (l := l1) (n := n1) hap.1 HL1.out.length
        subst hv2
        have HO2 : Hid (OwnRow trK w2 (w.heap.size + 4) (.slice ad2 n1 cap2) l1) := hap.1
        have HA2 : Hid (AS w po xo b1 b2 (.slice none 0 0) (-1) w2) := HA1.out.grown hap.2.1 fun k hk => (HVE.out.lt k hk).1
        clear hap HVE o2 f2
        have o2 := HA2.out.ob.c2
        have f2 := HA2.out.ob.free 2
        go_wp2
        go_meet
        case rel => exact ⟨_, HA2.out.s2 (.slice ad2 n1 cap2), by rw [HE2.out]; exact HO2.out.off (by omega) _ _⟩
      · have hd : (b2 == e1) = false := beq_false_of_ne hee
        have e2 : l0 = [] := by rw [← hle.out, if_neg hee]
        clear hee
        go_wp2
        go_meet
        case rel => exact ⟨_, HA1.out, by rw [e2]; exact ownRow_nil _ _ _⟩
    case rest =>
      obtain ⟨v, ha, ho⟩ := hcut
      have HA := Lib.hid ha
      have HO := Lib.hid ho
      have hxb : BoxAt wc (w.heap.size + 1) b0 b1 b2 b3 b4 b5 (.slice rd rn rc) := by have := ha.xb; rw [HXO.out] at this; exact this
      have HXC := Lib.hid hxb
      have hn0 : l0.length ≤ 1000000 := by
        have hll := HL1.out.length
        rw [← hle.out]
        split
        · omega
        · exact Nat.zero_le _
      clear hxb ha ho HXB1 HPB2 HA1 HL1 hle x2 y1 y2 o2 f2
      obtain ⟨n0, hln0⟩ : ∃ n0, l0.length = n0 := ⟨_, rfl⟩
      rw [hln0] at hn0
      obtain ⟨ad0, cap0, hv0, hr0, hk0⟩ := OwnRow.row trK_ok HO.out hln0
      subst hv0
      have HLN := Lib.hid hln0
      have HR0 := Lib.hid hr0
      have HK0 : Hid (∀ a, ad0 = some a → w.heap.size + 4 ≤ a.block ∧ a.block < wc.heap.size) := fun a ha => hk0 a ha
      clear hln0 hr0 hk0
      have p5 := HXC.out.c5
      by_cases hm : b5 = 0
      · have hd : (b5 == 0) = true := by rw [hm]; rfl
        have hdn : (b5 != 0) = false := by rw [hm]; rfl
        have HPE : Hid (∀ oz, oz = (if b4 = true ∧ o0 < 0 then b0 else o0) → p = ⟨b1, b2, newLast l0 ⟨b3, lastI b3 rn, b0⟩, oz⟩) := HPE2.out hm
        obtain ⟨lv, hlv⟩ : ∃ lv, lastI b3 rn = lv := ⟨_, rfl⟩
        rw [hlv] at HPE
        have HLV := Lib.hid hlv
        have HM := Lib.hid hm
        clear HPE1 HPE2 hm hlv
        go_upto_region 8 with fail
        clear p5
        have KS : Hid (∀ W, AS w po xo b1 b2 (.slice ad0 n0 cap0) (-1) W → (fun (W : World) => W.cell? ⟨(w.heap.size + 1), 0, none⟩ = some (.int .i64 b0) ∧ W.cell? ⟨(w.heap.size + 1), 1, none⟩ = some (.int .i64 b1) ∧ W.cell? ⟨(w.heap.size + 1), 2, none⟩ = some (.int .i64 b2) ∧ W.cell? ⟨(w.heap.size + 1), 3, none⟩ = some (.int .i64 b3) ∧ W.cell? ⟨(w.heap.size + 1), 4, none⟩ = some (.bool b4) ∧ W.cell? ⟨(w.heap.size + 1), 5, none⟩ = some (.int .i64 b5) ∧ W.cell? ⟨(w.heap.size + 1), 6, none⟩ = some (.slice rd rn rc) ∧ W.cell? ⟨(w.heap.size + 3), 0, none⟩ = some (.int .i64 b1) ∧ W.cell? ⟨(w.heap.size + 3), 1, none⟩ = some (.int .i64 b2) ∧ W.cell? ⟨(w.heap.size + 3), 2, none⟩ = some (.slice ad0 n0 cap0) ∧ W.cell? ⟨(w.heap.size + 3), 3, none⟩ = some (.int .i64 (-1)) ∧ W.frozen? ⟨w.heap.size + 3, 2, none⟩ = false) W) := by
          intro W hW
          have hX : BoxAt W (w.heap.size + 1) b0 b1 b2 b3 b4 b5 (.slice rd rn rc) := by have := hW.xb; rw [HXO.out] at this; exact this
          exact ⟨hX.c0, hX.c1, hX.c2, hX.c3, hX.c4, hX.c5, hX.c6, hW.ob.c0, hW.ob.c1, hW.ob.c2, hW.ob.c3, hW.ob.free 2⟩
        have hdr : Below wc.heap.size wc wc.drew := (Below.refl _ wc).drew
        have HAd := Lib.hid (HA.out.on hdr)
        have HOd := Lib.hid (HO.out.on hdr)
        refine wp_region_noPanic ?_
        refine wp_region_z [12] (fun (W : World) => W.cell? ⟨(w.heap.size + 1), 0, none⟩ = some (.int .i64 b0) ∧ W.cell? ⟨(w.heap.size + 1), 1, none⟩ = some (.int .i64 b1) ∧ W.cell? ⟨(w.heap.size + 1), 2, none⟩ = some (.int .i64 b2) ∧ W.cell? ⟨(w.heap.size + 1), 3, none⟩ = some (.int .i64 b3) ∧ W.cell? ⟨(w.heap.size + 1), 4, none⟩ = some (.bool b4) ∧ W.cell? ⟨(w.heap.size + 1), 5, none⟩ = some (.int .i64 b5) ∧ W.cell? ⟨(w.heap.size + 1), 6, none⟩ = some (.slice rd rn rc) ∧ W.cell? ⟨(w.heap.size + 3), 0, none⟩ = some (.int .i64 b1) ∧ W.cell? ⟨(w.heap.size + 3), 1, none⟩ = some (.int .i64 b2) ∧ W.cell? ⟨(w.heap.size + 3), 2, none⟩ = some (.slice ad0 n0 cap0) ∧ W.cell? ⟨(w.heap.size + 3), 3, none⟩ = some (.int .i64 (-1)) ∧ W.frozen? ⟨w.heap.size + 3, 2, none⟩ = false) (by kernel_rfl) ?_
        have hHeld : (fun (W : World) => W.cell? ⟨(w.heap.size + 1), 0, none⟩ = some (.int .i64 b0) ∧ W.cell? ⟨(w.heap.size + 1), 1, none⟩ = some (.int .i64 b1) ∧ W.cell? ⟨(w.heap.size + 1), 2, none⟩ = some (.int .i64 b2) ∧ W.cell? ⟨(w.heap.size + 1), 3, none⟩ = some (.int .i64 b3) ∧ W.cell? ⟨(w.heap.size + 1), 4, none⟩ = some (.bool b4) ∧ W.cell? ⟨(w.heap.size + 1), 5, none⟩ = some (.int .i64 b5) ∧ W.cell? ⟨(w.heap.size + 1), 6, none⟩ = some (.slice rd rn rc) ∧ W.cell? ⟨(w.heap.size + 3), 0, none⟩ = some (.int .i64 b1) ∧ W.cell? ⟨(w.heap.size + 3), 1, none⟩ = some (.int .i64 b2) ∧ W.cell? ⟨(w.heap.size + 3), 2, none⟩ = some (.slice ad0 n0 cap0) ∧ W.cell? ⟨(w.heap.size + 3), 3, none⟩ = some (.int .i64 (-1)) ∧ W.frozen? ⟨w.heap.size + 3, 2, none⟩ = false) _ := KS.out _ HAd.out
        obtain ⟨u0, hu0⟩ : ∃ u, u = wc.drew := ⟨_, rfl⟩
        rw [← hu0] at hHeld HAd HOd
        rw [← hu0]
        clear hu0
        refine wpAnyZ_take (i := 0) (oi := ⟨_, _, _, _, _, _⟩) (v := ?_) rfl (by kernel_rfl) (by kernel_rfl) (by kernel_rfl) (by kernel_rfl) (by kernel_rfl) (fun _ _ _ h => h) (Or.inl ⟨by rfl, ?_⟩) (by assumption) ?_
        rotate_left
        · intro W hSw
          (try dsimp only at hSw)
          go_simp
          (try with_reducible rfl)
        (try simp only [Act.put, List.setIfInBounds_toArray, List.set_cons_zero, List.set_cons_succ])
        refine wpAnyZ_take (i := 1) (oi := ⟨_, _, _, _, _, _⟩) (v := ?_) rfl (by kernel_rfl) (by kernel_rfl) (by kernel_rfl) (by kernel_rfl) (by kernel_rfl) (fun _ _ _ h => h) (Or.inl ⟨by rfl, ?_⟩) (by assumption) ?_
        rotate_left
        · intro W hSw
          (try dsimp only at hSw)
          go_simp
          (try with_reducible rfl)
        (try simp only [Act.put, List.setIfInBounds_toArray, List.set_cons_zero, List.set_cons_succ])
        refine wpAnyZ_take (i := 2) (oi := ⟨_, _, _, _, _, _⟩) (v := ?_) rfl (by kernel_rfl) (by kernel_rfl) (by kernel_rfl) (by kernel_rfl) (by kernel_rfl) (fun _ _ _ h => h) (Or.inl ⟨by rfl, ?_⟩) (by assumption) ?_
        rotate_left
        · intro W hSw
          (try dsimp only at hSw)
          go_simp
          (try with_reducible rfl)
        (try simp only [Act.put, List.setIfInBounds_toArray, List.set_cons_zero, List.set_cons_succ])
        refine wpAnyZ_take (i := 3) (oi := ⟨_, _, _, _, _, _⟩) (v := ?_) rfl (by kernel_rfl) (by kernel_rfl) (by kernel_rfl) (by kernel_rfl) (by kernel_rfl) (fun _ _ _ h => h) (Or.inl ⟨by rfl, ?_⟩) (by assumption) ?_
        rotate_left
        · intro W hSw
          (try dsimp only at hSw)
          go_simp
          (try with_reducible rfl)
        (try simp only [Act.put, List.setIfInBounds_toArray, List.set_cons_zero, List.set_cons_succ])
        refine wpAnyZ_take (i := 4) (oi := ⟨_, _, _, _, _, _⟩) (v := ?_) rfl (by kernel_rfl) (by kernel_rfl) (by kernel_rfl) (by kernel_rfl) (by kernel_rfl) (fun _ _ _ h => h) (Or.inl ⟨by rfl, ?_⟩) (by assumption) ?_
        rotate_left
        · intro W hSw
          (try dsimp only at hSw)
          go_simp
          (try with_reducible rfl)
        (try simp only [Act.put, List.setIfInBounds_toArray, List.set_cons_zero, List.set_cons_succ])
        refine wpAnyZ_take (i := 6) (oi := ⟨_, _, _, _, _, _⟩) (v := ?_) rfl (by kernel_rfl) (by kernel_rfl) (by kernel_rfl) (by kernel_rfl) (by kernel_rfl) (fun _ _ _ h => h) (Or.inl ⟨by rfl, ?_⟩) (by assumption) ?_
        rotate_left
        · intro W hSw
          (try dsimp only at hSw)
          go_simp
          (try with_reducible rfl)
        (try simp only [Act.put, List.setIfInBounds_toArray, List.set_cons_zero, List.set_cons_succ])
        refine wpAnyZ_take (i := 7) (oi := ⟨_, _, _, _, _, _⟩) (v := ?_) rfl (by kernel_rfl) (by kernel_rfl) (by kernel_rfl) (by kernel_rfl) (by kernel_rfl) (fun _ _ _ h => h) (Or.inl ⟨by rfl, ?_⟩) (by assumption) ?_
        rotate_left
        · intro W hSw
          (try dsimp only at hSw)
          go_simp
          (try with_reducible rfl)
        (try simp only [Act.put, List.setIfInBounds_toArray, List.set_cons_zero, List.set_cons_succ])
        refine wpAnyZ_ready (rs := [5]) (by kernel_rfl) (by simp) ?_
        refine AllReadyZ.cons (o := ⟨_, _, _, _, _, _⟩) rfl (fun C hC => ?_) AllReadyZ.nil
        go_simp
        refine (prEnd_any u0 b0 b1 b2 b3 b4 b5 rd rn rc HM.out hrn lv HLV.out).mono ?_
        rintro e uz ⟨rfl, hbz⟩
        have HAz := Lib.hid (HAd.out.on hbz)
        have HOz := Lib.hid (HOd.out.on hbz)
        clear hbz
        go_wp2_with fail
        have hHeld : (fun (W : World) => W.cell? ⟨(w.heap.size + 1), 0, none⟩ = some (.int .i64 b0) ∧ W.cell? ⟨(w.heap.size + 1), 1, none⟩ = some (.int .i64 b1) ∧ W.cell? ⟨(w.heap.size + 1), 2, none⟩ = some (.int .i64 b2) ∧ W.cell? ⟨(w.heap.size + 1), 3, none⟩ = some (.int .i64 b3) ∧ W.cell? ⟨(w.heap.size + 1), 4, none⟩ = some (.bool b4) ∧ W.cell? ⟨(w.heap.size + 1), 5, none⟩ = some (.int .i64 b5) ∧ W.cell? ⟨(w.heap.size + 1), 6, none⟩ = some (.slice rd rn rc) ∧ W.cell? ⟨(w.heap.size + 3), 0, none⟩ = some (.int .i64 b1) ∧ W.cell? ⟨(w.heap.size + 3), 1, none⟩ = some (.int .i64 b2) ∧ W.cell? ⟨(w.heap.size + 3), 2, none⟩ = some (.slice ad0 n0 cap0) ∧ W.cell? ⟨(w.heap.size + 3), 3, none⟩ = some (.int .i64 (-1)) ∧ W.frozen? ⟨w.heap.size + 3, 2, none⟩ = false) uz := KS.out _ HAz.out
        refine hC.out _ _ (fun _ => hHeld) (fun _ => ?_)
        clear hC C
        (try simp only [Act.put, List.setIfInBounds_toArray, List.set_cons_zero, List.set_cons_succ])
        refine wpAnyZ_take (i := 8) (oi := ⟨_, _, _, _, _, _⟩) (v := ?_) rfl (by kernel_rfl) (by kernel_rfl) (by kernel_rfl) (by kernel_rfl) (by kernel_rfl) (fun _ _ _ h => h) (Or.inl ⟨by rfl, ?_⟩) (by assumption) ?_
        rotate_left
        · intro W hSw
          (try dsimp only at hSw)
          go_simp
          (try with_reducible rfl)
        (try simp only [Act.put, List.setIfInBounds_toArray, List.set_cons_zero, List.set_cons_succ])
        refine wpAnyZ_ready (rs := [9]) (by kernel_rfl) (by simp) ?_
        refine AllReadyZ.cons (o := ⟨_, _, _, _, _, _⟩) rfl (fun C hC => ?_) AllReadyZ.nil
        go_simp
        obtain ⟨u1, hu1⟩ : ∃ u, u = uz.alloc (.cells #[.int .i64 b3, .int .i64 lv, .int .i64 b0] 59) := ⟨_, rfl⟩
        have hb1 : Below uz.heap.size uz u1 := by rw [hu1]; exact (Below.refl _ _).alloc (Nat.le_refl _) _
        have HA1 := Lib.hid (HAz.out.on hb1)
        have HO1 := Lib.hid (HOz.out.on hb1)
        have HX1 : Hid (RowAt trK u1 (some ⟨uz.heap.size, 0, none⟩) 1 1 [⟨b3, lv, b0⟩]) := by show RowAt _ _ _ _ _ _; rw [hu1]; exact rowAt_lit trK_ok uz [⟨b3, lv, b0⟩] (by simp) _ rfl 1 rfl
        obtain ⟨G0, hG0⟩ : ∃ G, G = uz.heap.size := ⟨_, rfl⟩
        rw [← hG0] at HX1
        rw [← hu1, ← hG0]
        clear hu1 hb1 hG0
        have hHeld : (fun (W : World) => W.cell? ⟨(w.heap.size + 1), 0, none⟩ = some (.int .i64 b0) ∧ W.cell? ⟨(w.heap.size + 1), 1, none⟩ = some (.int .i64 b1) ∧ W.cell? ⟨(w.heap.size + 1), 2, none⟩ = some (.int .i64 b2) ∧ W.cell? ⟨(w.heap.size + 1), 3, none⟩ = some (.int .i64 b3) ∧ W.cell? ⟨(w.heap.size + 1), 4, none⟩ = some (.bool b4) ∧ W.cell? ⟨(w.heap.size + 1), 5, none⟩ = some (.int .i64 b5) ∧ W.cell? ⟨(w.heap.size + 1), 6, none⟩ = some (.slice rd rn rc) ∧ W.cell? ⟨(w.heap.size + 3), 0, none⟩ = some (.int .i64 b1) ∧ W.cell? ⟨(w.heap.size + 3), 1, none⟩ = some (.int .i64 b2) ∧ W.cell? ⟨(w.heap.size + 3), 2, none⟩ = some (.slice ad0 n0 cap0) ∧ W.cell? ⟨(w.heap.size + 3), 3, none⟩ = some (.int .i64 (-1)) ∧ W.frozen? ⟨w.heap.size + 3, 2, none⟩ = false) u1 := KS.out _ HA1.out
        refine hC.out _ _ (fun _ => hHeld) (fun _ => ?_)
        clear hC C
        (try simp only [Act.put, List.setIfInBounds_toArray, List.set_cons_zero, List.set_cons_succ])
        refine wpAnyZ_ready (rs := [10]) (by kernel_rfl) (by simp) ?_
        refine AllReadyZ.cons (o := ⟨_, _, _, _, _, _⟩) rfl (fun C hC => ?_) AllReadyZ.nil
        refine held_row (by rfl) trK_ok (.tmp 32) (.tmp 40) rfl (w.heap.size + 4) l0 [⟨b3, lv, b0⟩] _ rfl HO1.out HA1.out.lt (some ⟨G0, 0, none⟩) 1 1 rfl HX1.out (by rw [HLN.out]; omega) ?_
        rintro v2 u2 hap
        obtain ⟨ad2, cap2, hv2, hr2, hk2⟩ := OwnRow.row trK_ok hap.1 (n := n0 + 1) (by rw [List.length_append, HLN.out]; rfl)
        subst hv2
        have HA2 : Hid (AS w po xo b1 b2 (.slice ad0 n0 cap0) (-1) u2) := HA1.out.grown hap.2.1 fun k hk => (HO1.out.lt k hk).1
        have HR2 := Lib.hid hr2
        have HK2 : Hid (∀ a, ad2 = some a → w.heap.size + 4 ≤ a.block ∧ a.block < u2.heap.size) := fun a ha => hk2 a ha
        clear hap hr2 hk2 HO1 HA1 HX1 HAz HOz
        have hHeld : (fun (W : World) => W.cell? ⟨(w.heap.size + 1), 0, none⟩ = some (.int .i64 b0) ∧ W.cell? ⟨(w.heap.size + 1), 1, none⟩ = some (.int .i64 b1) ∧ W.cell? ⟨(w.heap.size + 1), 2, none⟩ = some (.int .i64 b2) ∧ W.cell? ⟨(w.heap.size + 1), 3, none⟩ = some (.int .i64 b3) ∧ W.cell? ⟨(w.heap.size + 1), 4, none⟩ = some (.bool b4) ∧ W.cell? ⟨(w.heap.size + 1), 5, none⟩ = some (.int .i64 b5) ∧ W.cell? ⟨(w.heap.size + 1), 6, none⟩ = some (.slice rd rn rc) ∧ W.cell? ⟨(w.heap.size + 3), 0, none⟩ = some (.int .i64 b1) ∧ W.cell? ⟨(w.heap.size + 3), 1, none⟩ = some (.int .i64 b2) ∧ W.cell? ⟨(w.heap.size + 3), 2, none⟩ = some (.slice ad0 n0 cap0) ∧ W.cell? ⟨(w.heap.size + 3), 3, none⟩ = some (.int .i64 (-1)) ∧ W.frozen? ⟨w.heap.size + 3, 2, none⟩ = false) u2 := KS.out _ HA2.out
        refine hC.out _ _ (fun _ => hHeld) (fun _ => ?_)
        clear hC C
        (try simp only [Act.put, List.setIfInBounds_toArray, List.set_cons_zero, List.set_cons_succ])
        refine wpAnyZ_take (i := 11) (oi := ⟨_, _, _, _, _, _⟩) (v := ?_) rfl (by kernel_rfl) (by kernel_rfl) (by kernel_rfl) (by kernel_rfl) (by kernel_rfl) (fun _ _ _ h => h) (Or.inl ⟨by rfl, ?_⟩) (by assumption) ?_
        rotate_left
        · intro W hSw
          (try dsimp only at hSw)
          go_simp
          (try with_reducible rfl)
        (try simp only [Act.put, List.setIfInBounds_toArray, List.set_cons_zero, List.set_cons_succ])
        refine wpAnyZ_ready (rs := [12]) (by kernel_rfl) (by simp) ?_
        refine AllReadyZ.cons (o := ⟨_, _, _, _, _, _⟩) rfl (fun C hC => ?_) AllReadyZ.nil
        go_simp
        refine hC.out _ _ (zfree_no (by kernel_rfl)) (fun _ => ?_)
        clear hC C
        (try simp only [Act.put, List.setIfInBounds_toArray, List.set_cons_zero, List.set_cons_succ])
        refine wpAnyZ_done (by kernel_rfl) ?_ _
        refine NoPanic.normal ?_
        clear hHeld
        obtain ⟨w3, hw3⟩ : ∃ w3, w3 = u2.setCell ⟨w.heap.size + 3, 2, none⟩ (.slice ad2 (n0 + 1) cap2) := ⟨_, rfl⟩
        have HA3 : Hid (AS w po xo b1 b2 (.slice ad2 (n0 + 1) cap2) (-1) w3) := by show AS _ _ _ _ _ _ _ _; rw [hw3]; exact HA2.out.s2 _
        have HR3 : Hid (RowAt trK w3 ad2 (n0 + 1) cap2 (l0 ++ [⟨b3, lv, b0⟩])) := by show RowAt _ _ _ _ _ _; rw [hw3]; exact HR2.out.off (fun a ha => by have := (HK2.out a ha).1; omega) _ _
        have HK3 : Hid (∀ a, ad2 = some a → w.heap.size + 4 ≤ a.block ∧ a.block < w3.heap.size) := fun a ha => by rw [hw3, size_set]; exact HK2.out a ha
        rw [← hw3]
        clear hw3 HA2 HR2 HA HAd HOd HR0 HK0 HXC HO HK2
        obtain ⟨k, hk⟩ : ∃ k, k = n0 + 1 - 5 := ⟨_, rfl⟩
        obtain ⟨ad4, cap4, hcut, hr4, hk4⟩ := row_from trK_ok HR3.out k (by omega)
        have hcut : ∀ W, (Instr.slice 38 (.slice ad2 (n0 + 1) cap2) (some (.int .i64 (k : Int))) none none).run Try.prog W = .ok (.slice ad4 (n0 + 1 - k) cap4) W := hcut
        have hmx : (if (n0 : Int) + 1 - 5 < 0 then 0 else (n0 : Int) + 1 - 5) = (k : Int) := by split <;> omega
        have HK4 : Hid (∀ a, ad4 = some a → w.heap.size + 4 ≤ a.block ∧ a.block < w3.heap.size) := fun a ha => by
          obtain ⟨a0, h0, h1⟩ := hk4 a ha
          rw [h1]; exact HK3.out a0 h0
        obtain ⟨l4, hl4⟩ : ∃ l4, l4 = (l0 ++ [(⟨b3, lv, b0⟩ : Tr)]).drop k := ⟨_, rfl⟩
        have HPF : Hid (∀ oz, oz = (if b4 = true ∧ o1 < 0 then b0 else o1) → p = ⟨b1, b2, l4, oz⟩) := by
          intro oz hoz
          rw [hoe.out] at hoz
          rw [HPE.out oz hoz, hl4, hk]
          unfold newLast
          rw [HLN.out]
        rw [← hl4] at hr4
        have HR4 := Lib.hid hr4
        have HKK := Lib.hid hk
        clear hr4 hk4 hl4 HPE HR3 HK3 hk
        have o0_ := HA3.out.ob.c2
        have g2 := HA3.out.ob.free 2
        go_upto_region 10 with fail
        obtain ⟨n4, hn4⟩ : ∃ n4, n4 = n0 + 1 - k := ⟨_, rfl⟩
        rw [← hn4] at HR4
        rw [← hn4]
        obtain ⟨w4, hw4⟩ : ∃ w4, w4 = w3.setCell ⟨w.heap.size + 3, 2, none⟩ (.slice ad4 n4 cap4) := ⟨_, rfl⟩
        have HA4 : Hid (AS w po xo b1 b2 (.slice ad4 n4 cap4) (-1) w4) := by show AS _ _ _ _ _ _ _ _; rw [hw4]; exact HA3.out.s2 _
        have HR5 : Hid (RowAt trK w4 ad4 n4 cap4 l4) := by show RowAt _ _ _ _ _ _; rw [hw4]; exact HR4.out.off (fun a ha => by have := (HK4.out a ha).1; omega) _ _
        have HK5 : Hid (∀ a, ad4 = some a → w.heap.size + 4 ≤ a.block ∧ a.block < w4.heap.size) := fun a ha => by rw [hw4, size_set]; exact HK4.out a ha
        rw [← hw4]
        clear hw4 HA3 HR4 HK4 hcut hmx hn4 o0_ g2 KS
        have HPC : Hid (PBox w4 w.heap.size i1 e1 (.slice a1 n1 c1) o1) := by show (_ : World).heap[_]? = _; rw [HA4.out.pb, HPO.out]
        have y3 := HPC.out.c3
        have g3 := HA4.out.ob.free 3
        have oc3 := HA4.out.ob.c3
        go_upto_region 11 with fail
        obtain ⟨w5, hw5⟩ : ∃ w5, w5 = w4.setCell ⟨w.heap.size + 3, 3, none⟩ (.int .i64 o1) := ⟨_, rfl⟩
        have HA5 : Hid (AS w po xo b1 b2 (.slice ad4 n4 cap4) o1 w5) := by show AS _ _ _ _ _ _ _ _; rw [hw5]; exact HA4.out.s3 _
        have HR6 : Hid (RowAt trK w5 ad4 n4 cap4 l4) := by show RowAt _ _ _ _ _ _; rw [hw5]; exact HR5.out.off (fun a ha => by have := (HK5.out a ha).1; omega) _ _
        have HK6 : Hid (∀ a, ad4 = some a → w.heap.size + 4 ≤ a.block ∧ a.block < w5.heap.size) := fun a ha => by rw [hw5, size_set]; exact HK5.out a ha
        rw [← hw5]
        clear hw5 HA4 HR5 HK5 y3 g3 oc3 HPC
        have HPC : Hid (PBox w5 w.heap.size i1 e1 (.slice a1 n1 c1) o1) := by show (_ : World).heap[_]? = _; rw [HA5.out.pb, HPO.out]
        have hX : BoxAt w5 (w.heap.size + 1) b0 b1 b2 b3 b4 b5 (.slice rd rn rc) := by have := HA5.out.xb; rw [HXO.out] at this; exact this
        have p4 := hX.c4
        cases b4
        · have HP : Hid (p = ⟨b1, b2, l4, o1⟩) := HPF.out o1 (by simp)
          clear HPF hX
          have oc0 := HA5.out.ob.c0
          have g0 := HA5.out.ob.free 0
          have r0 := HA5.out.rb.c0
          have f0 := HA5.out.rb.free 0
          have oc1 := HA5.out.ob.c1
          have g1 := HA5.out.ob.free 1
          have r1 := HA5.out.rb.c1
          have f1 := HA5.out.rb.free 1
          have oc2 := HA5.out.ob.c2
          have g2 := HA5.out.ob.free 2
          have r2 := HA5.out.rb.c2
          have f2 := HA5.out.rb.free 2
          have oc3 := HA5.out.ob.c3
          have g3 := HA5.out.ob.free 3
          have r3 := HA5.out.rb.c3
          have f3 := HA5.out.rb.free 3
          go_wp2
          exact bodyPost_ret (resultsPrApply ((((HA5.out.rb.s0 b1).s1 b2).s2 (.slice ad4 n4 cap4)).s3 o1) rfl) rfl (gives_apply HA5.out HP.out HR6.out HK6.out)
        · have y0 := HPC.out.c0
          have y1 := HPC.out.c1
          have y2 := HPC.out.c2
          have y3 := HPC.out.c3
          clear hX
          by_cases hlt : 0 ≤ o1
          · have HD : Hid (decide (0 ≤ o1) = true) := decide_eq_true hlt
            have HP : Hid (p = ⟨b1, b2, l4, o1⟩) := HPF.out o1 (by simp [Int.not_lt.2 hlt])
            clear HPF hlt
            go_wp2_with fail
            refine (prOpen_any w5 i1 e1 o1 a1 n1 c1 true HD.out).mono ?_
            rintro e w6 ⟨rfl, hb6⟩
            have HA6 := Lib.hid (HA5.out.on hb6)
            have HR7 := Lib.hid (HR6.out.keep hb6)
            have HK7 : Hid (∀ a, ad4 = some a → w.heap.size + 4 ≤ a.block ∧ a.block < w6.heap.size) := fun a ha => ⟨(HK6.out a ha).1, Nat.lt_of_lt_of_le (HK6.out a ha).2 hb6.size⟩
            clear hb6 HA5 HR6 HK6 y0 y1 y2 y3 p4 HPC
            have oc0 := HA6.out.ob.c0
            have g0 := HA6.out.ob.free 0
            have r0 := HA6.out.rb.c0
            have f0 := HA6.out.rb.free 0
            have oc1 := HA6.out.ob.c1
            have g1 := HA6.out.ob.free 1
            have r1 := HA6.out.rb.c1
            have f1 := HA6.out.rb.free 1
            have oc2 := HA6.out.ob.c2
            have g2 := HA6.out.ob.free 2
            have r2 := HA6.out.rb.c2
            have f2 := HA6.out.rb.free 2
            have oc3 := HA6.out.ob.c3
            have g3 := HA6.out.ob.free 3
            have r3 := HA6.out.rb.c3
            have f3 := HA6.out.rb.free 3
            go_wp2
            exact bodyPost_ret (resultsPrApply ((((HA6.out.rb.s0 b1).s1 b2).s2 (.slice ad4 n4 cap4)).s3 o1) rfl) rfl (gives_apply HA6.out HP.out HR7.out HK7.out)
          · have HD : Hid (decide (0 ≤ o1) = false) := decide_eq_false hlt
            have HP : Hid (p = ⟨b1, b2, l4, b0⟩) := HPF.out b0 (by simp [Int.not_le.1 hlt])
            clear HPF hlt
            go_wp2_with fail
            refine (prOpen_any w5 i1 e1 o1 a1 n1 c1 false HD.out).mono ?_
            rintro e w6 ⟨rfl, hb6⟩
            have HA6 := Lib.hid (HA5.out.on hb6)
            have HR7 := Lib.hid (HR6.out.keep hb6)
            have HK7 : Hid (∀ a, ad4 = some a → w.heap.size + 4 ≤ a.block ∧ a.block < w6.heap.size) := fun a ha => ⟨(HK6.out a ha).1, Nat.lt_of_lt_of_le (HK6.out a ha).2 hb6.size⟩
            have hX : BoxAt w6 (w.heap.size + 1) b0 b1 b2 b3 true b5 (.slice rd rn rc) := by have := HA6.out.xb; rw [HXO.out] at this; exact this
            clear hb6 HA5 HR6 HK6 y0 y1 y2 y3 p4 HPC
            have p0 := hX.c0
            clear hX
            have oc0 := HA6.out.ob.c0
            have g0 := HA6.out.ob.free 0
            have r0 := HA6.out.rb.c0
            have f0 := HA6.out.rb.free 0
            have oc1 := HA6.out.ob.c1
            have g1 := HA6.out.ob.free 1
            have r1 := HA6.out.rb.c1
            have f1 := HA6.out.rb.free 1
            have oc2 := HA6.out.ob.c2
            have g2 := HA6.out.ob.free 2
            have r2 := HA6.out.rb.c2
            have f2 := HA6.out.rb.free 2
            have oc3 := HA6.out.ob.c3
            have g3 := HA6.out.ob.free 3
            have r3 := HA6.out.rb.c3
            have f3 := HA6.out.rb.free 3
            go_wp2
            exact bodyPost_ret (resultsPrApply (((((HA6.out.s3 b0).rb.s0 b1).s1 b2).s2 (.slice ad4 n4 cap4)).s3 b0) rfl) rfl (gives_apply (HA6.out.s3 b0) HP.out (HR7.out.off (fun a ha => by have := (HK7.out a ha).1; omega) _ _) (fun a ha => by rw [size_set]; exact HK7.out a ha))
      · have hd : (b5 == 0) = false := beq_false_of_ne hm
        have hdn : (b5 != 0) = true := by unfold bne; rw [hd]; rfl
        have HPE := Lib.hid (HPE1.out hm)
        clear HPE1 HPE2 hm
        have oc0 := HA.out.ob.c0
        have g0 := HA.out.ob.free 0
        have r0 := HA.out.rb.c0
        have f0 := HA.out.rb.free 0
        have oc1 := HA.out.ob.c1
        have g1 := HA.out.ob.free 1
        have r1 := HA.out.rb.c1
        have f1 := HA.out.rb.free 1
        have oc2 := HA.out.ob.c2
        have g2 := HA.out.ob.free 2
        have r2 := HA.out.rb.c2
        have f2 := HA.out.rb.free 2
        have oc3 := HA.out.ob.c3
        have g3 := HA.out.ob.free 3
        have r3 := HA.out.rb.c3
        have f3 := HA.out.rb.free 3
        go_wp2
        exact bodyPost_ret (resultsPrApply ((((HA.out.rb.s0 b1).s1 b2).s2 (.slice ad0 n0 cap0)).s3 (-1)) rfl) rfl (gives_apply HA.out HPE.out HR0.out HK0.out)
end Go.Proofs.Ytinilkkpocnnpaa
namespace Go.Proofs.Ytinilkkpocnnpaa
open Go.RowKit
open Go.SeqMath
open Go.ProdMath
open Go.BatMath hiding AllB getD_lt take_all
set_option linter.unusedVariables false

/-- A record of two empty texts. -/
def Rc.nil : Rc := ⟨⟨#[]⟩, ⟨#[]⟩⟩
theorem recs_nil_all : ∀ (c : Nat), recK.all (List.replicate c Rc.nil) = List.replicate (c * 2) (.string ⟨#[]⟩)
  | 0 => rfl
  | c + 1 => by
    rw [List.replicate_succ, show (c + 1) * 2 = c * 2 + 1 + 1 from by omega, List.replicate_succ, List.replicate_succ, ← recs_nil_all c]
    rfl
theorem recs_nil (w : World) (c : Nat) (hc : c ≤ 1000000) : RecsAt (w.alloc (.cells (List.replicate (c * 2) (.string ⟨#[]⟩)).toArray 48)) (some ⟨w.heap.size, 0, none⟩) c c (List.replicate c Rc.nil) :=
  recsAt_row.2 (rowAt_lit recK_ok w (List.replicate c Rc.nil) (by rw [List.length_replicate]; exact hc) _ (by rw [recs_nil_all]) c (by rw [List.length_replicate]))
def PK : Pd := ⟨1, 2, [⟨7, 8, 4⟩], -1⟩
def bK (ep : Int) : Bat := ⟨4, 1, ep, 7, false, 0, List.replicate 2 Rc.nil⟩
theorem known_right10 : RightP PK := by
  refine ⟨by decide, fun j => ?_⟩
  intro x hx
  rcases j with _ | j
  · cases hx
    exact ⟨by unfold TrOk; decide, fun y h0 => by omega⟩
  · simp [PK] at hx
set_option maxRecDepth 100000 in
set_option maxHeartbeats 4000000 in
theorem known10_any (w : World) : Calls Try.prog 15 #[] w (GivesBool w true) := by
  have k1 : Hid (applyD ⟨0, 0, [], 0⟩ false (bK 2) = PK) := by show _ = _; rfl
  have k2 : Hid (checkD PK true (bK 2) = (4, 0)) := by show _ = _; rfl
  have k3 : Hid (checkD PK true (bK 1) = (-1, 14)) := by show _ = _; rfl
  have k4 : Hid (checkD PK true ⟨0, 1, 2, -1, true, 1, []⟩ = (-1, 16)) := by show _ = _; rfl
  have k5 : Hid ((if (2 : Int) = 2 ∧ (0 : Int) = 0 then dupL PK.last 7 2 else none) = some 4) := by show _ = _; rfl
  obtain ⟨W0, hW0⟩ : ∃ W0, W0 = w.alloc (.cells #[.string ⟨#[]⟩, .string ⟨#[]⟩, .string ⟨#[]⟩, .string ⟨#[]⟩] 48) := ⟨_, rfl⟩
  obtain ⟨W1, hW1⟩ : ∃ W1, W1 = W0.alloc (.cells #[.int .i64 4, .int .i64 1, .int .i64 2, .int .i64 7, .bool false, .int .i64 0, .slice (some ⟨w.heap.size, 0, none⟩) 2 2] 33) := ⟨_, rfl⟩
  have hb0 : Below w.heap.size w W0 := by rw [hW0]; exact (Below.refl _ _).alloc (Nat.le_refl _) _
  have hb1 : Below W0.heap.size W0 W1 := by rw [hW1]; exact (Below.refl _ _).alloc (Nat.le_refl _) _
  have HB1 := Lib.hid (hb0.trans (hb1.mono hb0.size))
  have HRC1 : Hid (RecsAt W1 (some ⟨w.heap.size, 0, none⟩) 2 2 (List.replicate 2 Rc.nil)) := by
    show RecsAt _ _ _ _ _
    have h := (recs_nil w 2 (by decide)).keep (w' := W1) (by
      have h2 : w.alloc (.cells (List.replicate (2 * 2) (.string ⟨#[]⟩)).toArray 48) = W0 := hW0.symm
      rw [h2]
      exact hb1)
    exact h
  have HX1 : Hid (BoxAt W1 (w.heap.size + 1) 4 1 2 7 false 0 (.slice (some ⟨w.heap.size, 0, none⟩) 2 2)) := by
    show BoxAt _ _ _ _ _ _ _ _ _
    have h := boxAt_new W0 4 1 2 7 false 0 (.slice (some ⟨w.heap.size, 0, none⟩) 2 2)
    rw [← hW1, hW0] at h
    simpa using h
  obtain ⟨G, hG⟩ : ∃ G, G = w.heap.size := ⟨_, rfl⟩
  obtain ⟨B, hB⟩ : ∃ B, B = w.heap.size + 1 := ⟨_, rfl⟩
  rw [← hB] at HX1
  rw [← hG] at HRC1 HX1
  have HW0 := Lib.hid hW0
  have HW1 := Lib.hid hW1
  clear hb0 hb1 hW0 hW1
  go_enter Try.func15, Try.ntmps15
  go_upto_region 2 with fail
  rw [← HW0.out, ← HW1.out, ← hB, ← hG]
  clear hG hB HW0 HW1
  have p0 := HX1.out.c0
  have p1 := HX1.out.c1
  have p2 := HX1.out.c2
  have p3 := HX1.out.c3
  have p4 := HX1.out.c4
  have p5 := HX1.out.c5
  have p6 := HX1.out.c6
  go_wp2_with fail
  refine (prApply_any W1 0 0 0 [] none 0 0 (rowAt_nil _) (by omega) false 4 1 2 7 false 0 (List.replicate 2 Rc.nil) (some ⟨G, 0, none⟩) 2 2 (by simp) (by omega) PK k1.out).mono ?_
  rintro e w2 ⟨ad, n, cap, rfl, hrow, hk, hb2⟩
  have hn : n = 1 := by have := hrow.length; simp [PK] at this; omega
  subst hn
  simp only [PK]
  obtain ⟨W2, hW2⟩ : ∃ W2, W2 = w2.alloc (.cells #[.int .i64 1, .int .i64 2, .slice ad 1 cap, .int .i64 (-1)] 40) := ⟨_, rfl⟩
  have hb3 : Below w2.heap.size w2 W2 := by rw [hW2]; exact (Below.refl _ _).alloc (Nat.le_refl _) _
  have HBB := Lib.hid (hb2.trans (hb3.mono hb2.size))
  obtain ⟨B2, hB2⟩ : ∃ B, B = w2.heap.size := ⟨_, rfl⟩
  have HP2 : Hid (PBox W2 B2 1 2 (.slice ad 1 cap) (-1)) := by show PBox _ _ _ _ _ _; rw [hW2, hB2]; exact pbox_new w2 _ _ _ _
  have HR2 : Hid (RowAt trK W2 ad 1 cap PK.last) := hrow.keep hb3
  have HX2 := Lib.hid (HX1.out.on HBB.out)
  have HRC2 := Lib.hid (HRC1.out.keep HBB.out)
  have HB2 := Lib.hid (HB1.out.trans (HBB.out.mono HB1.out.size))
  have HW2 := Lib.hid hW2
  clear hrow hk hb2 hb3 hW2 HBB HX1 HRC1 HB1 p0 p1 p2 p3 p4 p5 p6
  go_upto_region 3 with fail
  rw [← hB2, ← HW2.out]
  clear hB2 HW2
  have q0 := HP2.out.c0
  have q1 := HP2.out.c1
  have q2 := HP2.out.c2
  have q3 := HP2.out.c3
  have p0 := HX2.out.c0
  have p1 := HX2.out.c1
  have p2 := HX2.out.c2
  have p3 := HX2.out.c3
  have p4 := HX2.out.c4
  have p5 := HX2.out.c5
  have p6 := HX2.out.c6
  go_wp2_with fail
  refine (prCheck_any W2 1 2 (-1) PK.last ad 1 cap HR2.out (by omega) true 4 1 2 7 false 0 (List.replicate 2 Rc.nil) (some ⟨G, 0, none⟩) 2 2 (by simp) (by omega) (4, 0) k2.out).mono ?_
  rintro e w3 ⟨rfl, hb3⟩
  have HP3 := Lib.hid (HP2.out.on hb3)
  have HX3 := Lib.hid (HX2.out.on hb3)
  have HR3 := Lib.hid (HR2.out.keep hb3)
  have HRC3 := Lib.hid (HRC2.out.keep hb3)
  have HB3 := Lib.hid (HB2.out.trans (hb3.mono HB2.out.size))
  clear hb3 HP2 HX2 HR2 HRC2 HB2 q0 q1 q2 q3 p0 p1 p2 p3 p4 p5 p6
  have q0 := HP3.out.c0
  have q1 := HP3.out.c1
  have q2 := HP3.out.c2
  have q3 := HP3.out.c3
  have p0 := HX3.out.c0
  have p1 := HX3.out.c1
  have p2 := HX3.out.c2
  have p3 := HX3.out.c3
  have p4 := HX3.out.c4
  have p5 := HX3.out.c5
  have p6 := HX3.out.c6
  go_upto_region 5 with fail
  obtain ⟨W4, hW4⟩ : ∃ W4, W4 = w3.alloc (.cells #[.int .i64 4, .int .i64 1, .int .i64 2, .int .i64 7, .bool false, .int .i64 0, .slice (some ⟨G, 0, none⟩) 2 2] 33) := ⟨_, rfl⟩
  have hb4 : Below w3.heap.size w3 W4 := by rw [hW4]; exact (Below.refl _ _).alloc (Nat.le_refl _) _
  obtain ⟨L, hL⟩ : ∃ L, L = w3.heap.size := ⟨_, rfl⟩
  have HY4 : Hid (BoxAt W4 L 4 1 2 7 false 0 (.slice (some ⟨G, 0, none⟩) 2 2)) := by show BoxAt _ _ _ _ _ _ _ _ _; rw [hW4, hL]; exact boxAt_new w3 _ _ _ _ _ _ _
  have hLL : w3.heap.size ≤ L := by omega
  have hrl : ∀ a, ad = some a → a.block < w3.heap.size := HR3.out.lt (by omega)
  rw [← hL, ← hW4]
  clear hW4 hL
  have HLL := Lib.hid hLL
  have HB4 := Lib.hid hb4
  clear hLL hb4 hrl
  have l2 := HY4.out.c2
  have f2 := HY4.out.free 2
  clear p0 p1 p2 p3 p4 p5 p6 q0 q1 q2 q3
  go_upto_region 6 with fail
  obtain ⟨W5, hW5⟩ : ∃ W5, W5 = W4.setCell ⟨L, 2, none⟩ (.int .i64 1) := ⟨_, rfl⟩
  have hb5 : Below w3.heap.size w3 W5 := by rw [hW5]; exact HB4.out.setCell HLL.out _
  have HY5 : Hid (BoxAt W5 L 4 1 1 7 false 0 (.slice (some ⟨G, 0, none⟩) 2 2)) := by show BoxAt _ _ _ _ _ _ _ _ _; rw [hW5]; exact HY4.out.s2 1
  have HP5 := Lib.hid (HP3.out.on hb5)
  have HX5 := Lib.hid (HX3.out.on hb5)
  have HR5 := Lib.hid (HR3.out.keep hb5)
  have HRC5 := Lib.hid (HRC3.out.keep hb5)
  have HB5 := Lib.hid (HB3.out.trans (hb5.mono HB3.out.size))
  rw [← hW5]
  clear HY4 hW5 hb5 l2 f2 HLL HB4 HP3 HX3 HR3 HRC3 HB3
  have q0 := HP5.out.c0
  have q1 := HP5.out.c1
  have q2 := HP5.out.c2
  have q3 := HP5.out.c3
  have p0 := HY5.out.c0
  have p1 := HY5.out.c1
  have p2 := HY5.out.c2
  have p3 := HY5.out.c3
  have p4 := HY5.out.c4
  have p5 := HY5.out.c5
  have p6 := HY5.out.c6
  go_wp2_with fail
  refine (prCheck_any W5 1 2 (-1) PK.last ad 1 cap HR5.out (by omega) true 4 1 1 7 false 0 (List.replicate 2 Rc.nil) (some ⟨G, 0, none⟩) 2 2 (by simp) (by omega) (-1, 14) k3.out).mono ?_
  rintro e w6 ⟨rfl, hb6⟩
  have HP6 := Lib.hid (HP5.out.on hb6)
  have HX6 := Lib.hid (HX5.out.on hb6)
  have HR6 := Lib.hid (HR5.out.keep hb6)
  have HRC6 := Lib.hid (HRC5.out.keep hb6)
  have HB6 := Lib.hid (HB5.out.trans (hb6.mono HB5.out.size))
  clear hb6 HP5 HX5 HR5 HRC5 HB5 q0 q1 q2 q3 p0 p1 p2 p3 p4 p5 p6 HY5
  have q0 := HP6.out.c0
  have q1 := HP6.out.c1
  have q2 := HP6.out.c2
  have q3 := HP6.out.c3
  go_wp2_with fail
  refine (prCheck_any w6 1 2 (-1) PK.last ad 1 cap HR6.out (by omega) true 0 1 2 (-1) true 1 [] none 0 0 (by simp) (by omega) (-1, 16) k4.out).mono ?_
  rintro e w7 ⟨rfl, hb7⟩
  have HP7 := Lib.hid (HP6.out.on hb7)
  have HX7 := Lib.hid (HX6.out.on hb7)
  have HR7 := Lib.hid (HR6.out.keep hb7)
  have HRC7 := Lib.hid (HRC6.out.keep hb7)
  have HB7 := Lib.hid (HB6.out.trans (hb7.mono HB6.out.size))
  clear hb7 HP6 HX6 HR6 HRC6 HB6 q0 q1 q2 q3
  have q0 := HP7.out.c0
  have q1 := HP7.out.c1
  have q2 := HP7.out.c2
  have q3 := HP7.out.c3
  have p0 := HX7.out.c0
  have p1 := HX7.out.c1
  have p2 := HX7.out.c2
  have p3 := HX7.out.c3
  have p4 := HX7.out.c4
  have p5 := HX7.out.c5
  have p6 := HX7.out.c6
  go_wp2_with fail
  refine (prDup_any w7 1 2 (-1) PK.last ad 1 cap HR7.out (by omega) 4 1 2 7 false 0 (some ⟨G, 0, none⟩) 2 2 (by omega) (some 4) k5.out).mono ?_
  rintro e w8 ⟨rfl, hb8⟩
  have HP8 := Lib.hid (HP7.out.on hb8)
  have HX8 := Lib.hid (HX7.out.on hb8)
  have HR8 := Lib.hid (HR7.out.keep hb8)
  have HRC8 := Lib.hid (HRC7.out.keep hb8)
  have HB8 := Lib.hid (HB7.out.trans (hb8.mono HB7.out.size))
  clear hb8 HP7 HX7 HR7 HRC7 HB7 q0 q1 q2 q3 p0 p1 p2 p3 p4 p5 p6
  have q0 := HP8.out.c0
  have q1 := HP8.out.c1
  have q2 := HP8.out.c2
  have q3 := HP8.out.c3
  obtain ⟨bk, off, x, rfl, hbk, hx, c0, c1, c2⟩ := tr_get HR8.out (i := 0) (by omega)
  have hx2 : x = ⟨7, 8, 4⟩ := by simp [PK] at hx; exact hx.symm
  subst hx2
  simp only [Nat.zero_mul, Nat.add_zero] at c0 c1 c2
  have heq : ∀ W, (binOp .eql 59 (.agg #[.int .i64 7, .int .i64 8, .int .i64 4]) (.agg #[.int .i64 7, .int .i64 8, .int .i64 4])).run Try.prog W = .ok (.bool true) W := fun W => eql_three _ _ _ _ _ _ true (by decide) W
  have hgd := guard_three
  clear hx hbk
  simp only [Option.getD_some, Option.isSome_some]
  go_wp2_with fail
  refine (prRight_any w8 1 2 (-1) PK.last (some ⟨bk, off, none⟩) 1 cap HR8.out (by omega) true (iff_of_true rfl known_right10)).mono ?_
  rintro e w9 ⟨rfl, hb9⟩
  have HP9 := Lib.hid (HP8.out.on hb9)
  have HR9 := Lib.hid (HR8.out.keep hb9)
  have HB9 := Lib.hid (HB8.out.trans (hb9.mono HB8.out.size))
  clear hb9 HP8 HR8 HB8 q0 q1 q2 q3 c0 c1 c2 heq
  have q0 := HP9.out.c0
  have q1 := HP9.out.c1
  have q2 := HP9.out.c2
  have q3 := HP9.out.c3
  go_wp2_with fail
  refine (prSame_self w9 1 2 (-1) PK.last (some ⟨bk, off, none⟩) 1 cap HR9.out (by omega)).mono ?_
  rintro e w10 ⟨rfl, hb10⟩
  have HB10 := Lib.hid (HB9.out.trans (hb10.mono HB9.out.size))
  clear hb10
  go_wp2
  go_ret
  exact gives_bool rfl HB10.out
end Go.Proofs.Ytinilkkpocnnpaa
namespace Go.Proofs.Ytinilkkpocnnpaa
open Go.RowKit
open Go.SeqMath
open Go.ProdMath
open Go.BatMath hiding AllB getD_lt take_all
set_option linter.unusedVariables false

/-- A new box of a batch, of a producer; a new record. -/
theorem box_new (w : World) (b0 b1 b2 b3 : Int) (b4 : Bool) (b5 : Int) (v : Value) : ∃ W, W = w.alloc (.cells #[.int .i64 b0, .int .i64 b1, .int .i64 b2, .int .i64 b3, .bool b4, .int .i64 b5, v] 33) ∧ Below w.heap.size w W ∧ BoxAt W w.heap.size b0 b1 b2 b3 b4 b5 v ∧ W.heap.size = w.heap.size + 1 := ⟨_, rfl, (Below.refl _ _).alloc (Nat.le_refl _) _, boxAt_new w _ _ _ _ _ _ _, by simp⟩
theorem pd_new (w : World) (b0 b1 : Int) (v : Value) (b3 : Int) : ∃ W, W = w.alloc (.cells #[.int .i64 b0, .int .i64 b1, v, .int .i64 b3] 40) ∧ Below w.heap.size w W ∧ PBox W w.heap.size b0 b1 v b3 ∧ W.heap.size = w.heap.size + 1 := ⟨_, rfl, (Below.refl _ _).alloc (Nat.le_refl _) _, pbox_new w _ _ _ _, by simp⟩
theorem one_rec (w : World) : ∃ W, W = w.alloc (.cells #[.string ⟨#[]⟩, .string ⟨#[]⟩] 48) ∧ Below w.heap.size w W ∧ RecsAt W (some ⟨w.heap.size, 0, none⟩) 1 1 [Rc.nil] ∧ W.heap.size = w.heap.size + 1 := ⟨_, rfl, (Below.refl _ _).alloc (Nat.le_refl _) _, recs_nil w 1 (by decide), by simp⟩
end Go.Proofs.Ytinilkkpocnnpaa
namespace Go.Proofs.Ytinilkkpocnnpaa
open Go.RowKit
open Go.SeqMath
open Go.ProdMath
open Go.BatMath hiding AllB getD_lt take_all
set_option linter.unusedVariables false

/-- A producer in a block of the law's own. -/
structure PS (w W : World) (B : Nat) (p : Pd) (ad : Option Addr) (n cap : Nat) : Prop where
  box : PBox W B p.id p.epoch (.slice ad n cap) p.opn
  row : RowAt trK W ad n cap p.last
  ne : ∀ a, ad = some a → a.block ≠ B
  bel : Below w.heap.size w W
  lo : w.heap.size ≤ B
theorem PS.on {w W W' : World} {B : Nat} {p : Pd} {ad : Option Addr} {n cap : Nat} (h : PS w W B p ad n cap) (hb : Below W.heap.size W W') : PS w W' B p ad n cap :=
  ⟨h.box.on hb, h.row.keep hb, h.ne, h.bel.trans (hb.mono h.bel.size), h.lo⟩
theorem PS.off {w W : World} {B : Nat} {p : Pd} {ad : Option Addr} {n cap k : Nat} (h : PS w W B p ad n cap) (hk : k ≠ B) (hw : w.heap.size ≤ k) (hr : ∀ a, ad = some a → a.block ≠ k) (j : Nat) (u : Value) : PS w (W.setCell ⟨k, j, none⟩ u) B p ad n cap :=
  ⟨h.box.off hk _, h.row.off hr _ _, h.ne, h.bel.setCell hw _, h.lo⟩
theorem PS.put {w W W' : World} {B : Nat} {p q : Pd} {ad ad' : Option Addr} {n cap n' cap' : Nat} (h : PS w W B p ad n cap) (hb : Below W.heap.size W W') (hr : RowAt trK W' ad' n' cap' q.last) (hn : ∀ a, ad' = some a → W.heap.size ≤ a.block ∧ a.block < W'.heap.size) :
    PS w ((((W'.setCell ⟨B, 0, none⟩ (.int .i64 q.id)).setCell ⟨B, 1, none⟩ (.int .i64 q.epoch)).setCell ⟨B, 2, none⟩ (.slice ad' n' cap')).setCell ⟨B, 3, none⟩ (.int .i64 q.opn)) B q ad' n' cap' := by
  have hlt := h.box.lt
  have hne : ∀ a, ad' = some a → a.block ≠ B := fun a ha => by have := (hn a ha).1; omega
  exact ⟨((((h.box.on hb).s0 q.id).s1 q.epoch).s2 (.slice ad' n' cap')).s3 q.opn, (((hr.off hne _ _).off hne _ _).off hne _ _).off hne _ _, hne, ((((h.bel.trans (hb.mono h.bel.size)).setCell h.lo _).setCell h.lo _).setCell h.lo _).setCell h.lo _, h.lo⟩
end Go.Proofs.Ytinilkkpocnnpaa
