/- Parts of a proof, merged: PrOdd, PrLawSame, TapeRow, PrTape, ModMath, ProdAt. -/
import Derived.Test.YtinilkkpocnnpaaKb8
import Derived.Test.YtinilkkpocnnpaaKb9
import Derived.Test.YtinilkkpocnnpaaKb1
import Derived.Test.YtinilkkpocnnpaaKb2
import Derived.Test.YtinilkkpocnnpaaKb3
namespace Go.Proofs.Ytinilkkpocnnpaa
open Go.RowKit
open Go.SeqMath
open Go.ProdMath
open Go.BatMath hiding AllB getD_lt take_all
set_option linter.unusedVariables false

theorem mask1 (a : Int) : bits .and .i64 a 1 = a % 2 := by
  have h1 : (BitVec.ofInt 64 1).toNat = 2 ^ 1 - 1 := by decide
  have key : (BitVec.ofInt 64 a &&& BitVec.ofInt 64 1).toNat = (a % ((2 ^ 64 : Nat) : Int)).toNat % 2 ^ 1 := by
    rw [BitVec.toNat_and, BitVec.toNat_ofInt, h1, Nat.and_two_pow_sub_one_eq_mod]
  show IntKind.i64.wrap ((BitVec.ofInt 64 a &&& BitVec.ofInt 64 1).toNat : Nat) = _
  rw [key, IntKind.wrap_i64]
  omega
/-- One number of a row is written. -/
theorem tr_set {w : World} {b off len cap : Nat} {l : List Tr} (h : RowAt trK w (some ⟨b, off, none⟩) len cap l) {j m : Nat} {x x' : Tr} (hj : l[j]? = some x) {u : Value} (he : trK.enc x' = (trK.enc x).set m u) (hm : m < 3) :
    RowAt trK (w.setCell ⟨b, off + j * 3 + m, none⟩ u) (some ⟨b, off, none⟩) len cap (l.set j x') := by
  have hjl : j < l.length := (List.getElem?_eq_some_iff.1 hj).1
  refine ⟨by rw [List.length_set]; exact h.length, h.fits, h.room, ?_⟩
  rcases h.cells with h0 | ⟨b', off', e, hlt, hc⟩
  · have := h.length; omega
  · cases e
    refine .inr ⟨b, off, rfl, by simpa using hlt, fun i y hy t v ht => ?_⟩
    have ht3 : t < 3 := by
      have h1 := (List.getElem?_eq_some_iff.1 ht).1
      rwa [show (trK.enc y).length = 3 from rfl] at h1
    have hs : trK.size = 3 := rfl
    by_cases hij : i = j
    · subst hij
      rw [List.getElem?_set_self hjl] at hy
      cases hy
      rw [he] at ht
      have hold : ∀ t, t < 3 → ∃ v, (trK.enc x)[t]? = some v := fun t ht => ⟨_, List.getElem?_eq_getElem (by rw [show (trK.enc x).length = 3 from rfl]; exact ht)⟩
      by_cases htm : t = m
      · subst htm
        obtain ⟨v0, hv0⟩ := hold t ht3
        have h2 := hc i x hj t v0 hv0
        rw [List.getElem?_set_self (by rw [show (trK.enc x).length = 3 from rfl]; exact hm)] at ht
        cases ht
        rw [hs] at h2 ⊢
        rw [show off + (i * 3 + t) = off + i * 3 + t from by omega] at h2 ⊢
        exact World.cell?_setCell_same _ _ _ h2
      · rw [List.getElem?_set_ne (fun h => htm h.symm)] at ht
        have h2 := hc i x hj t v ht
        rw [hs] at h2 ⊢
        rw [World.cell?_setCell_other (h := fun h => by have := congrArg Addr.off h; dsimp at this; omega)]
        exact h2
    · rw [List.getElem?_set_ne (fun h => hij h.symm)] at hy
      have h2 := hc i y hy t v ht
      rw [hs] at h2 ⊢
      rw [World.cell?_setCell_other (h := fun h => by have := congrArg Addr.off h; dsimp at this; omega)]
      exact h2
/-- The two boxes of the walk, and the row of its own. -/
structure OD (w W : World) (i e : Int) (v : Value) (o : Int) (l : List Tr) : Prop where
  box : PBox W w.heap.size i e v o
  rb : PBox W (w.heap.size + 1) 0 0 (.slice none 0 0) 0
  own : OwnRow trK W (w.heap.size + 2) v l
  bel : Below w.heap.size w W
section
variable {w W W' : World} {i e o : Int} {v : Value} {l : List Tr}
theorem OD.s0 (h : OD w W i e v o l) (n : Int) : OD w (W.setCell ⟨w.heap.size, 0, none⟩ (.int .i64 n)) n e v o l := ⟨h.box.s0 n, h.rb.off (by omega) _, h.own.off (by omega) _ _, h.bel.setCell (Nat.le_refl _) _⟩
theorem OD.s1 (h : OD w W i e v o l) (n : Int) : OD w (W.setCell ⟨w.heap.size, 1, none⟩ (.int .i64 n)) i n v o l := ⟨h.box.s1 n, h.rb.off (by omega) _, h.own.off (by omega) _ _, h.bel.setCell (Nat.le_refl _) _⟩
theorem OD.s3 (h : OD w W i e v o l) (n : Int) : OD w (W.setCell ⟨w.heap.size, 3, none⟩ (.int .i64 n)) i e v n l := ⟨h.box.s3 n, h.rb.off (by omega) _, h.own.off (by omega) _ _, h.bel.setCell (Nat.le_refl _) _⟩
theorem OD.lt (h : OD w W i e v o l) : w.heap.size + 2 ≤ W.heap.size := h.rb.lt
/-- Another row is stored. -/
theorem OD.app {v' : Value} {m : List Tr} (h : OD w W i e v o l) (hap : Appended trK W (w.heap.size + 2) v m v' W') : OD w (W'.setCell ⟨w.heap.size, 2, none⟩ v') i e v' o m := by
  have hb : ∀ k, v.ownBlock = some k → w.heap.size + 2 ≤ k := fun k hk => (h.own.lt k hk).1
  refine ⟨(h.box.grown hap.2.1 (fun e => by have := hb _ e; omega)).s2 v', (h.rb.grown hap.2.1 (fun e => by have := hb _ e; omega)).off (by omega) _, hap.1.off (by omega) _ _, (h.bel.grown hap.2.1 h.bel.size fun k hk => by have := hb k hk; omega).setCell (Nat.le_refl _) _⟩
theorem OD.start {v0 v' : Value} {m : List Tr} (hB : PBox W w.heap.size i e v0 o) (hR : PBox W (w.heap.size + 1) 0 0 (.slice none 0 0) 0) (hb : Below w.heap.size w W) (hv : ∀ k, v.ownBlock = some k → w.heap.size + 2 ≤ k) (hap : Appended trK W (w.heap.size + 2) v m v' W') : OD w (W'.setCell ⟨w.heap.size, 2, none⟩ v') i e v' o m :=
  ⟨(hB.grown hap.2.1 (fun e => by have := hv _ e; omega)).s2 v', (hR.grown hap.2.1 (fun e => by have := hv _ e; omega)).off (by omega) _, hap.1.off (by omega) _ _, (hb.grown hap.2.1 hb.size fun k hk => by have := hv k hk; omega).setCell (Nat.le_refl _) _⟩
theorem OD.on (h : OD w W i e v o l) (hb : Below W.heap.size W W') : OD w W' i e v o l := ⟨h.box.on hb, h.rb.on hb, h.own.on hb, h.bel.trans (hb.mono h.bel.size)⟩
end
def GivesOdd (w : World) (most : Nat) (e : Ending) (w' : World) : Prop :=
  ∃ i1 e1 o1 l1 a1 n1 c1, e = .returned (.agg #[.int .i64 i1, .int .i64 e1, .slice a1 n1 c1, .int .i64 o1]) ∧ Hid (RowAt trK w' a1 n1 c1 l1) ∧ n1 ≤ most ∧ Hid (Below w.heap.size w w')
theorem resultsOdd {tmps : Array Value} {B : Nat} {W : World} {b0 b1 b3 : Int} {v : Value} (h : PBox W B b0 b1 v b3) (ht : tmps.getD 6 undef = .pointer (some ⟨B, 0, none⟩)) :
    (results Try.f12 tmps).run Try.prog W = .ok (.agg #[.int .i64 b0, .int .i64 b1, v, .int .i64 b3]) W := by
  rw [results_cell_one (p := 6) (ty := 40) Try.results12, ht]
  have hl := run_loadVar_row (P := Try.prog) W B 40 40 _ (0, 0) _ h Try.underlying40 rfl (by kernel_rfl)
  simp only [asAddr, Sem.run_pure, Result.andThen, hl]
theorem gives_odd {w W : World} {i e o : Int} {a : Option Addr} {n c most : Nat} {l : List Tr} {u0 u1 u2 u3 : Value} (h : Below w.heap.size w W) (hr : RowAt trK W a n c l) (hk : ∀ x, a = some x → w.heap.size + 2 ≤ x.block) (hn : n ≤ most) :
    GivesOdd w most (.returned (.agg #[.int .i64 i, .int .i64 e, .slice a n c, .int .i64 o])) ((((W.setCell ⟨w.heap.size + 1, 0, none⟩ u0).setCell ⟨w.heap.size + 1, 1, none⟩ u1).setCell ⟨w.heap.size + 1, 2, none⟩ u2).setCell ⟨w.heap.size + 1, 3, none⟩ u3) := by
  have hk2 : ∀ x, a = some x → x.block ≠ w.heap.size + 1 := fun x hx => by have := hk x hx; omega
  exact ⟨i, e, o, l, a, n, c, rfl, (((hr.off hk2 _ _).off hk2 _ _).off hk2 _ _).off hk2 _ _, hn, (((h.setCell (Nat.le_succ _) _).setCell (Nat.le_succ _) _).setCell (Nat.le_succ _) _).setCell (Nat.le_succ _) _⟩
set_option maxRecDepth 100000 in
set_option maxHeartbeats 4000000 in
theorem prOdd_any (w : World) (id ep op : Int) (last : List Tr) (ad : Option Addr) (n cap : Nat) (hl : RowAt trK w ad n cap last) (hn : n ≤ 1000000) (x1 x2 : Int) (h1 : -9223372036854775808 ≤ x1 ∧ x1 ≤ 9223372036854775807) :
    Calls Try.prog 12 #[.agg #[.int .i64 id, .int .i64 ep, .slice ad n cap, .int .i64 op], .int .i64 x1, .int .i64 x2] w (GivesOdd w (n + 1)) := by
  obtain ⟨W0, hW0⟩ : ∃ W0, W0 = ((w.alloc (.cells #[.int .i64 id, .int .i64 ep, .slice ad n cap, .int .i64 op] 40)).alloc (.cells #[.int .i64 0, .int .i64 0, .slice none 0 0, .int .i64 0] 40)) := ⟨_, rfl⟩
  have hbel : Below w.heap.size w W0 := by rw [hW0]; exact ((Below.refl _ _).alloc (Nat.le_refl _) _).alloc (by simp) _
  have HOD : Hid (OD w W0 id ep (.slice ad n cap) op [] ∨ True) := .inr trivial
  have HB : Hid (PBox W0 w.heap.size id ep (.slice ad n cap) op) := by
    show (_ : World).heap[_]? = _
    rw [hW0, heap_alloc_old _ _ (by simp)]
    exact heap_alloc_new w _
  have HRB : Hid (PBox W0 (w.heap.size + 1) 0 0 (.slice none 0 0) 0) := by
    show (_ : World).heap[_]? = _
    have := heap_alloc_new (w.alloc (.cells #[.int .i64 id, .int .i64 ep, .slice ad n cap, .int .i64 op] 40)) (.cells #[.int .i64 0, .int .i64 0, .slice none 0 0, .int .i64 0] 40)
    rw [hW0]
    simpa using this
  have HL0 := Lib.hid (hl.keep hbel)
  have HBEL := Lib.hid hbel
  have HW0 := Lib.hid hW0
  have HH1 := Lib.hid h1
  clear hl hbel hW0 h1 HOD
  go_enter Try.func12, Try.ntmps12
  go_upto_region 1 with fail
  rw [← HW0.out]
  clear HW0
  have hal : Below W0.heap.size W0 (W0.alloc (.cells #[] 59)) := (Below.refl _ _).alloc (Nat.le_refl _) _
  have q2 := (HB.out.on hal).c2
  have HBA := Lib.hid (HB.out.on hal)
  have HRA := Lib.hid (HRB.out.on hal)
  have HLA := Lib.hid (HL0.out.keep hal)
  have HBE := Lib.hid (HBEL.out.trans (hal.mono HBEL.out.size))
  have HLT : Hid (w.heap.size + 2 ≤ W0.heap.size) := HRB.out.lt
  have HVE : Hid (OwnRow trK (W0.alloc (.cells #[] 59)) (w.heap.size + 2) (.slice (some ⟨W0.heap.size, 0, none⟩) 0 0) []) := ownRow_lit trK_ok W0 _ [] HLT.out (by simp) _ rfl 0 rfl
  clear hal
  go_wp2_with (at_builtin; refine list_row (by rfl) trK_ok (.tmp 7) (.tmp 9) rfl (w.heap.size + 2) [] last _ rfl HVE.out (Nat.le_trans HLT.out (by simp)) ad n cap rfl HLA.out (by rw [List.length_nil]; omega) ?_)
  intro v2 w2 hap
  obtain ⟨ad2, cap2, hv2, _, _⟩ := OwnRow.row trK_ok (l := last) (n := n) hap.1 HLA.out.length
  subst hv2
  have hb2 : ∀ k, (Value.slice (some ⟨W0.heap.size, 0, none⟩) 0 0).ownBlock = some k → w.heap.size + 2 ≤ k := fun k hk => (HVE.out.lt k hk).1
  have f2 := (HBA.out.grown hap.2.1 (fun e => by have := hb2 _ e; omega)).free 2
  have r2 := (HBA.out.grown hap.2.1 (fun e => by have := hb2 _ e; omega)).c2
  obtain ⟨W1, hW1⟩ : ∃ W, W = w2.setCell ⟨w.heap.size, 2, none⟩ (.slice ad2 n cap2) := ⟨_, rfl⟩
  have HO : Hid (OD w W1 id ep (.slice ad2 n cap2) op last) := by
    show OD _ _ _ _ _ _ _
    rw [hW1]
    exact OD.start HBA.out HRA.out HBE.out hb2 hap
  clear hap hb2 HBA HRA HLA HBE HVE q2 HB HRB HBEL
  go_upto_region 2 with fail
  rw [← hW1]
  clear hW1 f2 r2
  go_wp2_with fail
  refine (within_any x1 6 W1 HH1.out (by decide)).mono ?_
  rintro e wz ⟨k, rfl, hk, rfl⟩
  have hk7 : k = 0 ∨ k = 1 ∨ k = 2 ∨ k = 3 ∨ k = 4 ∨ 5 ≤ k := by omega
  have hln := HL0.out.length
  have HLN := Lib.hid hln
  clear hln
  rcases hk7 with rfl | rfl | rfl | rfl | rfl | hk5
  · have oc := HO.out.box.c0
    have of := HO.out.box.free 0
    go_upto_region 15 with fail
    obtain ⟨W2, hW2⟩ : ∃ W, W = W1.setCell ⟨w.heap.size, 0, none⟩ (.int .i64 x2) := ⟨_, rfl⟩
    replace HO : Hid (OD w W2 x2 ep (.slice ad2 n cap2) op last) := by show OD _ _ _ _ _ _ _; rw [hW2]; exact HO.out.s0 x2
    rw [← hW2]
    clear hW2 oc of
    obtain ⟨_, _, hvv, hrr, hkx⟩ := OwnRow.row trK_ok HO.out.own (n := n) HLN.out
    cases hvv
    have hkk : ∀ x, ad2 = some x → w.heap.size + 2 ≤ x.block := fun x hx => (hkx x hx).1
    have oc0 := HO.out.box.c0
    have rc0 := HO.out.rb.c0
    have rf0 := HO.out.rb.free 0
    have oc1 := HO.out.box.c1
    have rc1 := HO.out.rb.c1
    have rf1 := HO.out.rb.free 1
    have oc2 := HO.out.box.c2
    have rc2 := HO.out.rb.c2
    have rf2 := HO.out.rb.free 2
    have oc3 := HO.out.box.c3
    have rc3 := HO.out.rb.c3
    have rf3 := HO.out.rb.free 3
    go_wp2
    exact bodyPost_ret (resultsOdd ((((HO.out.rb.s0 x2).s1 ep).s2 (.slice ad2 n cap2)).s3 op) rfl) rfl (gives_odd HO.out.bel hrr hkk (by omega))
  · have oc := HO.out.box.c1
    have of := HO.out.box.free 1
    go_upto_region 15 with fail
    obtain ⟨W2, hW2⟩ : ∃ W, W = W1.setCell ⟨w.heap.size, 1, none⟩ (.int .i64 x2) := ⟨_, rfl⟩
    replace HO : Hid (OD w W2 id x2 (.slice ad2 n cap2) op last) := by show OD _ _ _ _ _ _ _; rw [hW2]; exact HO.out.s1 x2
    rw [← hW2]
    clear hW2 oc of
    obtain ⟨_, _, hvv, hrr, hkx⟩ := OwnRow.row trK_ok HO.out.own (n := n) HLN.out
    cases hvv
    have hkk : ∀ x, ad2 = some x → w.heap.size + 2 ≤ x.block := fun x hx => (hkx x hx).1
    have oc0 := HO.out.box.c0
    have rc0 := HO.out.rb.c0
    have rf0 := HO.out.rb.free 0
    have oc1 := HO.out.box.c1
    have rc1 := HO.out.rb.c1
    have rf1 := HO.out.rb.free 1
    have oc2 := HO.out.box.c2
    have rc2 := HO.out.rb.c2
    have rf2 := HO.out.rb.free 2
    have oc3 := HO.out.box.c3
    have rc3 := HO.out.rb.c3
    have rf3 := HO.out.rb.free 3
    go_wp2
    exact bodyPost_ret (resultsOdd ((((HO.out.rb.s0 id).s1 x2).s2 (.slice ad2 n cap2)).s3 op) rfl) rfl (gives_odd HO.out.bel hrr hkk (by omega))
  · have oc := HO.out.box.c3
    have of := HO.out.box.free 3
    go_upto_region 15 with fail
    obtain ⟨W2, hW2⟩ : ∃ W, W = W1.setCell ⟨w.heap.size, 3, none⟩ (.int .i64 x2) := ⟨_, rfl⟩
    replace HO : Hid (OD w W2 id ep (.slice ad2 n cap2) x2 last) := by show OD _ _ _ _ _ _ _; rw [hW2]; exact HO.out.s3 x2
    rw [← hW2]
    clear hW2 oc of
    obtain ⟨_, _, hvv, hrr, hkx⟩ := OwnRow.row trK_ok HO.out.own (n := n) HLN.out
    cases hvv
    have hkk : ∀ x, ad2 = some x → w.heap.size + 2 ≤ x.block := fun x hx => (hkx x hx).1
    have oc0 := HO.out.box.c0
    have rc0 := HO.out.rb.c0
    have rf0 := HO.out.rb.free 0
    have oc1 := HO.out.box.c1
    have rc1 := HO.out.rb.c1
    have rf1 := HO.out.rb.free 1
    have oc2 := HO.out.box.c2
    have rc2 := HO.out.rb.c2
    have rf2 := HO.out.rb.free 2
    have oc3 := HO.out.box.c3
    have rc3 := HO.out.rb.c3
    have rf3 := HO.out.rb.free 3
    go_wp2
    exact bodyPost_ret (resultsOdd ((((HO.out.rb.s0 id).s1 ep).s2 (.slice ad2 n cap2)).s3 x2) rfl) rfl (gives_odd HO.out.bel hrr hkk (by omega))
  · have oc2 := HO.out.box.c2
    have hal : Below W1.heap.size W1 (W1.alloc (.cells #[.int .i64 x2, .int .i64 x2, .int .i64 x2] 59)) := (Below.refl _ _).alloc (Nat.le_refl _) _
    have HOA := Lib.hid (HO.out.on hal)
    have oc2a := HOA.out.box.c2
    have HX1 : Hid (RowAt trK (W1.alloc (.cells #[.int .i64 x2, .int .i64 x2, .int .i64 x2] 59)) (some ⟨W1.heap.size, 0, none⟩) 1 1 [⟨x2, x2, x2⟩]) := rowAt_lit trK_ok W1 [⟨x2, x2, x2⟩] (by simp) _ rfl 1 rfl
    clear hal
    go_wp2_with (at_builtin; refine list_row (by rfl) trK_ok (.tmp 44) (.tmp 49) rfl (w.heap.size + 2) last [⟨x2, x2, x2⟩] _ rfl HOA.out.own HOA.out.lt (some ⟨W1.heap.size, 0, none⟩) 1 1 rfl HX1.out (by rw [HLN.out]; omega) ?_)
    intro v3 w3 hap
    obtain ⟨ad3, cap3, hv3, _, _⟩ := OwnRow.row trK_ok (n := n + 1) hap.1 (by rw [List.length_append, HLN.out]; rfl)
    subst hv3
    have hb3 : ∀ k, (Value.slice ad2 n cap2).ownBlock = some k → w.heap.size + 2 ≤ k := fun k hk => (HOA.out.own.lt k hk).1
    have f2 := (HOA.out.box.grown hap.2.1 (fun e => by have := hb3 _ e; omega)).free 2
    have r2 := (HOA.out.box.grown hap.2.1 (fun e => by have := hb3 _ e; omega)).c2
    obtain ⟨W2, hW2⟩ : ∃ W, W = w3.setCell ⟨w.heap.size, 2, none⟩ (.slice ad3 (n + 1) cap3) := ⟨_, rfl⟩
    replace HO : Hid (OD w W2 id ep (.slice ad3 (n + 1) cap3) op (last ++ [⟨x2, x2, x2⟩])) := by show OD _ _ _ _ _ _ _; rw [hW2]; exact HOA.out.app hap
    clear hap hb3 HOA HX1 oc2 oc2a
    go_upto_region 15 with fail
    rw [← hW2]
    clear hW2 f2 r2
    obtain ⟨_, _, hvv, hrr, hkx⟩ := OwnRow.row trK_ok HO.out.own (n := n + 1) (by rw [List.length_append, HLN.out]; rfl)
    cases hvv
    have hkk : ∀ x, ad3 = some x → w.heap.size + 2 ≤ x.block := fun x hx => (hkx x hx).1
    have oc0 := HO.out.box.c0
    have rc0 := HO.out.rb.c0
    have rf0 := HO.out.rb.free 0
    have oc1 := HO.out.box.c1
    have rc1 := HO.out.rb.c1
    have rf1 := HO.out.rb.free 1
    have oc2 := HO.out.box.c2
    have rc2 := HO.out.rb.c2
    have rf2 := HO.out.rb.free 2
    have oc3 := HO.out.box.c3
    have rc3 := HO.out.rb.c3
    have rf3 := HO.out.rb.free 3
    go_wp2
    exact bodyPost_ret (resultsOdd ((((HO.out.rb.s0 id).s1 ep).s2 (.slice ad3 (n + 1) cap3)).s3 op) rfl) rfl (gives_odd HO.out.bel hrr hkk (by omega))
  · have oc2 := HO.out.box.c2
    have of2 := HO.out.box.free 2
    obtain ⟨W2, hW2⟩ : ∃ W, W = W1.setCell ⟨w.heap.size, 2, none⟩ (.slice none 0 0) := ⟨_, rfl⟩
    replace HO : Hid (OD w W2 id ep (.slice none 0 0) op []) := by
      show OD _ _ _ _ _ _ _
      rw [hW2]
      exact ⟨HO.out.box.s2 _, HO.out.rb.off (by omega) _, ownRow_nil _ _ _, HO.out.bel.setCell (Nat.le_refl _) _⟩
    go_upto_region 15 with fail
    rw [← hW2]
    clear hW2 oc2 of2
    have hrr : RowAt trK W2 none 0 0 [] := rowAt_nil _
    have hkk : ∀ x, (none : Option Addr) = some x → w.heap.size + 2 ≤ x.block := fun x hx => by cases hx
    have oc0 := HO.out.box.c0
    have rc0 := HO.out.rb.c0
    have rf0 := HO.out.rb.free 0
    have oc1 := HO.out.box.c1
    have rc1 := HO.out.rb.c1
    have rf1 := HO.out.rb.free 1
    have oc2 := HO.out.box.c2
    have rc2 := HO.out.rb.c2
    have rf2 := HO.out.rb.free 2
    have oc3 := HO.out.box.c3
    have rc3 := HO.out.rb.c3
    have rf3 := HO.out.rb.free 3
    go_wp2
    exact bodyPost_ret (resultsOdd ((((HO.out.rb.s0 id).s1 ep).s2 (.slice none 0 0)).s3 op) rfl) rfl (gives_odd HO.out.bel hrr hkk (by omega))
  · have z0 : ((k : Int) == 0) = false := beq_false_of_ne (by omega)
    have z1 : ((k : Int) == 1) = false := beq_false_of_ne (by omega)
    have z2 : ((k : Int) == 2) = false := beq_false_of_ne (by omega)
    have z3 : ((k : Int) == 3) = false := beq_false_of_ne (by omega)
    have z4 : ((k : Int) == 4) = false := beq_false_of_ne (by omega)
    have n0 : (k == 0) = false := by simp; omega
    have n1 : (k == 1) = false := by simp; omega
    have n2 : (k == 2) = false := by simp; omega
    have n3 : (k == 3) = false := by simp; omega
    have n4 : (k == 4) = false := by simp; omega
    have oc2 := HO.out.box.c2
    by_cases hn0 : n = 0
    · subst hn0
      go_upto_region 15 with fail
      clear oc2
      obtain ⟨_, _, hvv, hrr, hkx⟩ := OwnRow.row trK_ok HO.out.own (n := 0) HLN.out
      cases hvv
      have hkk : ∀ x, ad2 = some x → w.heap.size + 2 ≤ x.block := fun x hx => (hkx x hx).1
      have oc0 := HO.out.box.c0
      have rc0 := HO.out.rb.c0
      have rf0 := HO.out.rb.free 0
      have oc1 := HO.out.box.c1
      have rc1 := HO.out.rb.c1
      have rf1 := HO.out.rb.free 1
      have oc2 := HO.out.box.c2
      have rc2 := HO.out.rb.c2
      have rf2 := HO.out.rb.free 2
      have oc3 := HO.out.box.c3
      have rc3 := HO.out.rb.c3
      have rf3 := HO.out.rb.free 3
      go_wp2
      exact bodyPost_ret (resultsOdd ((((HO.out.rb.s0 id).s1 ep).s2 (.slice ad2 0 cap2)).s3 op) rfl) rfl (gives_odd HO.out.bel hrr hkk (by omega))
    · have hd : decide ((0 : Int) < (n : Int)) = true := decide_eq_true (by omega)
      have hdn : decide (0 < n) = true := decide_eq_true (by omega)
      have hi1 : (1 : Int) ≤ (n : Int) := by omega
      have hi2 : (n : Int) - 1 < (n : Int) := by omega
      have hi3 : ((n : Int) - 1).toNat = n - 1 := by omega
      obtain ⟨_, _, hvv, hrr, hkx⟩ := OwnRow.row trK_ok HO.out.own (n := n) HLN.out
      cases hvv
      obtain ⟨g, hg, hg2, cur, hheap⟩ : ∃ g, ad2 = some ⟨g, 0, none⟩ ∧ w.heap.size + 2 ≤ g ∧ ∃ cur, W1.heap[g]? = some (.cells cur trK.ty (0, 0)) := by
        have h := HO.out.own
        unfold OwnRow World.ownsRow at h
        rcases h.2 with ⟨h1, h2⟩ | ⟨g, _, cur, h1, h2, h3, _⟩
        · rw [HLN.out] at h2; omega
        · cases h1; exact ⟨g, rfl, h2, cur, h3⟩
      subst hg
      obtain ⟨bk, off, x, had, hbk, hx, c0, c1, c2⟩ := tr_get hrr (i := n - 1) (by omega)
      cases had
      have hrf0 := frozen_of_row W1 g (0 + (n - 1) * 3) _ _ hheap
      have hrf1 := frozen_of_row W1 g (0 + (n - 1) * 3 + 1) _ _ hheap
      have HX := Lib.hid hx
      have HRR := Lib.hid hrr
      simp only [Nat.zero_add] at c0 c1 c2 hrf0 hrf1
      clear hx hrr hheap hkx
      have hm2 : bits .and .i64 x1 1 = 0 ∨ bits .and .i64 x1 1 = 1 := by rw [mask1]; omega
      rcases hm2 with hm | hm
      · go_upto_region 15 with fail
        obtain ⟨W2, hW2⟩ : ∃ W, W = W1.setCell ⟨g, 0 + (n - 1) * 3 + 0, none⟩ (.int .i64 x2) := ⟨_, rfl⟩
        have hrr : RowAt trK W2 (some ⟨g, 0, none⟩) n cap2 (last.set (n - 1) ⟨x2, x.l, x.b⟩) := by
          rw [hW2]
          exact tr_set HRR.out HX.out (x' := ⟨x2, x.l, x.b⟩) (u := .int .i64 x2) rfl (by decide)
        have HBO : Hid (PBox W2 w.heap.size id ep (.slice (some ⟨g, 0, none⟩) n cap2) op) := by show PBox _ _ _ _ _ _; rw [hW2]; exact HO.out.box.off (by omega) _
        have HRO : Hid (PBox W2 (w.heap.size + 1) 0 0 (.slice none 0 0) 0) := by show PBox _ _ _ _ _ _; rw [hW2]; exact HO.out.rb.off (by omega) _
        have HBE : Hid (Below w.heap.size w W2) := by show Below _ _ _; rw [hW2]; exact HO.out.bel.setCell (by show w.heap.size ≤ g; omega) _
        simp only [Nat.zero_add, Nat.add_zero] at hW2
        rw [← hW2]
        clear hW2 c0 c1 c2 hrf0 hrf1 oc2 HRR HO
        have hkk : ∀ x, (some ⟨g, 0, none⟩ : Option Addr) = some x → w.heap.size + 2 ≤ x.block := fun x hx => by cases hx; exact hg2
        have oc0 := HBO.out.c0
        have rc0 := HRO.out.c0
        have rf0 := HRO.out.free 0
        have oc1 := HBO.out.c1
        have rc1 := HRO.out.c1
        have rf1 := HRO.out.free 1
        have oc2 := HBO.out.c2
        have rc2 := HRO.out.c2
        have rf2 := HRO.out.free 2
        have oc3 := HBO.out.c3
        have rc3 := HRO.out.c3
        have rf3 := HRO.out.free 3
        go_wp2
        exact bodyPost_ret (resultsOdd ((((HRO.out.s0 id).s1 ep).s2 (.slice (some ⟨g, 0, none⟩) n cap2)).s3 op) rfl) rfl (gives_odd HBE.out hrr hkk (by omega))
      · go_upto_region 15 with fail
        obtain ⟨W2, hW2⟩ : ∃ W, W = W1.setCell ⟨g, 0 + (n - 1) * 3 + 1, none⟩ (.int .i64 x2) := ⟨_, rfl⟩
        have hrr : RowAt trK W2 (some ⟨g, 0, none⟩) n cap2 (last.set (n - 1) ⟨x.f, x2, x.b⟩) := by
          rw [hW2]
          exact tr_set HRR.out HX.out (x' := ⟨x.f, x2, x.b⟩) (u := .int .i64 x2) rfl (by decide)
        have HBO : Hid (PBox W2 w.heap.size id ep (.slice (some ⟨g, 0, none⟩) n cap2) op) := by show PBox _ _ _ _ _ _; rw [hW2]; exact HO.out.box.off (by omega) _
        have HRO : Hid (PBox W2 (w.heap.size + 1) 0 0 (.slice none 0 0) 0) := by show PBox _ _ _ _ _ _; rw [hW2]; exact HO.out.rb.off (by omega) _
        have HBE : Hid (Below w.heap.size w W2) := by show Below _ _ _; rw [hW2]; exact HO.out.bel.setCell (by show w.heap.size ≤ g; omega) _
        simp only [Nat.zero_add] at hW2
        rw [← hW2]
        clear hW2 c0 c1 c2 hrf0 hrf1 oc2 HRR HO
        have hkk : ∀ x, (some ⟨g, 0, none⟩ : Option Addr) = some x → w.heap.size + 2 ≤ x.block := fun x hx => by cases hx; exact hg2
        have oc0 := HBO.out.c0
        have rc0 := HRO.out.c0
        have rf0 := HRO.out.free 0
        have oc1 := HBO.out.c1
        have rc1 := HRO.out.c1
        have rf1 := HRO.out.free 1
        have oc2 := HBO.out.c2
        have rc2 := HRO.out.c2
        have rf2 := HRO.out.free 2
        have oc3 := HBO.out.c3
        have rc3 := HRO.out.c3
        have rf3 := HRO.out.free 3
        go_wp2
        exact bodyPost_ret (resultsOdd ((((HRO.out.s0 id).s1 ep).s2 (.slice (some ⟨g, 0, none⟩) n cap2)).s3 op) rfl) rfl (gives_odd HBE.out hrr hkk (by omega))
end Go.Proofs.Ytinilkkpocnnpaa
namespace Go.Proofs.Ytinilkkpocnnpaa
open Go.RowKit
open Go.SeqMath
open Go.ProdMath
open Go.BatMath hiding AllB getD_lt take_all
set_option linter.unusedVariables false

theorem rightP_bool (p : Pd) : ∃ r : Bool, r = true ↔ RightP p := by
  by_cases h : RightP p
  · exact ⟨true, iff_of_true rfl h⟩
  · exact ⟨false, iff_of_false (by decide) h⟩
theorem applyD_len (p : Pd) (k : Bool) (b : Bat) : (applyD p k b).last.length ≤ p.last.length + 5 := by
  unfold applyD
  split
  · unfold oldLast; split
    · exact Nat.le_add_right _ _
    · exact Nat.zero_le _
  · exact Nat.le_trans (newLast_few _ _) (Nat.le_add_left _ _)
set_option maxRecDepth 100000 in
set_option maxHeartbeats 8000000 in
theorem prLawSame_any (w : World) (id ep op : Int) (last : List Tr) (ad : Option Addr) (n cap : Nat) (hl : RowAt trK w ad n cap last) (hn : n ≤ 999000) (known : Bool) (b0 b1 b2 b3 : Int) (b4 : Bool) (b5 : Int) (recs : List Rc) (rd : Option Addr) (rn rc : Nat) (hrl : recs.length = rn) (hrn : rn ≤ 140737488355328) :
    Calls Try.prog 11 #[.agg #[.int .i64 id, .int .i64 ep, .slice ad n cap, .int .i64 op], .bool known, .agg #[.int .i64 b0, .int .i64 b1, .int .i64 b2, .int .i64 b3, .bool b4, .int .i64 b5, .slice rd rn rc]] w (GivesBool w true) := by
  obtain ⟨c, hc⟩ : ∃ c, checkD ⟨id, ep, last, op⟩ known ⟨b0, b1, b2, b3, b4, b5, recs⟩ = c := ⟨_, rfl⟩
  obtain ⟨x, y⟩ := c
  obtain ⟨dr, hdr⟩ : ∃ r, (if b2 = ep ∧ b5 = 0 then dupL last b3 rn else none) = r := ⟨_, rfl⟩
  obtain ⟨q, hq⟩ : ∃ q, applyD ⟨id, ep, last, op⟩ known ⟨b0, b1, b2, b3, b4, b5, recs⟩ = q := ⟨_, rfl⟩
  obtain ⟨r, hr⟩ := rightP_bool ⟨id, ep, last, op⟩
  have HC := Lib.hid hc
  have HD := Lib.hid hdr
  have HQ := Lib.hid hq
  have HR := Lib.hid hr
  have HRL := Lib.hid hrl
  clear hc hdr hq hr hrl
  obtain ⟨W0, hW0⟩ : ∃ W0, W0 = ((w.alloc (.cells #[.int .i64 id, .int .i64 ep, .slice ad n cap, .int .i64 op] 40)).alloc (.cells #[.int .i64 b0, .int .i64 b1, .int .i64 b2, .int .i64 b3, .bool b4, .int .i64 b5, .slice rd rn rc] 33)) := ⟨_, rfl⟩
  have HB0 : Hid (Below w.heap.size w W0) := by show Below _ _ _; rw [hW0]; exact ((Below.refl _ _).alloc (Nat.le_refl _) _).alloc (by simp) _
  have HP0 : Hid (PBox W0 w.heap.size (id) (ep) (.slice ad n cap) (op)) := by
    show PBox _ w.heap.size (id) (ep) (.slice ad n cap) (op)
    rw [hW0]
    have h1 := pbox_new w (id) (ep) (.slice ad n cap) (op)
    have h2 := h1.on ((Below.refl _ _).alloc (Nat.le_refl _) (.cells #[.int .i64 b0, .int .i64 b1, .int .i64 b2, .int .i64 b3, .bool b4, .int .i64 b5, .slice rd rn rc] 33))
    simpa using h2
  have HX1 : Hid (BoxAt W0 (w.heap.size + 1) b0 b1 b2 b3 b4 b5 (.slice rd rn rc)) := by
    show BoxAt _ (w.heap.size + 1) b0 b1 b2 b3 b4 b5 (.slice rd rn rc)
    rw [hW0]
    have h1 := boxAt_new (w.alloc (.cells #[.int .i64 id, .int .i64 ep, .slice ad n cap, .int .i64 op] 40)) b0 b1 b2 b3 b4 b5 (.slice rd rn rc)
    simpa using h1
  have HW0 := Lib.hid hW0
  clear hW0
  obtain ⟨B1, hB1⟩ : ∃ B, B = w.heap.size := ⟨_, rfl⟩
  obtain ⟨B2, hB2⟩ : ∃ B, B = w.heap.size + 1 := ⟨_, rfl⟩
  rw [← hB1] at HP0
  rw [← hB2] at HX1
  go_enter Try.func11, Try.ntmps11
  go_upto_region 1 with fail
  rw [← HW0.out, ← hB2, ← hB1]
  clear HW0 hB1 hB2
  have HL := Lib.hid (hl.keep HB0.out)
  clear hl
  have hxx : (x == x) = true := by simp
  have hyy : (y == y) = true := by simp
  have q0 := HP0.out.c0
  have q1 := HP0.out.c1
  have q2 := HP0.out.c2
  have q3 := HP0.out.c3
  have p0 := HX1.out.c0
  have p1 := HX1.out.c1
  have p2 := HX1.out.c2
  have p3 := HX1.out.c3
  have p4 := HX1.out.c4
  have p5 := HX1.out.c5
  have p6 := HX1.out.c6
  go_wp2_with fail
  refine (prCheck_any W0 id ep op last ad n cap HL.out (by omega) known b0 b1 b2 b3 b4 b5 recs rd rn rc HRL.out hrn (x, y) HC.out).mono ?_
  rintro e w1 ⟨rfl, hb⟩
  replace HP0 := Lib.hid (HP0.out.on hb)
  replace HX1 := Lib.hid (HX1.out.on hb)
  replace HL := Lib.hid (HL.out.keep hb)
  replace HB0 := Lib.hid (HB0.out.trans (hb.mono HB0.out.size))
  clear hb q0 q1 q2 q3 p0 p1 p2 p3 p4 p5 p6
  have q0 := HP0.out.c0
  have q1 := HP0.out.c1
  have q2 := HP0.out.c2
  have q3 := HP0.out.c3
  have p0 := HX1.out.c0
  have p1 := HX1.out.c1
  have p2 := HX1.out.c2
  have p3 := HX1.out.c3
  have p4 := HX1.out.c4
  have p5 := HX1.out.c5
  have p6 := HX1.out.c6
  go_wp2_with fail
  refine (refCheck_any w1 id ep op last ad n cap HL.out (by omega) known b0 b1 b2 b3 b4 b5 recs rd rn rc HRL.out hrn (x, y) HC.out).mono ?_
  rintro e w2 ⟨rfl, hb⟩
  replace HP0 := Lib.hid (HP0.out.on hb)
  replace HX1 := Lib.hid (HX1.out.on hb)
  replace HL := Lib.hid (HL.out.keep hb)
  replace HB0 := Lib.hid (HB0.out.trans (hb.mono HB0.out.size))
  clear hb q0 q1 q2 q3 p0 p1 p2 p3 p4 p5 p6
  have q0 := HP0.out.c0
  have q1 := HP0.out.c1
  have q2 := HP0.out.c2
  have q3 := HP0.out.c3
  have p0 := HX1.out.c0
  have p1 := HX1.out.c1
  have p2 := HX1.out.c2
  have p3 := HX1.out.c3
  have p4 := HX1.out.c4
  have p5 := HX1.out.c5
  have p6 := HX1.out.c6
  go_wp2_with fail
  refine (prDup_any w2 id ep op last ad n cap HL.out (by omega) b0 b1 b2 b3 b4 b5 rd rn rc hrn dr HD.out).mono ?_
  rintro e w3 ⟨rfl, hb⟩
  replace HP0 := Lib.hid (HP0.out.on hb)
  replace HX1 := Lib.hid (HX1.out.on hb)
  replace HL := Lib.hid (HL.out.keep hb)
  replace HB0 := Lib.hid (HB0.out.trans (hb.mono HB0.out.size))
  clear hb q0 q1 q2 q3 p0 p1 p2 p3 p4 p5 p6
  obtain ⟨dv, hdv⟩ : ∃ v, v = dr.getD (-1) := ⟨_, rfl⟩
  obtain ⟨db, hdb⟩ : ∃ v, v = dr.isSome := ⟨_, rfl⟩
  have HDV := Lib.hid hdv
  have HDB := Lib.hid hdb
  rw [← hdv, ← hdb]
  clear hdv hdb
  have hvv : (dv == dv) = true := by simp
  have hbb : (db == db) = true := by simp
  have q0 := HP0.out.c0
  have q1 := HP0.out.c1
  have q2 := HP0.out.c2
  have q3 := HP0.out.c3
  have p0 := HX1.out.c0
  have p1 := HX1.out.c1
  have p2 := HX1.out.c2
  have p3 := HX1.out.c3
  have p4 := HX1.out.c4
  have p5 := HX1.out.c5
  have p6 := HX1.out.c6
  go_wp2_with fail
  refine (refDup_any w3 id ep op last ad n cap HL.out (by omega) b0 b1 b2 b3 b4 b5 rd rn rc hrn dr HD.out).mono ?_
  rintro e w4 ⟨rfl, hb⟩
  rw [← HDV.out, ← HDB.out]
  replace HP0 := Lib.hid (HP0.out.on hb)
  replace HX1 := Lib.hid (HX1.out.on hb)
  replace HL := Lib.hid (HL.out.keep hb)
  replace HB0 := Lib.hid (HB0.out.trans (hb.mono HB0.out.size))
  clear hb q0 q1 q2 q3 p0 p1 p2 p3 p4 p5 p6 HD HDV HDB
  have q0 := HP0.out.c0
  have q1 := HP0.out.c1
  have q2 := HP0.out.c2
  have q3 := HP0.out.c3
  have p0 := HX1.out.c0
  have p1 := HX1.out.c1
  have p2 := HX1.out.c2
  have p3 := HX1.out.c3
  have p4 := HX1.out.c4
  have p5 := HX1.out.c5
  have p6 := HX1.out.c6
  go_upto_region 5 with fail
  clear q0 q1 q2 q3 p0 p1 p2 p3 p4 p5 p6
  have KS : Hid (∀ W, Below w4.heap.size w4 W → (fun (W : World) => W.cell? ⟨B1, 0, none⟩ = some (.int .i64 id) ∧ W.cell? ⟨B1, 1, none⟩ = some (.int .i64 ep) ∧ W.cell? ⟨B1, 2, none⟩ = some (.slice ad n cap) ∧ W.cell? ⟨B1, 3, none⟩ = some (.int .i64 op) ∧ W.cell? ⟨B2, 0, none⟩ = some (.int .i64 b0) ∧ W.cell? ⟨B2, 1, none⟩ = some (.int .i64 b1) ∧ W.cell? ⟨B2, 2, none⟩ = some (.int .i64 b2) ∧ W.cell? ⟨B2, 3, none⟩ = some (.int .i64 b3) ∧ W.cell? ⟨B2, 4, none⟩ = some (.bool b4) ∧ W.cell? ⟨B2, 5, none⟩ = some (.int .i64 b5) ∧ W.cell? ⟨B2, 6, none⟩ = some (.slice rd rn rc) ∧ Below w.heap.size w W) W) := by
    intro W hW
    have hP := HP0.out.on hW
    have hX := HX1.out.on hW
    exact ⟨hP.c0, hP.c1, hP.c2, hP.c3, hX.c0, hX.c1, hX.c2, hX.c3, hX.c4, hX.c5, hX.c6, HB0.out.trans (hW.mono HB0.out.size)⟩
  have hrr : (r == r) = true := by simp
  refine wp_region_noPanic ?_
  refine wp_region_z [] (fun (W : World) => W.cell? ⟨B1, 0, none⟩ = some (.int .i64 id) ∧ W.cell? ⟨B1, 1, none⟩ = some (.int .i64 ep) ∧ W.cell? ⟨B1, 2, none⟩ = some (.slice ad n cap) ∧ W.cell? ⟨B1, 3, none⟩ = some (.int .i64 op) ∧ W.cell? ⟨B2, 0, none⟩ = some (.int .i64 b0) ∧ W.cell? ⟨B2, 1, none⟩ = some (.int .i64 b1) ∧ W.cell? ⟨B2, 2, none⟩ = some (.int .i64 b2) ∧ W.cell? ⟨B2, 3, none⟩ = some (.int .i64 b3) ∧ W.cell? ⟨B2, 4, none⟩ = some (.bool b4) ∧ W.cell? ⟨B2, 5, none⟩ = some (.int .i64 b5) ∧ W.cell? ⟨B2, 6, none⟩ = some (.slice rd rn rc) ∧ Below w.heap.size w W) (by kernel_rfl) ?_
  have hHeld : (fun (W : World) => W.cell? ⟨B1, 0, none⟩ = some (.int .i64 id) ∧ W.cell? ⟨B1, 1, none⟩ = some (.int .i64 ep) ∧ W.cell? ⟨B1, 2, none⟩ = some (.slice ad n cap) ∧ W.cell? ⟨B1, 3, none⟩ = some (.int .i64 op) ∧ W.cell? ⟨B2, 0, none⟩ = some (.int .i64 b0) ∧ W.cell? ⟨B2, 1, none⟩ = some (.int .i64 b1) ∧ W.cell? ⟨B2, 2, none⟩ = some (.int .i64 b2) ∧ W.cell? ⟨B2, 3, none⟩ = some (.int .i64 b3) ∧ W.cell? ⟨B2, 4, none⟩ = some (.bool b4) ∧ W.cell? ⟨B2, 5, none⟩ = some (.int .i64 b5) ∧ W.cell? ⟨B2, 6, none⟩ = some (.slice rd rn rc) ∧ Below w.heap.size w W) _ := KS.out _ (Below.refl _ w4).drew
  obtain ⟨u0, hu0⟩ : ∃ u, u = w4.drew := ⟨_, rfl⟩
  have HU : Hid (Below w4.heap.size w4 u0) := by show Below _ _ _; rw [hu0]; exact (Below.refl _ w4).drew
  rw [← hu0] at hHeld
  rw [← hu0]
  clear hu0
  refine wpAnyZ_take (i := 0) (oi := ⟨_, _, _, _, _, _⟩) (v := ?_) rfl (by kernel_rfl) (by kernel_rfl) (by kernel_rfl) (by kernel_rfl) (by kernel_rfl) (fun _ _ _ h => h) (Or.inl ⟨by rfl, ?_⟩) (by assumption) ?_
  rotate_left
  · intro W hSw
    (try dsimp only at hSw)
    go_simp
    (try with_reducible rfl)
  (try simp only [Act.put, List.setIfInBounds_toArray, List.set_cons_zero, List.set_cons_succ])
  refine wpAnyZ_take (i := 1) (oi := ⟨_, _, _, _, _, _⟩) (v := ?_) rfl (by kernel_rfl) (by kernel_rfl) (by kernel_rfl) (by kernel_rfl) (by kernel_rfl) (fun _ _ _ h => h) (Or.inl ⟨by rfl, ?_⟩) (by assumption) ?_
  rotate_left
  · intro W hSw
    (try dsimp only at hSw)
    go_simp
    (try with_reducible rfl)
  (try simp only [Act.put, List.setIfInBounds_toArray, List.set_cons_zero, List.set_cons_succ])
  refine wpAnyZ_take (i := 2) (oi := ⟨_, _, _, _, _, _⟩) (v := ?_) rfl (by kernel_rfl) (by kernel_rfl) (by kernel_rfl) (by kernel_rfl) (by kernel_rfl) (fun _ _ _ h => h) (Or.inl ⟨by rfl, ?_⟩) (by assumption) ?_
  rotate_left
  · intro W hSw
    (try dsimp only at hSw)
    go_simp
    (try with_reducible rfl)
  (try simp only [Act.put, List.setIfInBounds_toArray, List.set_cons_zero, List.set_cons_succ])
  refine wpAnyZ_take (i := 3) (oi := ⟨_, _, _, _, _, _⟩) (v := ?_) rfl (by kernel_rfl) (by kernel_rfl) (by kernel_rfl) (by kernel_rfl) (by kernel_rfl) (fun _ _ _ h => h) (Or.inl ⟨by rfl, ?_⟩) (by assumption) ?_
  rotate_left
  · intro W hSw
    (try dsimp only at hSw)
    go_simp
    (try with_reducible rfl)
  (try simp only [Act.put, List.setIfInBounds_toArray, List.set_cons_zero, List.set_cons_succ])
  refine wpAnyZ_take (i := 4) (oi := ⟨_, _, _, _, _, _⟩) (v := ?_) rfl (by kernel_rfl) (by kernel_rfl) (by kernel_rfl) (by kernel_rfl) (by kernel_rfl) (fun _ _ _ h => h) (Or.inl ⟨by rfl, ?_⟩) (by assumption) ?_
  rotate_left
  · intro W hSw
    (try dsimp only at hSw)
    go_simp
    (try with_reducible rfl)
  (try simp only [Act.put, List.setIfInBounds_toArray, List.set_cons_zero, List.set_cons_succ])
  refine wpAnyZ_take (i := 5) (oi := ⟨_, _, _, _, _, _⟩) (v := ?_) rfl (by kernel_rfl) (by kernel_rfl) (by kernel_rfl) (by kernel_rfl) (by kernel_rfl) (fun _ _ _ h => h) (Or.inl ⟨by rfl, ?_⟩) (by assumption) ?_
  rotate_left
  · intro W hSw
    (try dsimp only at hSw)
    go_simp
    (try with_reducible rfl)
  (try simp only [Act.put, List.setIfInBounds_toArray, List.set_cons_zero, List.set_cons_succ])
  refine wpAnyZ_take (i := 6) (oi := ⟨_, _, _, _, _, _⟩) (v := ?_) rfl (by kernel_rfl) (by kernel_rfl) (by kernel_rfl) (by kernel_rfl) (by kernel_rfl) (fun _ _ _ h => h) (Or.inl ⟨by rfl, ?_⟩) (by assumption) ?_
  rotate_left
  · intro W hSw
    (try dsimp only at hSw)
    go_simp
    (try with_reducible rfl)
  (try simp only [Act.put, List.setIfInBounds_toArray, List.set_cons_zero, List.set_cons_succ])
  refine wpAnyZ_take (i := 7) (oi := ⟨_, _, _, _, _, _⟩) (v := ?_) rfl (by kernel_rfl) (by kernel_rfl) (by kernel_rfl) (by kernel_rfl) (by kernel_rfl) (fun _ _ _ h => h) (Or.inl ⟨by rfl, ?_⟩) (by assumption) ?_
  rotate_left
  · intro W hSw
    (try dsimp only at hSw)
    go_simp
    (try with_reducible rfl)
  (try simp only [Act.put, List.setIfInBounds_toArray, List.set_cons_zero, List.set_cons_succ])
  refine wpAnyZ_take (i := 8) (oi := ⟨_, _, _, _, _, _⟩) (v := ?_) rfl (by kernel_rfl) (by kernel_rfl) (by kernel_rfl) (by kernel_rfl) (by kernel_rfl) (fun _ _ _ h => h) (Or.inl ⟨by rfl, ?_⟩) (by assumption) ?_
  rotate_left
  · intro W hSw
    (try dsimp only at hSw)
    go_simp
    (try with_reducible rfl)
  (try simp only [Act.put, List.setIfInBounds_toArray, List.set_cons_zero, List.set_cons_succ])
  refine wpAnyZ_take (i := 9) (oi := ⟨_, _, _, _, _, _⟩) (v := ?_) rfl (by kernel_rfl) (by kernel_rfl) (by kernel_rfl) (by kernel_rfl) (by kernel_rfl) (fun _ _ _ h => h) (Or.inl ⟨by rfl, ?_⟩) (by assumption) ?_
  rotate_left
  · intro W hSw
    (try dsimp only at hSw)
    go_simp
    (try with_reducible rfl)
  (try simp only [Act.put, List.setIfInBounds_toArray, List.set_cons_zero, List.set_cons_succ])
  refine wpAnyZ_take (i := 10) (oi := ⟨_, _, _, _, _, _⟩) (v := ?_) rfl (by kernel_rfl) (by kernel_rfl) (by kernel_rfl) (by kernel_rfl) (by kernel_rfl) (fun _ _ _ h => h) (Or.inl ⟨by rfl, ?_⟩) (by assumption) ?_
  rotate_left
  · intro W hSw
    (try dsimp only at hSw)
    go_simp
    (try with_reducible rfl)
  (try simp only [Act.put, List.setIfInBounds_toArray, List.set_cons_zero, List.set_cons_succ])
  refine wpAnyZ_take (i := 11) (oi := ⟨_, _, _, _, _, _⟩) (v := ?_) rfl (by kernel_rfl) (by kernel_rfl) (by kernel_rfl) (by kernel_rfl) (by kernel_rfl) (fun _ _ _ h => h) (Or.inl ⟨by rfl, ?_⟩) (by assumption) ?_
  rotate_left
  · intro W hSw
    (try dsimp only at hSw)
    go_simp
    (try with_reducible rfl)
  (try simp only [Act.put, List.setIfInBounds_toArray, List.set_cons_zero, List.set_cons_succ])
  refine wpAnyZ_take (i := 12) (oi := ⟨_, _, _, _, _, _⟩) (v := ?_) rfl (by kernel_rfl) (by kernel_rfl) (by kernel_rfl) (by kernel_rfl) (by kernel_rfl) (fun _ _ _ h => h) (Or.inl ⟨by rfl, ?_⟩) (by assumption) ?_
  rotate_left
  · intro W hSw
    (try dsimp only at hSw)
    go_simp
    (try with_reducible rfl)
  (try simp only [Act.put, List.setIfInBounds_toArray, List.set_cons_zero, List.set_cons_succ])
  refine wpAnyZ_take (i := 13) (oi := ⟨_, _, _, _, _, _⟩) (v := ?_) rfl (by kernel_rfl) (by kernel_rfl) (by kernel_rfl) (by kernel_rfl) (by kernel_rfl) (fun _ _ _ h => h) (Or.inl ⟨by rfl, ?_⟩) (by assumption) ?_
  rotate_left
  · intro W hSw
    (try dsimp only at hSw)
    go_simp
    (try with_reducible rfl)
  (try simp only [Act.put, List.setIfInBounds_toArray, List.set_cons_zero, List.set_cons_succ])
  refine wpAnyZ_take (i := 14) (oi := ⟨_, _, _, _, _, _⟩) (v := ?_) rfl (by kernel_rfl) (by kernel_rfl) (by kernel_rfl) (by kernel_rfl) (by kernel_rfl) (fun _ _ _ h => h) (Or.inl ⟨by rfl, ?_⟩) (by assumption) ?_
  rotate_left
  · intro W hSw
    (try dsimp only at hSw)
    go_simp
    (try with_reducible rfl)
  (try simp only [Act.put, List.setIfInBounds_toArray, List.set_cons_zero, List.set_cons_succ])
  refine wpAnyZ_take (i := 15) (oi := ⟨_, _, _, _, _, _⟩) (v := ?_) rfl (by kernel_rfl) (by kernel_rfl) (by kernel_rfl) (by kernel_rfl) (by kernel_rfl) (fun _ _ _ h => h) (Or.inl ⟨by rfl, ?_⟩) (by assumption) ?_
  rotate_left
  · intro W hSw
    (try dsimp only at hSw)
    go_simp
    (try with_reducible rfl)
  (try simp only [Act.put, List.setIfInBounds_toArray, List.set_cons_zero, List.set_cons_succ])
  refine wpAnyZ_take (i := 16) (oi := ⟨_, _, _, _, _, _⟩) (v := ?_) rfl (by kernel_rfl) (by kernel_rfl) (by kernel_rfl) (by kernel_rfl) (by kernel_rfl) (fun _ _ _ h => h) (Or.inl ⟨by rfl, ?_⟩) (by assumption) ?_
  rotate_left
  · intro W hSw
    (try dsimp only at hSw)
    go_simp
    (try with_reducible rfl)
  (try simp only [Act.put, List.setIfInBounds_toArray, List.set_cons_zero, List.set_cons_succ])
  refine wpAnyZ_take (i := 17) (oi := ⟨_, _, _, _, _, _⟩) (v := ?_) rfl (by kernel_rfl) (by kernel_rfl) (by kernel_rfl) (by kernel_rfl) (by kernel_rfl) (fun _ _ _ h => h) (Or.inl ⟨by rfl, ?_⟩) (by assumption) ?_
  rotate_left
  · intro W hSw
    (try dsimp only at hSw)
    go_simp
    (try with_reducible rfl)
  (try simp only [Act.put, List.setIfInBounds_toArray, List.set_cons_zero, List.set_cons_succ])
  refine wpAnyZ_take (i := 18) (oi := ⟨_, _, _, _, _, _⟩) (v := ?_) rfl (by kernel_rfl) (by kernel_rfl) (by kernel_rfl) (by kernel_rfl) (by kernel_rfl) (fun _ _ _ h => h) (Or.inl ⟨by rfl, ?_⟩) (by assumption) ?_
  rotate_left
  · intro W hSw
    (try dsimp only at hSw)
    go_simp
    (try with_reducible rfl)
  (try simp only [Act.put, List.setIfInBounds_toArray, List.set_cons_zero, List.set_cons_succ])
  refine wpAnyZ_take (i := 19) (oi := ⟨_, _, _, _, _, _⟩) (v := ?_) rfl (by kernel_rfl) (by kernel_rfl) (by kernel_rfl) (by kernel_rfl) (by kernel_rfl) (fun _ _ _ h => h) (Or.inl ⟨by rfl, ?_⟩) (by assumption) ?_
  rotate_left
  · intro W hSw
    (try dsimp only at hSw)
    go_simp
    (try with_reducible rfl)
  (try simp only [Act.put, List.setIfInBounds_toArray, List.set_cons_zero, List.set_cons_succ])
  refine wpAnyZ_take (i := 20) (oi := ⟨_, _, _, _, _, _⟩) (v := ?_) rfl (by kernel_rfl) (by kernel_rfl) (by kernel_rfl) (by kernel_rfl) (by kernel_rfl) (fun _ _ _ h => h) (Or.inl ⟨by rfl, ?_⟩) (by assumption) ?_
  rotate_left
  · intro W hSw
    (try dsimp only at hSw)
    go_simp
    (try with_reducible rfl)
  (try simp only [Act.put, List.setIfInBounds_toArray, List.set_cons_zero, List.set_cons_succ])
  refine wpAnyZ_take (i := 21) (oi := ⟨_, _, _, _, _, _⟩) (v := ?_) rfl (by kernel_rfl) (by kernel_rfl) (by kernel_rfl) (by kernel_rfl) (by kernel_rfl) (fun _ _ _ h => h) (Or.inl ⟨by rfl, ?_⟩) (by assumption) ?_
  rotate_left
  · intro W hSw
    (try dsimp only at hSw)
    go_simp
    (try with_reducible rfl)
  (try simp only [Act.put, List.setIfInBounds_toArray, List.set_cons_zero, List.set_cons_succ])
  refine wpAnyZ_take (i := 23) (oi := ⟨_, _, _, _, _, _⟩) (v := ?_) rfl (by kernel_rfl) (by kernel_rfl) (by kernel_rfl) (by kernel_rfl) (by kernel_rfl) (fun _ _ _ h => h) (Or.inl ⟨by rfl, ?_⟩) (by assumption) ?_
  rotate_left
  · intro W hSw
    (try dsimp only at hSw)
    go_simp
    (try with_reducible rfl)
  (try simp only [Act.put, List.setIfInBounds_toArray, List.set_cons_zero, List.set_cons_succ])
  refine wpAnyZ_take (i := 24) (oi := ⟨_, _, _, _, _, _⟩) (v := ?_) rfl (by kernel_rfl) (by kernel_rfl) (by kernel_rfl) (by kernel_rfl) (by kernel_rfl) (fun _ _ _ h => h) (Or.inl ⟨by rfl, ?_⟩) (by assumption) ?_
  rotate_left
  · intro W hSw
    (try dsimp only at hSw)
    go_simp
    (try with_reducible rfl)
  (try simp only [Act.put, List.setIfInBounds_toArray, List.set_cons_zero, List.set_cons_succ])
  refine wpAnyZ_take (i := 25) (oi := ⟨_, _, _, _, _, _⟩) (v := ?_) rfl (by kernel_rfl) (by kernel_rfl) (by kernel_rfl) (by kernel_rfl) (by kernel_rfl) (fun _ _ _ h => h) (Or.inl ⟨by rfl, ?_⟩) (by assumption) ?_
  rotate_left
  · intro W hSw
    (try dsimp only at hSw)
    go_simp
    (try with_reducible rfl)
  (try simp only [Act.put, List.setIfInBounds_toArray, List.set_cons_zero, List.set_cons_succ])
  refine wpAnyZ_ready (rs := [22]) (by kernel_rfl) (by simp) ?_
  refine AllReadyZ.cons (o := ⟨_, _, _, _, _, _⟩) rfl (fun C hC => ?_) AllReadyZ.nil
  go_simp
  refine (prApply_any u0 id ep op last ad n cap (HL.out.keep HU.out) (by omega) known b0 b1 b2 b3 b4 b5 recs rd rn rc HRL.out hrn q HQ.out).mono ?_
  rintro e u1 ⟨a1, n1, c1, rfl, hr1, _, hb⟩
  replace HU := Lib.hid (HU.out.trans (hb.mono HU.out.size))
  have HR1 := Lib.hid hr1
  clear hr1 hb
  go_wp2_with fail
  have hHeld : (fun (W : World) => W.cell? ⟨B1, 0, none⟩ = some (.int .i64 id) ∧ W.cell? ⟨B1, 1, none⟩ = some (.int .i64 ep) ∧ W.cell? ⟨B1, 2, none⟩ = some (.slice ad n cap) ∧ W.cell? ⟨B1, 3, none⟩ = some (.int .i64 op) ∧ W.cell? ⟨B2, 0, none⟩ = some (.int .i64 b0) ∧ W.cell? ⟨B2, 1, none⟩ = some (.int .i64 b1) ∧ W.cell? ⟨B2, 2, none⟩ = some (.int .i64 b2) ∧ W.cell? ⟨B2, 3, none⟩ = some (.int .i64 b3) ∧ W.cell? ⟨B2, 4, none⟩ = some (.bool b4) ∧ W.cell? ⟨B2, 5, none⟩ = some (.int .i64 b5) ∧ W.cell? ⟨B2, 6, none⟩ = some (.slice rd rn rc) ∧ Below w.heap.size w W) u1 := KS.out _ HU.out
  refine hC.out _ _ (fun _ => hHeld) (fun _ => ?_)
  clear hC C
  (try simp only [Act.put, List.setIfInBounds_toArray, List.set_cons_zero, List.set_cons_succ])
  refine wpAnyZ_ready (rs := [26]) (by kernel_rfl) (by simp) ?_
  refine AllReadyZ.cons (o := ⟨_, _, _, _, _, _⟩) rfl (fun C hC => ?_) AllReadyZ.nil
  go_simp
  refine (refApply_any u1 id ep op last ad n cap (HL.out.keep HU.out) (by omega) known b0 b1 b2 b3 b4 b5 recs rd rn rc HRL.out hrn q HQ.out).mono ?_
  rintro e u2 ⟨a2, n2, c2, rfl, hr2, _, hb⟩
  replace HU := Lib.hid (HU.out.trans (hb.mono HU.out.size))
  replace HR1 := Lib.hid (HR1.out.keep hb)
  have hn12 : n2 = n1 := by have h1 := HR1.out.length; have h2 := hr2.length; omega
  subst hn12
  have hn1f : n2 ≤ 1000000 := by
    have h1 := hr2.length
    have h2 := applyD_len ⟨id, ep, last, op⟩ known ⟨b0, b1, b2, b3, b4, b5, recs⟩
    rw [HQ.out] at h2
    have h3 := HL.out.length
    dsimp at h2
    omega
  have HR2 := Lib.hid hr2
  clear hr2 hb
  go_wp2_with fail
  have hHeld : (fun (W : World) => W.cell? ⟨B1, 0, none⟩ = some (.int .i64 id) ∧ W.cell? ⟨B1, 1, none⟩ = some (.int .i64 ep) ∧ W.cell? ⟨B1, 2, none⟩ = some (.slice ad n cap) ∧ W.cell? ⟨B1, 3, none⟩ = some (.int .i64 op) ∧ W.cell? ⟨B2, 0, none⟩ = some (.int .i64 b0) ∧ W.cell? ⟨B2, 1, none⟩ = some (.int .i64 b1) ∧ W.cell? ⟨B2, 2, none⟩ = some (.int .i64 b2) ∧ W.cell? ⟨B2, 3, none⟩ = some (.int .i64 b3) ∧ W.cell? ⟨B2, 4, none⟩ = some (.bool b4) ∧ W.cell? ⟨B2, 5, none⟩ = some (.int .i64 b5) ∧ W.cell? ⟨B2, 6, none⟩ = some (.slice rd rn rc) ∧ Below w.heap.size w W) u2 := KS.out _ HU.out
  refine hC.out _ _ (fun _ => hHeld) (fun _ => ?_)
  clear hC C
  (try simp only [Act.put, List.setIfInBounds_toArray, List.set_cons_zero, List.set_cons_succ])
  refine wpAnyZ_ready (rs := [27]) (by kernel_rfl) (by simp) ?_
  refine AllReadyZ.cons (o := ⟨_, _, _, _, _, _⟩) rfl (fun C hC => ?_) AllReadyZ.nil
  go_simp
  refine (prRefSame_any u2 q.id q.epoch q.opn q.last a1 n2 c1 HR1.out a2 c2 HR2.out (by omega)).mono ?_
  rintro e u3 ⟨rfl, hb⟩
  replace HU := Lib.hid (HU.out.trans (hb.mono HU.out.size))
  clear hb HR1 HR2
  go_wp2_with fail
  have hHeld : (fun (W : World) => W.cell? ⟨B1, 0, none⟩ = some (.int .i64 id) ∧ W.cell? ⟨B1, 1, none⟩ = some (.int .i64 ep) ∧ W.cell? ⟨B1, 2, none⟩ = some (.slice ad n cap) ∧ W.cell? ⟨B1, 3, none⟩ = some (.int .i64 op) ∧ W.cell? ⟨B2, 0, none⟩ = some (.int .i64 b0) ∧ W.cell? ⟨B2, 1, none⟩ = some (.int .i64 b1) ∧ W.cell? ⟨B2, 2, none⟩ = some (.int .i64 b2) ∧ W.cell? ⟨B2, 3, none⟩ = some (.int .i64 b3) ∧ W.cell? ⟨B2, 4, none⟩ = some (.bool b4) ∧ W.cell? ⟨B2, 5, none⟩ = some (.int .i64 b5) ∧ W.cell? ⟨B2, 6, none⟩ = some (.slice rd rn rc) ∧ Below w.heap.size w W) u3 := KS.out _ HU.out
  refine hC.out _ _ (fun _ => hHeld) (fun _ => ?_)
  clear hC C
  (try simp only [Act.put, List.setIfInBounds_toArray, List.set_cons_zero, List.set_cons_succ])
  refine wpAnyZ_take (i := 28) (oi := ⟨_, _, _, _, _, _⟩) (v := ?_) rfl (by kernel_rfl) (by kernel_rfl) (by kernel_rfl) (by kernel_rfl) (by kernel_rfl) (fun _ _ _ h => h) (Or.inl ⟨by rfl, ?_⟩) (by assumption) ?_
  rotate_left
  · intro W hSw
    (try dsimp only at hSw)
    go_simp
    (try with_reducible rfl)
  (try simp only [Act.put, List.setIfInBounds_toArray, List.set_cons_zero, List.set_cons_succ])
  refine wpAnyZ_take (i := 29) (oi := ⟨_, _, _, _, _, _⟩) (v := ?_) rfl (by kernel_rfl) (by kernel_rfl) (by kernel_rfl) (by kernel_rfl) (by kernel_rfl) (fun _ _ _ h => h) (Or.inl ⟨by rfl, ?_⟩) (by assumption) ?_
  rotate_left
  · intro W hSw
    (try dsimp only at hSw)
    go_simp
    (try with_reducible rfl)
  (try simp only [Act.put, List.setIfInBounds_toArray, List.set_cons_zero, List.set_cons_succ])
  refine wpAnyZ_take (i := 30) (oi := ⟨_, _, _, _, _, _⟩) (v := ?_) rfl (by kernel_rfl) (by kernel_rfl) (by kernel_rfl) (by kernel_rfl) (by kernel_rfl) (fun _ _ _ h => h) (Or.inl ⟨by rfl, ?_⟩) (by assumption) ?_
  rotate_left
  · intro W hSw
    (try dsimp only at hSw)
    go_simp
    (try with_reducible rfl)
  (try simp only [Act.put, List.setIfInBounds_toArray, List.set_cons_zero, List.set_cons_succ])
  refine wpAnyZ_take (i := 32) (oi := ⟨_, _, _, _, _, _⟩) (v := ?_) rfl (by kernel_rfl) (by kernel_rfl) (by kernel_rfl) (by kernel_rfl) (by kernel_rfl) (fun _ _ _ h => h) (Or.inl ⟨by rfl, ?_⟩) (by assumption) ?_
  rotate_left
  · intro W hSw
    (try dsimp only at hSw)
    go_simp
    (try with_reducible rfl)
  (try simp only [Act.put, List.setIfInBounds_toArray, List.set_cons_zero, List.set_cons_succ])
  refine wpAnyZ_ready (rs := [31]) (by kernel_rfl) (by simp) ?_
  refine AllReadyZ.cons (o := ⟨_, _, _, _, _, _⟩) rfl (fun C hC => ?_) AllReadyZ.nil
  go_simp
  refine (prRight_any u3 id ep op last ad n cap (HL.out.keep HU.out) (by omega) r HR.out).mono ?_
  rintro e u4 ⟨rfl, hb⟩
  replace HU := Lib.hid (HU.out.trans (hb.mono HU.out.size))
  clear hb
  go_wp2_with fail
  have hHeld : (fun (W : World) => W.cell? ⟨B1, 0, none⟩ = some (.int .i64 id) ∧ W.cell? ⟨B1, 1, none⟩ = some (.int .i64 ep) ∧ W.cell? ⟨B1, 2, none⟩ = some (.slice ad n cap) ∧ W.cell? ⟨B1, 3, none⟩ = some (.int .i64 op) ∧ W.cell? ⟨B2, 0, none⟩ = some (.int .i64 b0) ∧ W.cell? ⟨B2, 1, none⟩ = some (.int .i64 b1) ∧ W.cell? ⟨B2, 2, none⟩ = some (.int .i64 b2) ∧ W.cell? ⟨B2, 3, none⟩ = some (.int .i64 b3) ∧ W.cell? ⟨B2, 4, none⟩ = some (.bool b4) ∧ W.cell? ⟨B2, 5, none⟩ = some (.int .i64 b5) ∧ W.cell? ⟨B2, 6, none⟩ = some (.slice rd rn rc) ∧ Below w.heap.size w W) u4 := KS.out _ HU.out
  refine hC.out _ _ (fun _ => hHeld) (fun _ => ?_)
  clear hC C
  (try simp only [Act.put, List.setIfInBounds_toArray, List.set_cons_zero, List.set_cons_succ])
  refine wpAnyZ_ready (rs := [33]) (by kernel_rfl) (by simp) ?_
  refine AllReadyZ.cons (o := ⟨_, _, _, _, _, _⟩) rfl (fun C hC => ?_) AllReadyZ.nil
  go_simp
  refine (prRefRight_any u4 id ep op last ad n cap (HL.out.keep HU.out) (by omega) r HR.out).mono ?_
  rintro e u5 ⟨rfl, hb⟩
  replace HU := Lib.hid (HU.out.trans (hb.mono HU.out.size))
  clear hb
  go_wp2_with fail
  have hHeld : (fun (W : World) => W.cell? ⟨B1, 0, none⟩ = some (.int .i64 id) ∧ W.cell? ⟨B1, 1, none⟩ = some (.int .i64 ep) ∧ W.cell? ⟨B1, 2, none⟩ = some (.slice ad n cap) ∧ W.cell? ⟨B1, 3, none⟩ = some (.int .i64 op) ∧ W.cell? ⟨B2, 0, none⟩ = some (.int .i64 b0) ∧ W.cell? ⟨B2, 1, none⟩ = some (.int .i64 b1) ∧ W.cell? ⟨B2, 2, none⟩ = some (.int .i64 b2) ∧ W.cell? ⟨B2, 3, none⟩ = some (.int .i64 b3) ∧ W.cell? ⟨B2, 4, none⟩ = some (.bool b4) ∧ W.cell? ⟨B2, 5, none⟩ = some (.int .i64 b5) ∧ W.cell? ⟨B2, 6, none⟩ = some (.slice rd rn rc) ∧ Below w.heap.size w W) u5 := KS.out _ HU.out
  refine hC.out _ _ (fun _ => hHeld) (fun _ => ?_)
  clear hC C
  (try simp only [Act.put, List.setIfInBounds_toArray, List.set_cons_zero, List.set_cons_succ])
  refine wpAnyZ_take (i := 34) (oi := ⟨_, _, _, _, _, _⟩) (v := ?_) rfl (by kernel_rfl) (by kernel_rfl) (by kernel_rfl) (by kernel_rfl) (by kernel_rfl) (fun _ _ _ h => h) (Or.inl ⟨by rfl, ?_⟩) (by assumption) ?_
  rotate_left
  · intro W hSw
    (try dsimp only at hSw)
    go_simp
    (try with_reducible rfl)
  (try simp only [Act.put, List.setIfInBounds_toArray, List.set_cons_zero, List.set_cons_succ])
  refine wpAnyZ_take (i := 35) (oi := ⟨_, _, _, _, _, _⟩) (v := ?_) rfl (by kernel_rfl) (by kernel_rfl) (by kernel_rfl) (by kernel_rfl) (by kernel_rfl) (fun _ _ _ h => h) (Or.inl ⟨by rfl, ?_⟩) (by assumption) ?_
  rotate_left
  · intro W hSw
    (try dsimp only at hSw)
    go_simp
    (try with_reducible rfl)
  (try simp only [Act.put, List.setIfInBounds_toArray, List.set_cons_zero, List.set_cons_succ])
  refine wpAnyZ_take (i := 36) (oi := ⟨_, _, _, _, _, _⟩) (v := ?_) rfl (by kernel_rfl) (by kernel_rfl) (by kernel_rfl) (by kernel_rfl) (by kernel_rfl) (fun _ _ _ h => h) (Or.inl ⟨by rfl, ?_⟩) (by assumption) ?_
  rotate_left
  · intro W hSw
    (try dsimp only at hSw)
    go_simp
    (try with_reducible rfl)
  (try simp only [Act.put, List.setIfInBounds_toArray, List.set_cons_zero, List.set_cons_succ])
  refine wpAnyZ_done (by kernel_rfl) ?_ _
  refine NoPanic.normal ?_
  clear hHeld
  go_wp2
  go_ret
  exact gives_bool rfl (HB0.out.trans (HU.out.mono HB0.out.size))
end Go.Proofs.Ytinilkkpocnnpaa
namespace Go.Proofs.Ytinilkkpocnnpaa
open Go.RowKit
set_option linter.unusedVariables false

theorem infoInt : (Try.prog.info? 3).map (fun i => (i.zero, i.size, i.bytes)) = some (some (.int .i64 0), 1, 8) := by kernel_rfl
def intK : Kind Int := ⟨fun n => [.int .i64 n], 1, 3, 23⟩
theorem intK_ok : intK.Ok 8 where
  und := Try.underlying23
  info := by
    obtain ⟨i, hi, hz, hs, hb⟩ := info_parts infoInt
    exact ⟨i, _, hi, hz, hs, hb, rfl⟩
  len := fun _ => rfl
  pos := by decide
  one := fun r u hu => by
    obtain rfl := List.mem_singleton.1 hu
    rfl
  few := by decide
theorem nums_of {w : World} {ad : Option Addr} {len cap : Nat} {l : List Int} (h : RowAt intK w ad len cap l) (ha : ∀ n ∈ l, In64 n) : Nums w ad len l := by
  refine ⟨h.length, ha, ?_⟩
  rcases h.cells with h0 | ⟨b, off, e, _, hc⟩
  · exact .inl h0
  · refine .inr ⟨b, off, e, fun i hi => ?_⟩
    have hl := h.length
    have hx : l[i]? = some (l[i]'(by omega)) := List.getElem?_eq_getElem (by omega)
    have := hc i _ hx 0 (.int .i64 (l[i]'(by omega))) rfl
    rw [List.getD_eq_getElem?_getD, hx]
    show w.cell? ⟨b, off + i, none⟩ = _
    have e2 : off + (i * intK.size + 0) = off + i := by show off + (i * 1 + 0) = _; omega
    rw [e2] at this
    exact this
def TapeLoop (w : World) (v3 v4 : Value) (wr : World) : Prop :=
  ∃ (zs : List Int) (i : Nat) (u : Value), u = v3 ∧ v4 = .int .i64 (i : Int) ∧ i ≤ 400 ∧ zs.length = i ∧ (∀ z ∈ zs, In64 z) ∧ OwnRow intK wr w.heap.size u zs ∧ Below w.heap.size w wr
theorem tmod_in (x m z : Int) (hm : 0 < m ∧ m < 1000000) (h : x.tmod m = z) : In64 z := by
  have h1 : z < m := by rw [← h]; exact Int.tmod_lt_of_pos x hm.1
  have h2 : -z < m := by rw [← h, ← Int.neg_tmod]; exact Int.tmod_lt_of_pos (-x) hm.1
  exact ⟨by omega, by omega⟩
end Go.Proofs.Ytinilkkpocnnpaa
namespace Go.Proofs.Ytinilkkpocnnpaa
open Go.RowKit
set_option linter.unusedVariables false

set_option maxRecDepth 100000 in
theorem prTape_any (w : World) (k : Nat) (hk : k ≤ 60) :
    Calls Try.prog 7 #[.int .i64 (k : Int)] w fun e w' => ∃ ad cap zs, e = .returned (.slice ad 400 cap) ∧ Hid (Nums w' ad 400 zs) ∧ Hid (Below w.heap.size w w') := by
  go_enter Try.func7, Try.ntmps7
  go_wp2
  go_loopw [3, 4] (fun v3 v4 wr => TapeLoop w v3 v4 wr) (fun _ v4 _ => (400 - intOf v4).toNat)
  case atStart => exact ⟨[], 0, _, rfl, rfl, by omega, rfl, (fun z hz => by cases hz), ownRow_nil _ _ _, Below.refl _ _⟩
  case round =>
    obtain ⟨zs, i, u, rfl, rfl, hi, hl, ha, hown, hbel⟩ := hrel
    have HL := Lib.hid hl
    have HA := Lib.hid ha
    have HO := Lib.hid hown
    have HB := Lib.hid hbel
    clear hl ha hown hbel
    by_cases hlt : i < 400
    · have hd : decide ((i : Int) < 400) = true := by simp; omega
      obtain ⟨x, hx⟩ : ∃ x, wrap64 (wrap64 (wrap64 (wrap64 ((i : Int) * i) * 7) + (k : Int) * 31) + wrap64 ((i : Int) * k)) = x := ⟨_, rfl⟩
      obtain ⟨z, hz⟩ : ∃ z, x.tmod 211 = z := ⟨_, rfl⟩
      have hz64 := tmod_in x 211 z (by omega) hz
      obtain ⟨wo, rfl⟩ : ∃ wo : World, wo = wr := ⟨_, rfl⟩
      have HBA : Hid (Below w.heap.size w (wo.alloc (.cells #[.int .i64 z] 3))) := HB.out.alloc HB.out.size _
      have HRW : Hid (RowAt intK (wo.alloc (.cells #[.int .i64 z] 3)) (some ⟨wo.heap.size, 0, none⟩) 1 1 [z]) := rowAt_lit intK_ok wo [z] (by simp) _ rfl 1 rfl
      go_wp2_with (at_builtin; refine list_row (by rfl) intK_ok (.tmp 9) (.tmp 22) rfl w.heap.size zs [z] _ rfl (HO.out.alloc _) HBA.out.size (some ⟨wo.heap.size, 0, none⟩) 1 1 rfl HRW.out (by have := HL.out; omega) ?_)
      intro v' w' hap
      have HO2 := Lib.hid hap.1
      have HB2 : Hid (Below w.heap.size w w') := HBA.out.grown hap.2.1 HBA.out.size fun q hq => (HO.out.lt q hq).1
      have HL2 : Hid ((zs ++ [z]).length = i + 1) := by show _ = _; rw [List.length_append, HL.out]; rfl
      have HA2 : Hid (∀ y ∈ zs ++ [z], In64 y) := by
        intro y hy
        rcases List.mem_append.1 hy with hy | hy
        · exact HA.out y hy
        · rw [List.mem_singleton.1 hy]; exact hz64
      clear hap hx hz
      go_wp2
      go_roundw
      case rel => exact ⟨zs ++ [z], i + 1, _, rfl, by go_num, by omega, HL2.out, HA2.out, HO2.out, HB2.out⟩
      case measure => simp [intOf]; omega
    · have hd : decide ((i : Int) < 400) = false := by simp; omega
      go_wp2
      go_ret
      obtain ⟨ad, cap, rfl, hr, _⟩ := HO.out.at intK_ok
      have hl := HL.out
      obtain rfl : i = 400 := by omega
      rw [hl] at hr
      rw [hl]
      exact ⟨ad, cap, zs, rfl, nums_of hr HA.out, HB.out⟩
end Go.Proofs.Ytinilkkpocnnpaa
namespace Go.ProdMath
open Go.SeqMath
open Go.BatMath
set_option linter.unusedVariables false

/-- All batches are right. -/
def RowOk (bs : List Bat) : Prop := ∀ b ∈ bs, rightE b = 0 ∧ b.wf
theorem size_bd (b : Bat) : 0 ≤ sizeB b ∧ sizeB b ≤ 2404 := by
  unfold sizeB
  split
  · rename_i h
    have := ok_len (ok_of h)
    omega
  · omega
theorem bytesD_snoc : ∀ (l : List Bat) (b : Bat), bytesD (l ++ [b]) = bytesD l + sizeB b
  | [], b => by simp [bytesD]
  | a :: l, b => by
    have := bytesD_snoc l b
    show sizeB a + bytesD (l ++ [b]) = sizeB a + bytesD l + sizeB b
    omega
theorem bytesD_bd : ∀ (l : List Bat), 0 ≤ bytesD l ∧ bytesD l ≤ 2404 * (l.length : Int)
  | [] => by simp [bytesD]
  | a :: l => by
    have h1 := bytesD_bd l
    have h2 := size_bd a
    show 0 ≤ sizeB a + bytesD l ∧ sizeB a + bytesD l ≤ _
    rw [List.length_cons]
    omega
noncomputable def putD (cap start : Int) (bs : List Bat) (b : Bat) : (Int × Int) × List Bat :=
  if (tcheckD (foldP [] bs) b).2 ≠ 0 then ((-1, (tcheckD (foldP [] bs) b).2), bs)
  else if 0 ≤ (tcheckD (foldP [] bs) b).1 then (((tcheckD (foldP [] bs) b).1, 0), bs)
  else if cap < bytesD bs + sizeB b then ((-1, 17), bs)
  else if 1099511627776 < endD start bs + countD b then ((-1, 18), bs)
  else ((b.base, 0), bs ++ [b])
noncomputable def produceD (cap start : Int) (bs : List Bat) (b : Bat) : (Int × Int) × List Bat :=
  if rightE (b.at (endD start bs)) ≠ 0 then ((-1, rightE (b.at (endD start bs))), bs)
  else if b.marker ≠ 0 then ((-1, 16), bs)
  else putD cap start bs (b.at (endD start bs))
noncomputable def markD (cap start : Int) (bs : List Bat) (p e m : Int) : (Int × Int) × List Bat :=
  if m = 0 then ((-1, 12), bs) else putD cap start bs ⟨endD start bs, p, e, -1, true, m, []⟩
theorem tcheck_right {l : List Pd} {b : Bat} (h : (tcheckD l b).2 = 0) : rightE b = 0 := by
  unfold tcheckD at h
  split at h
  · simp only at h; assumption
  · rename_i h1; exact Classical.byContradiction fun h2 => h1 h2
/-- A row that a partition may have. -/
inductive RowD (start : Int) : List Bat → Prop
  | nil : RowD start []
  | snoc {l : List Bat} {b : Bat} : RowD start l → b.base = endD start l → b.wf → (tcheckD (foldP [] l) b).2 = 0 → (tcheckD (foldP [] l) b).1 < 0 → endD start l + countD b ≤ 1099511627776 → RowD start (l ++ [b])
theorem rowD_ok {start : Int} {bs : List Bat} (h : RowD start bs) : RowOk bs := by
  induction h with
  | nil => intro b hb; cases hb
  | snoc _ _ h2 h1 _ _ ih =>
    intro b hb
    rcases List.mem_append.1 hb with h3 | h3
    · exact ih b h3
    · rw [List.mem_singleton.1 h3]; exact ⟨tcheck_right h1, h2⟩
theorem end_last {start : Int} {bs : List Bat} {b : Bat} (h : bs.getLast? = some b) : endD start bs = b.base + countD b := by unfold endD; rw [h]
theorem rowD_end {start : Int} {bs : List Bat} (h : RowD start bs) (h0 : 0 ≤ start) (h1 : start ≤ 1099511627776) : 0 ≤ endD start bs ∧ endD start bs ≤ 1099511627776 := by
  cases h with
  | nil => exact ⟨h0, h1⟩
  | @snoc l b h2 hb hw hr hc he =>
    rw [end_last (b := b) (by simp), hb]
    have := ok_of (tcheck_right hr)
    have h3 := this.base0
    have h4 : 0 ≤ countD b := by unfold countD; split <;> omega
    omega
end Go.ProdMath
namespace Go.Proofs.Ytinilkkpocnnpaa
open Go.RowKit
open Go.SeqMath
open Go.ProdMath
open Go.BatMath hiding AllB getD_lt take_all
set_option linter.unusedVariables false

/-- A block that is a table. -/
def TabBox (w : World) (kt : Nat) (v : Value) : Prop := w.heap[kt]? = some (.cells #[v] 66 (0, 0))
section
variable {w w' : World} {kt : Nat} {v : Value}
theorem TabBox.c0 (h : TabBox w kt v) : w.cell? ⟨kt, 0, none⟩ = some v := by rw [cell_of_row _ _ 0 _ _ _ h]; rfl
theorem TabBox.free (h : TabBox w kt v) (j : Nat) : w.frozen? ⟨kt, j, none⟩ = false := frozen_of_row w kt j _ _ h
theorem TabBox.lt (h : TabBox w kt v) : kt < w.heap.size := lt_of_block h
theorem TabBox.on (h : TabBox w kt v) (hb : Below w.heap.size w w') : TabBox w' kt v := by
  have hlt := h.lt
  unfold TabBox at *
  rw [hb.block kt hlt]
  exact h
theorem TabBox.s0 (h : TabBox w kt v) (u : Value) : TabBox (w.setCell ⟨kt, 0, none⟩ u) kt u := box_set h 0 _
end
/-- A table of these producers. -/
structure TabAt (w : World) (kt : Nat) (ad : Option Addr) (len cap : Nat) (ms : List PM) : Prop where
  box : TabBox w kt (.slice ad len cap)
  pds : PdsAt w ad len cap ms
theorem TabAt.keep {w w' : World} {kt : Nat} {ad : Option Addr} {len cap : Nat} {ms : List PM} (h : TabAt w kt ad len cap ms) (hb : Below w.heap.size w w') : TabAt w' kt ad len cap ms := ⟨h.box.on hb, h.pds.keep hb⟩
def pds (ms : List PM) : List Pd := ms.map (·.p)
def GivesAt (w : World) (i : Nat) (b : Bool) (e : Ending) (w' : World) : Prop := e = .returned (.tuple #[.int .i64 (i : Int), .bool b]) ∧ Below w.heap.size w w'
theorem gives_at {w w' : World} {i j : Nat} {b c : Bool} (h1 : j = i) (h2 : c = b) (hb : Below w.heap.size w w') : GivesAt w i b (.returned (.tuple #[.int .i64 (j : Int), .bool c])) w' := ⟨by rw [h1, h2], hb⟩
theorem has_at {l : List Pd} {id : Int} {i : Nat} {p : Pd} (hi : atD l id = i) (hp : l[i]? = some p) : hasD l id = decide (p.id = id) := by unfold hasD; rw [hi, hp]
theorem has_end {l : List Pd} {id : Int} {i : Nat} (hi : atD l id = i) (hp : l.length ≤ i) : hasD l id = false := by unfold hasD; rw [hi, List.getElem?_eq_none hp]
set_option maxRecDepth 100000 in
set_option maxHeartbeats 4000000 in
theorem tabAt_any (w : World) (kt : Nat) (ad : Option Addr) (len cap : Nat) (ms : List PM) (h : TabAt w kt ad len cap ms) (hL : len ≤ 100000000000) (id : Int) :
    Calls Try.prog 59 #[.pointer (some ⟨kt, 0, none⟩), .int .i64 id] w (GivesAt w (atD (pds ms) id) (hasD (pds ms) id)) := by
  have H := Lib.hid h
  have hlen := h.pds.row.length
  obtain ⟨l, hl⟩ : ∃ l, l = pds ms := ⟨_, rfl⟩
  have hll : l.length = len := by rw [hl]; unfold pds; rw [List.length_map]; exact hlen
  have HGET : Hid (∀ (i : Nat) m, ms[i]? = some m → l[i]? = some m.p) := by
    intro i m hm
    rw [hl]; unfold pds
    rw [List.getElem?_map, hm]; rfl
  rw [← hl]
  clear h hl hlen
  go_enter Try.func59, Try.ntmps59
  go_wp2
  go_loopw [6] (fun v6 wr => ∃ i : Nat, v6 = .int .i64 (i : Int) ∧ i ≤ atD l id ∧ Below w.heap.size w wr) (fun v6 _ => len - (intOf v6).toNat)
  case atStart => exact ⟨0, rfl, Nat.zero_le _, Below.refl _ _⟩
  case round =>
    obtain ⟨i, rfl, hi, hbel⟩ := hrel
    have HB := Lib.hid hbel
    have HI := Lib.hid hi
    have hil : i ≤ len := by have := atD_le l id; omega
    clear hbel hi
    have HT := Lib.hid (H.out.keep HB.out)
    have t0 := HT.out.box.c0
    by_cases hlt : i < len
    · have hd : decide (i < len) = true := decide_eq_true hlt
      have hij : (i : Int) < (len : Int) := by omega
      obtain ⟨bk, off, m, rfl, hbk, hm, _, c0, _, _, _⟩ := HT.out.pds.get hlt
      have hp := HGET.out i m hm
      by_cases hid : m.p.id < id
      · have hd2 : decide (m.p.id < id) = true := decide_eq_true hid
        have HS : Hid (i + 1 ≤ atD l id) := (atD_step l id i m.p HI.out hp).1 hid
        clear hp hm hid
        go_wp2
        go_roundw
        case rel => exact ⟨i + 1, by go_num, HS.out, HB.out⟩
        case measure => simp [intOf]; omega
      · have hd2 : decide (m.p.id < id) = false := decide_eq_false hid
        have hat : atD l id = i := by
          have h1 := HI.out
          have h2 := atD_step l id i m.p HI.out hp
          have h3 : ¬ (i + 1 ≤ atD l id) := fun h => hid (h2.2 h)
          omega
        have HAT := Lib.hid hat
        have HHAS := Lib.hid (has_at hat hp)
        have KS : Hid (∀ W, Below wr.heap.size wr W → (fun (W : World) => W.cell? ⟨kt, 0, none⟩ = some (.slice (some ⟨bk, off, none⟩) len cap) ∧ W.cell? ⟨bk, off + i * 4, none⟩ = some (.int .i64 m.p.id)) W) := by
          intro W hW
          refine ⟨(HT.out.keep hW).box.c0, ?_⟩
          rw [hW.cell (p := ⟨bk, off + i * 4, none⟩) (World.block_lt_of_cell? _ _ c0)]
          exact c0
        have hb1d : Below wr.heap.size wr wr.drew := (Below.refl _ wr).drew
        clear hat hp hm hid hbk
        go_upto_region 4 with fail
        clear c0 t0
        refine wp_region_noPanic ?_
        refine wp_region_z [] (fun (W : World) => W.cell? ⟨kt, 0, none⟩ = some (.slice (some ⟨bk, off, none⟩) len cap) ∧ W.cell? ⟨bk, off + i * 4, none⟩ = some (.int .i64 m.p.id)) (by kernel_rfl) ?_
        have hHeld : (fun (W : World) => W.cell? ⟨kt, 0, none⟩ = some (.slice (some ⟨bk, off, none⟩) len cap) ∧ W.cell? ⟨bk, off + i * 4, none⟩ = some (.int .i64 m.p.id)) _ := KS.out _ hb1d
        obtain ⟨u0, hu0⟩ : ∃ u, u = wr.drew := ⟨_, rfl⟩
        rw [← hu0] at hHeld hb1d
        rw [← hu0]
        clear hu0
        have HU := Lib.hid hb1d
        clear hb1d
        refine wpAnyZ_take (i := 0) (oi := ⟨_, _, _, _, _, _⟩) (v := ?_) rfl (by kernel_rfl) (by kernel_rfl) (by kernel_rfl) (by kernel_rfl) (by kernel_rfl) (fun _ _ _ h => h) (Or.inl ⟨by rfl, ?_⟩) (by assumption) ?_
        rotate_left
        · intro W hSw
          (try dsimp only at hSw)
          go_simp
          (try with_reducible rfl)
        (try simp only [Act.put, List.setIfInBounds_toArray, List.set_cons_zero, List.set_cons_succ])
        refine wpAnyZ_take (i := 1) (oi := ⟨_, _, _, _, _, _⟩) (v := ?_) rfl (by kernel_rfl) (by kernel_rfl) (by kernel_rfl) (by kernel_rfl) (by kernel_rfl) (fun _ _ _ h => h) (Or.inl ⟨by rfl, ?_⟩) (by assumption) ?_
        rotate_left
        · intro W hSw
          (try dsimp only at hSw)
          go_simp
          (try with_reducible rfl)
        (try simp only [Act.put, List.setIfInBounds_toArray, List.set_cons_zero, List.set_cons_succ])
        refine wpAnyZ_take (i := 2) (oi := ⟨_, _, _, _, _, _⟩) (v := ?_) rfl (by kernel_rfl) (by kernel_rfl) (by kernel_rfl) (by kernel_rfl) (by kernel_rfl) (fun _ _ _ h => h) (Or.inl ⟨by rfl, ?_⟩) (by assumption) ?_
        rotate_left
        · intro W hSw
          (try dsimp only at hSw)
          go_simp
          (try with_reducible rfl)
        (try simp only [Act.put, List.setIfInBounds_toArray, List.set_cons_zero, List.set_cons_succ])
        refine wpAnyZ_take (i := 3) (oi := ⟨_, _, _, _, _, _⟩) (v := ?_) rfl (by kernel_rfl) (by kernel_rfl) (by kernel_rfl) (by kernel_rfl) (by kernel_rfl) (fun _ _ _ h => h) (Or.inl ⟨by rfl, ?_⟩) (by assumption) ?_
        rotate_left
        · intro W hSw
          (try dsimp only at hSw)
          go_simp
          (try with_reducible rfl)
        (try simp only [Act.put, List.setIfInBounds_toArray, List.set_cons_zero, List.set_cons_succ])
        refine wpAnyZ_take (i := 4) (oi := ⟨_, _, _, _, _, _⟩) (v := ?_) rfl (by kernel_rfl) (by kernel_rfl) (by kernel_rfl) (by kernel_rfl) (by kernel_rfl) (fun _ _ _ h => h) (Or.inl ⟨by rfl, ?_⟩) (by assumption) ?_
        rotate_left
        · intro W hSw
          (try dsimp only at hSw)
          go_simp
          (try with_reducible rfl)
        (try simp only [Act.put, List.setIfInBounds_toArray, List.set_cons_zero, List.set_cons_succ])
        refine wpAnyZ_take (i := 5) (oi := ⟨_, _, _, _, _, _⟩) (v := ?_) rfl (by kernel_rfl) (by kernel_rfl) (by kernel_rfl) (by kernel_rfl) (by kernel_rfl) (fun _ _ _ h => h) (Or.inl ⟨by rfl, ?_⟩) (by assumption) ?_
        rotate_left
        · intro W hSw
          (try dsimp only at hSw)
          go_simp
          (try with_reducible rfl)
        (try simp only [Act.put, List.setIfInBounds_toArray, List.set_cons_zero, List.set_cons_succ])
        refine wpAnyZ_take (i := 6) (oi := ⟨_, _, _, _, _, _⟩) (v := ?_) rfl (by kernel_rfl) (by kernel_rfl) (by kernel_rfl) (by kernel_rfl) (by kernel_rfl) (fun _ _ _ h => h) (Or.inl ⟨by rfl, ?_⟩) (by assumption) ?_
        rotate_left
        · intro W hSw
          (try dsimp only at hSw)
          go_simp
          (try with_reducible rfl)
        (try simp only [Act.put, List.setIfInBounds_toArray, List.set_cons_zero, List.set_cons_succ])
        refine wpAnyZ_take (i := 7) (oi := ⟨_, _, _, _, _, _⟩) (v := ?_) rfl (by kernel_rfl) (by kernel_rfl) (by kernel_rfl) (by kernel_rfl) (by kernel_rfl) (fun _ _ _ h => h) (Or.inl ⟨by rfl, ?_⟩) (by assumption) ?_
        rotate_left
        · intro W hSw
          (try dsimp only at hSw)
          go_simp
          (try with_reducible rfl)
        (try simp only [Act.put, List.setIfInBounds_toArray, List.set_cons_zero, List.set_cons_succ])
        refine wpAnyZ_take (i := 8) (oi := ⟨_, _, _, _, _, _⟩) (v := ?_) rfl (by kernel_rfl) (by kernel_rfl) (by kernel_rfl) (by kernel_rfl) (by kernel_rfl) (fun _ _ _ h => h) (Or.inl ⟨by rfl, ?_⟩) (by assumption) ?_
        rotate_left
        · intro W hSw
          (try dsimp only at hSw)
          go_simp
          (try with_reducible rfl)
        (try simp only [Act.put, List.setIfInBounds_toArray, List.set_cons_zero, List.set_cons_succ])
        refine wpAnyZ_take (i := 9) (oi := ⟨_, _, _, _, _, _⟩) (v := ?_) rfl (by kernel_rfl) (by kernel_rfl) (by kernel_rfl) (by kernel_rfl) (by kernel_rfl) (fun _ _ _ h => h) (Or.inl ⟨by rfl, ?_⟩) (by assumption) ?_
        rotate_left
        · intro W hSw
          (try dsimp only at hSw)
          go_simp
          (try with_reducible rfl)
        (try simp only [Act.put, List.setIfInBounds_toArray, List.set_cons_zero, List.set_cons_succ])
        refine wpAnyZ_take (i := 10) (oi := ⟨_, _, _, _, _, _⟩) (v := ?_) rfl (by kernel_rfl) (by kernel_rfl) (by kernel_rfl) (by kernel_rfl) (by kernel_rfl) (fun _ _ _ h => h) (Or.inl ⟨by rfl, ?_⟩) (by assumption) ?_
        rotate_left
        · intro W hSw
          (try dsimp only at hSw)
          go_simp
          (try with_reducible rfl)
        (try simp only [Act.put, List.setIfInBounds_toArray, List.set_cons_zero, List.set_cons_succ])
        refine wpAnyZ_take (i := 11) (oi := ⟨_, _, _, _, _, _⟩) (v := ?_) rfl (by kernel_rfl) (by kernel_rfl) (by kernel_rfl) (by kernel_rfl) (by kernel_rfl) (fun _ _ _ h => h) (Or.inl ⟨by rfl, ?_⟩) (by assumption) ?_
        rotate_left
        · intro W hSw
          (try dsimp only at hSw)
          go_simp
          (try with_reducible rfl)
        (try simp only [Act.put, List.setIfInBounds_toArray, List.set_cons_zero, List.set_cons_succ])
        refine wpAnyZ_take (i := 12) (oi := ⟨_, _, _, _, _, _⟩) (v := ?_) rfl (by kernel_rfl) (by kernel_rfl) (by kernel_rfl) (by kernel_rfl) (by kernel_rfl) (fun _ _ _ h => h) (Or.inl ⟨by rfl, ?_⟩) (by assumption) ?_
        rotate_left
        · intro W hSw
          (try dsimp only at hSw)
          go_simp
          (try with_reducible rfl)
        (try simp only [Act.put, List.setIfInBounds_toArray, List.set_cons_zero, List.set_cons_succ])
        refine wpAnyZ_take (i := 13) (oi := ⟨_, _, _, _, _, _⟩) (v := ?_) rfl (by kernel_rfl) (by kernel_rfl) (by kernel_rfl) (by kernel_rfl) (by kernel_rfl) (fun _ _ _ h => h) (Or.inl ⟨by rfl, ?_⟩) (by assumption) ?_
        rotate_left
        · intro W hSw
          (try dsimp only at hSw)
          go_simp
          (try with_reducible rfl)
        (try simp only [Act.put, List.setIfInBounds_toArray, List.set_cons_zero, List.set_cons_succ])
        refine wpAnyZ_take (i := 14) (oi := ⟨_, _, _, _, _, _⟩) (v := ?_) rfl (by kernel_rfl) (by kernel_rfl) (by kernel_rfl) (by kernel_rfl) (by kernel_rfl) (fun _ _ _ h => h) (Or.inl ⟨by rfl, ?_⟩) (by assumption) ?_
        rotate_left
        · intro W hSw
          (try dsimp only at hSw)
          go_simp
          (try with_reducible rfl)
        (try simp only [Act.put, List.setIfInBounds_toArray, List.set_cons_zero, List.set_cons_succ])
        refine wpAnyZ_take (i := 15) (oi := ⟨_, _, _, _, _, _⟩) (v := ?_) rfl (by kernel_rfl) (by kernel_rfl) (by kernel_rfl) (by kernel_rfl) (by kernel_rfl) (fun _ _ _ h => h) (Or.inl ⟨by rfl, ?_⟩) (by assumption) ?_
        rotate_left
        · intro W hSw
          (try dsimp only at hSw)
          go_simp
          (try with_reducible rfl)
        (try simp only [Act.put, List.setIfInBounds_toArray, List.set_cons_zero, List.set_cons_succ])
        refine wpAnyZ_take (i := 16) (oi := ⟨_, _, _, _, _, _⟩) (v := ?_) rfl (by kernel_rfl) (by kernel_rfl) (by kernel_rfl) (by kernel_rfl) (by kernel_rfl) (fun _ _ _ h => h) (Or.inl ⟨by rfl, ?_⟩) (by assumption) ?_
        rotate_left
        · intro W hSw
          (try dsimp only at hSw)
          go_simp
          (try with_reducible rfl)
        (try simp only [Act.put, List.setIfInBounds_toArray, List.set_cons_zero, List.set_cons_succ])
        refine wpAnyZ_take (i := 17) (oi := ⟨_, _, _, _, _, _⟩) (v := ?_) rfl (by kernel_rfl) (by kernel_rfl) (by kernel_rfl) (by kernel_rfl) (by kernel_rfl) (fun _ _ _ h => h) (Or.inl ⟨by rfl, ?_⟩) (by assumption) ?_
        rotate_left
        · intro W hSw
          (try dsimp only at hSw)
          go_simp
          (try with_reducible rfl)
        (try simp only [Act.put, List.setIfInBounds_toArray, List.set_cons_zero, List.set_cons_succ])
        refine wpAnyZ_take (i := 18) (oi := ⟨_, _, _, _, _, _⟩) (v := ?_) rfl (by kernel_rfl) (by kernel_rfl) (by kernel_rfl) (by kernel_rfl) (by kernel_rfl) (fun _ _ _ h => h) (Or.inl ⟨by rfl, ?_⟩) (by assumption) ?_
        rotate_left
        · intro W hSw
          (try dsimp only at hSw)
          go_simp
          (try with_reducible rfl)
        (try simp only [Act.put, List.setIfInBounds_toArray, List.set_cons_zero, List.set_cons_succ])
        refine wpAnyZ_take (i := 19) (oi := ⟨_, _, _, _, _, _⟩) (v := ?_) rfl (by kernel_rfl) (by kernel_rfl) (by kernel_rfl) (by kernel_rfl) (by kernel_rfl) (fun _ _ _ h => h) (Or.inl ⟨by rfl, ?_⟩) (by assumption) ?_
        rotate_left
        · intro W hSw
          (try dsimp only at hSw)
          go_simp
          (try with_reducible rfl)
        (try simp only [Act.put, List.setIfInBounds_toArray, List.set_cons_zero, List.set_cons_succ])
        refine wpAnyZ_take (i := 20) (oi := ⟨_, _, _, _, _, _⟩) (v := ?_) rfl (by kernel_rfl) (by kernel_rfl) (by kernel_rfl) (by kernel_rfl) (by kernel_rfl) (fun _ _ _ h => h) (Or.inl ⟨by rfl, ?_⟩) (by assumption) ?_
        rotate_left
        · intro W hSw
          (try dsimp only at hSw)
          go_simp
          (try with_reducible rfl)
        (try simp only [Act.put, List.setIfInBounds_toArray, List.set_cons_zero, List.set_cons_succ])
        refine wpAnyZ_take (i := 21) (oi := ⟨_, _, _, _, _, _⟩) (v := ?_) rfl (by kernel_rfl) (by kernel_rfl) (by kernel_rfl) (by kernel_rfl) (by kernel_rfl) (fun _ _ _ h => h) (Or.inl ⟨by rfl, ?_⟩) (by assumption) ?_
        rotate_left
        · intro W hSw
          (try dsimp only at hSw)
          go_simp
          (try with_reducible rfl)
        (try simp only [Act.put, List.setIfInBounds_toArray, List.set_cons_zero, List.set_cons_succ])
        refine wpAnyZ_done (by kernel_rfl) ?_ _
        refine NoPanic.normal ?_
        clear hHeld
        go_wp2
        go_ret2
        exact gives_at HAT.out.symm (by rw [HHAS.out, beq_dec]) (HB.out.trans (HU.out.mono HB.out.size))
    · have hd : decide (i < len) = false := decide_eq_false hlt
      have hat : atD l id = i := by have := atD_le l id; have := HI.out; omega
      have HAT := Lib.hid hat
      have HHAS := Lib.hid (has_end hat (by omega))
      have KS : Hid (∀ W, Below wr.heap.size wr W → (fun (W : World) => W.cell? ⟨kt, 0, none⟩ = some (.slice ad len cap)) W) := fun W hW => (HT.out.keep hW).box.c0
      have hb1d : Below wr.heap.size wr wr.drew := (Below.refl _ wr).drew
      clear hat
      go_upto_region 4 with fail
      clear t0
      refine wp_region_noPanic ?_
      refine wp_region_z [] (fun (W : World) => W.cell? ⟨kt, 0, none⟩ = some (.slice ad len cap)) (by kernel_rfl) ?_
      have hHeld : (fun (W : World) => W.cell? ⟨kt, 0, none⟩ = some (.slice ad len cap)) _ := KS.out _ hb1d
      obtain ⟨u0, hu0⟩ : ∃ u, u = wr.drew := ⟨_, rfl⟩
      rw [← hu0] at hHeld hb1d
      rw [← hu0]
      clear hu0
      have HU := Lib.hid hb1d
      clear hb1d
      refine wpAnyZ_take (i := 0) (oi := ⟨_, _, _, _, _, _⟩) (v := ?_) rfl (by kernel_rfl) (by kernel_rfl) (by kernel_rfl) (by kernel_rfl) (by kernel_rfl) (fun _ _ _ h => h) (Or.inl ⟨by rfl, ?_⟩) (by assumption) ?_
      rotate_left
      · intro W hSw
        (try dsimp only at hSw)
        go_simp
        (try with_reducible rfl)
      (try simp only [Act.put, List.setIfInBounds_toArray, List.set_cons_zero, List.set_cons_succ])
      refine wpAnyZ_take (i := 1) (oi := ⟨_, _, _, _, _, _⟩) (v := ?_) rfl (by kernel_rfl) (by kernel_rfl) (by kernel_rfl) (by kernel_rfl) (by kernel_rfl) (fun _ _ _ h => h) (Or.inl ⟨by rfl, ?_⟩) (by assumption) ?_
      rotate_left
      · intro W hSw
        (try dsimp only at hSw)
        go_simp
        (try with_reducible rfl)
      (try simp only [Act.put, List.setIfInBounds_toArray, List.set_cons_zero, List.set_cons_succ])
      refine wpAnyZ_take (i := 2) (oi := ⟨_, _, _, _, _, _⟩) (v := ?_) rfl (by kernel_rfl) (by kernel_rfl) (by kernel_rfl) (by kernel_rfl) (by kernel_rfl) (fun _ _ _ h => h) (Or.inl ⟨by rfl, ?_⟩) (by assumption) ?_
      rotate_left
      · intro W hSw
        (try dsimp only at hSw)
        go_simp
        (try with_reducible rfl)
      (try simp only [Act.put, List.setIfInBounds_toArray, List.set_cons_zero, List.set_cons_succ])
      refine wpAnyZ_take (i := 3) (oi := ⟨_, _, _, _, _, _⟩) (v := ?_) rfl (by kernel_rfl) (by kernel_rfl) (by kernel_rfl) (by kernel_rfl) (by kernel_rfl) (fun _ _ _ h => h) (Or.inl ⟨by rfl, ?_⟩) (by assumption) ?_
      rotate_left
      · intro W hSw
        (try dsimp only at hSw)
        go_simp
        (try with_reducible rfl)
      (try simp only [Act.put, List.setIfInBounds_toArray, List.set_cons_zero, List.set_cons_succ])
      refine wpAnyZ_take (i := 4) (oi := ⟨_, _, _, _, _, _⟩) (v := ?_) rfl (by kernel_rfl) (by kernel_rfl) (by kernel_rfl) (by kernel_rfl) (by kernel_rfl) (fun _ _ _ h => h) (Or.inl ⟨by rfl, ?_⟩) (by assumption) ?_
      rotate_left
      · intro W hSw
        (try dsimp only at hSw)
        go_simp
        (try with_reducible rfl)
      (try simp only [Act.put, List.setIfInBounds_toArray, List.set_cons_zero, List.set_cons_succ])
      refine wpAnyZ_take (i := 5) (oi := ⟨_, _, _, _, _, _⟩) (v := ?_) rfl (by kernel_rfl) (by kernel_rfl) (by kernel_rfl) (by kernel_rfl) (by kernel_rfl) (fun _ _ _ h => h) (Or.inl ⟨by rfl, ?_⟩) (by assumption) ?_
      rotate_left
      · intro W hSw
        (try dsimp only at hSw)
        go_simp
        (try with_reducible rfl)
      (try simp only [Act.put, List.setIfInBounds_toArray, List.set_cons_zero, List.set_cons_succ])
      refine wpAnyZ_take (i := 6) (oi := ⟨_, _, _, _, _, _⟩) (v := ?_) rfl (by kernel_rfl) (by kernel_rfl) (by kernel_rfl) (by kernel_rfl) (by kernel_rfl) (fun _ _ _ h => h) (Or.inl ⟨by rfl, ?_⟩) (by assumption) ?_
      rotate_left
      · intro W hSw
        (try dsimp only at hSw)
        go_simp
        (try with_reducible rfl)
      (try simp only [Act.put, List.setIfInBounds_toArray, List.set_cons_zero, List.set_cons_succ])
      refine wpAnyZ_take (i := 7) (oi := ⟨_, _, _, _, _, _⟩) (v := ?_) rfl (by kernel_rfl) (by kernel_rfl) (by kernel_rfl) (by kernel_rfl) (by kernel_rfl) (fun _ _ _ h => h) (Or.inl ⟨by rfl, ?_⟩) (by assumption) ?_
      rotate_left
      · intro W hSw
        (try dsimp only at hSw)
        go_simp
        (try with_reducible rfl)
      (try simp only [Act.put, List.setIfInBounds_toArray, List.set_cons_zero, List.set_cons_succ])
      refine wpAnyZ_take (i := 8) (oi := ⟨_, _, _, _, _, _⟩) (v := ?_) rfl (by kernel_rfl) (by kernel_rfl) (by kernel_rfl) (by kernel_rfl) (by kernel_rfl) (fun _ _ _ h => h) (Or.inl ⟨by rfl, ?_⟩) (by assumption) ?_
      rotate_left
      · intro W hSw
        (try dsimp only at hSw)
        go_simp
        (try with_reducible rfl)
      (try simp only [Act.put, List.setIfInBounds_toArray, List.set_cons_zero, List.set_cons_succ])
      refine wpAnyZ_take (i := 9) (oi := ⟨_, _, _, _, _, _⟩) (v := undef) rfl (by kernel_rfl) (by kernel_rfl) (by kernel_rfl) (by kernel_rfl) (by kernel_rfl) (fun _ _ _ h => h) (Or.inr ⟨by rfl, rfl⟩) (by assumption) ?_
      (try simp only [Act.put, List.setIfInBounds_toArray, List.set_cons_zero, List.set_cons_succ])
      refine wpAnyZ_take (i := 10) (oi := ⟨_, _, _, _, _, _⟩) (v := undef) rfl (by kernel_rfl) (by kernel_rfl) (by kernel_rfl) (by kernel_rfl) (by kernel_rfl) (fun _ _ _ h => h) (Or.inr ⟨by rfl, rfl⟩) (by assumption) ?_
      (try simp only [Act.put, List.setIfInBounds_toArray, List.set_cons_zero, List.set_cons_succ])
      refine wpAnyZ_take (i := 11) (oi := ⟨_, _, _, _, _, _⟩) (v := undef) rfl (by kernel_rfl) (by kernel_rfl) (by kernel_rfl) (by kernel_rfl) (by kernel_rfl) (fun _ _ _ h => h) (Or.inr ⟨by rfl, rfl⟩) (by assumption) ?_
      (try simp only [Act.put, List.setIfInBounds_toArray, List.set_cons_zero, List.set_cons_succ])
      refine wpAnyZ_take (i := 12) (oi := ⟨_, _, _, _, _, _⟩) (v := undef) rfl (by kernel_rfl) (by kernel_rfl) (by kernel_rfl) (by kernel_rfl) (by kernel_rfl) (fun _ _ _ h => h) (Or.inr ⟨by rfl, rfl⟩) (by assumption) ?_
      (try simp only [Act.put, List.setIfInBounds_toArray, List.set_cons_zero, List.set_cons_succ])
      refine wpAnyZ_take (i := 13) (oi := ⟨_, _, _, _, _, _⟩) (v := undef) rfl (by kernel_rfl) (by kernel_rfl) (by kernel_rfl) (by kernel_rfl) (by kernel_rfl) (fun _ _ _ h => h) (Or.inr ⟨by rfl, rfl⟩) (by assumption) ?_
      (try simp only [Act.put, List.setIfInBounds_toArray, List.set_cons_zero, List.set_cons_succ])
      refine wpAnyZ_take (i := 14) (oi := ⟨_, _, _, _, _, _⟩) (v := undef) rfl (by kernel_rfl) (by kernel_rfl) (by kernel_rfl) (by kernel_rfl) (by kernel_rfl) (fun _ _ _ h => h) (Or.inr ⟨by rfl, rfl⟩) (by assumption) ?_
      (try simp only [Act.put, List.setIfInBounds_toArray, List.set_cons_zero, List.set_cons_succ])
      refine wpAnyZ_take (i := 15) (oi := ⟨_, _, _, _, _, _⟩) (v := undef) rfl (by kernel_rfl) (by kernel_rfl) (by kernel_rfl) (by kernel_rfl) (by kernel_rfl) (fun _ _ _ h => h) (Or.inr ⟨by rfl, rfl⟩) (by assumption) ?_
      (try simp only [Act.put, List.setIfInBounds_toArray, List.set_cons_zero, List.set_cons_succ])
      refine wpAnyZ_take (i := 16) (oi := ⟨_, _, _, _, _, _⟩) (v := undef) rfl (by kernel_rfl) (by kernel_rfl) (by kernel_rfl) (by kernel_rfl) (by kernel_rfl) (fun _ _ _ h => h) (Or.inr ⟨by rfl, rfl⟩) (by assumption) ?_
      (try simp only [Act.put, List.setIfInBounds_toArray, List.set_cons_zero, List.set_cons_succ])
      refine wpAnyZ_take (i := 17) (oi := ⟨_, _, _, _, _, _⟩) (v := undef) rfl (by kernel_rfl) (by kernel_rfl) (by kernel_rfl) (by kernel_rfl) (by kernel_rfl) (fun _ _ _ h => h) (Or.inr ⟨by rfl, rfl⟩) (by assumption) ?_
      (try simp only [Act.put, List.setIfInBounds_toArray, List.set_cons_zero, List.set_cons_succ])
      refine wpAnyZ_take (i := 18) (oi := ⟨_, _, _, _, _, _⟩) (v := undef) rfl (by kernel_rfl) (by kernel_rfl) (by kernel_rfl) (by kernel_rfl) (by kernel_rfl) (fun _ _ _ h => h) (Or.inr ⟨by rfl, rfl⟩) (by assumption) ?_
      (try simp only [Act.put, List.setIfInBounds_toArray, List.set_cons_zero, List.set_cons_succ])
      refine wpAnyZ_take (i := 19) (oi := ⟨_, _, _, _, _, _⟩) (v := ?_) rfl (by kernel_rfl) (by kernel_rfl) (by kernel_rfl) (by kernel_rfl) (by kernel_rfl) (fun _ _ _ h => h) (Or.inl ⟨by rfl, ?_⟩) (by assumption) ?_
      rotate_left
      · intro W hSw
        (try dsimp only at hSw)
        go_simp
        (try with_reducible rfl)
      (try simp only [Act.put, List.setIfInBounds_toArray, List.set_cons_zero, List.set_cons_succ])
      refine wpAnyZ_take (i := 20) (oi := ⟨_, _, _, _, _, _⟩) (v := ?_) rfl (by kernel_rfl) (by kernel_rfl) (by kernel_rfl) (by kernel_rfl) (by kernel_rfl) (fun _ _ _ h => h) (Or.inl ⟨by rfl, ?_⟩) (by assumption) ?_
      rotate_left
      · intro W hSw
        (try dsimp only at hSw)
        go_simp
        (try with_reducible rfl)
      (try simp only [Act.put, List.setIfInBounds_toArray, List.set_cons_zero, List.set_cons_succ])
      refine wpAnyZ_take (i := 21) (oi := ⟨_, _, _, _, _, _⟩) (v := ?_) rfl (by kernel_rfl) (by kernel_rfl) (by kernel_rfl) (by kernel_rfl) (by kernel_rfl) (fun _ _ _ h => h) (Or.inl ⟨by rfl, ?_⟩) (by assumption) ?_
      rotate_left
      · intro W hSw
        (try dsimp only at hSw)
        go_simp
        (try with_reducible rfl)
      (try simp only [Act.put, List.setIfInBounds_toArray, List.set_cons_zero, List.set_cons_succ])
      refine wpAnyZ_done (by kernel_rfl) ?_ _
      refine NoPanic.normal ?_
      clear hHeld
      go_wp2
      go_ret2
      exact gives_at HAT.out.symm HHAS.out.symm (HB.out.trans (HU.out.mono HB.out.size))
end Go.Proofs.Ytinilkkpocnnpaa
