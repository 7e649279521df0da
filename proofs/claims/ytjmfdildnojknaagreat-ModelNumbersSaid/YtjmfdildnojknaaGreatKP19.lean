/- Parts of a proof. -/
import Derived.Test.YtjmfdildnojknaaGreatKP18
set_option maxRecDepth 100000
set_option maxHeartbeats 16000000
set_option linter.unusedVariables false
namespace Go.Proofs.YtjmfdildnojknaaGreat
open Go.RowKit
open Go.FoMath
open Go.ProdMath
open Go.BatMath hiding AllB getD_lt take_all In64
theorem mc_set1 {α : Type} {K : Kind α} {bytes : Nat} (hK : K.Ok bytes) {l : List α} {i : Nat} {m m' : α} (hm : l[i]? = some m) (j : Nat) (u : Value) (hj : j < K.size) (he : K.enc m' = (K.enc m).set j u) : (K.all l).set (i * K.size + j) u = K.all (l.set i m') := by
 obtain ⟨hil, e⟩ := List.getElem?_eq_some_iff.1 hm
 have hs : l = l.take i ++ m :: l.drop (i + 1) := by rw [← e, ← List.drop_eq_getElem_cons hil, List.take_append_drop]
 obtain ⟨a, ha⟩ := exq (l.take i)
 obtain ⟨b, hb⟩ := exq (l.drop (i + 1))
 have hal : a.length = i := by rw [ha, List.length_take]; omega
 rw [← ha, ← hb] at hs
 have hlen : (K.all a).length = i * K.size := by rw [hK.all_len, hal]
 have hset : l.set i m' = a ++ m' :: b := by rw [hs, List.set_append_right _ _ (by omega), hal, Nat.sub_self]; rfl
 rw [hset, hs, Kind.all_app, Kind.all_app]
 have e1 : K.all (m :: b) = K.enc m ++ K.all b := by simp [Kind.all]
 have e2 : K.all (m' :: b) = (K.enc m).set j u ++ K.all b := by simp [Kind.all, he]
 rw [e1, e2, List.set_append_right _ _ (by omega), hlen, Nat.add_sub_cancel_left, List.set_append_left _ _ (by rw [hK.len]; exact hj)]
theorem mc_store {α : Type} {K : Kind α} {bytes : Nat} (hK : K.Ok bytes) {w : World} {base g n cap i : Nat} {l : List α} {m m' : α} (h : OwnRow K w base (.slice (some ⟨g, 0, none⟩) n cap) l) (hn : l.length = n) (hm : l[i]? = some m) (j : Nat) (u : Value) (hj : j < K.size) (he : K.enc m' = (K.enc m).set j u) :
 OwnRow K (w.setCell ⟨g, i * K.size + j, none⟩ u) base (.slice (some ⟨g, 0, none⟩) n cap) (l.set i m') := by
 subst hn
 unfold OwnRow at h ⊢
 have h1 := (World.ownsRow.stored h (i * K.size + j) u).1
 rw [mc_set1 hK hm j u hj he] at h1
 rw [List.length_set]
 exact h1
def shiftL {α : Type} (l : List α) (k i : Nat) : List α := (l.drop k).take i ++ l.drop i
theorem shift_zero {α : Type} (l : List α) (k : Nat) : shiftL l k 0 = l := by simp [shiftL]
theorem shift_len {α : Type} {l : List α} {k i : Nat} (h : i + k ≤ l.length) : (shiftL l k i).length = l.length := by simp [shiftL]; omega
theorem shift_get {α : Type} {l : List α} {k i j : Nat} (h : i + k ≤ l.length) (hj : i ≤ j) : (shiftL l k i)[j]? = l[j]? := by
 unfold shiftL
 have e : ((l.drop k).take i).length = i := by simp; omega
 rw [List.getElem?_append_right (by rw [e]; exact hj), e, List.getElem?_drop, show i + (j - i) = j by omega]
theorem shift_set {α : Type} {l : List α} {k i : Nat} {m : α} (h : i + k < l.length) (hm : l[i + k]? = some m) : (shiftL l k i).set i m = shiftL l k (i + 1) := by
 unfold shiftL
 have e : ((l.drop k).take i).length = i := by simp; omega
 rw [List.set_append_right _ _ (by rw [e]; exact Nat.le_refl _), e, Nat.sub_self, List.take_add_one, List.getElem?_drop, show k + i = i + k by omega, hm]
 have e2 : l.drop i = l[i]'(by omega) :: l.drop (i + 1) := List.drop_eq_getElem_cons (by omega)
 rw [e2, List.set_cons_zero, List.append_assoc]
 rfl
theorem shift_all {α : Type} {l : List α} {k : Nat} (h : k ≤ l.length) : (shiftL l k (l.length - k)).take (l.length - k) = l.drop k := by
 unfold shiftL
 have e : ((l.drop k).take (l.length - k)).length = l.length - k := by simp
 rw [List.take_append_of_le_length (by rw [e]; exact Nat.le_refl _), List.take_take, Nat.min_self, List.take_of_length_le (by simp)]
section
variable {w w' : World} {base g len cap i j : Nat} {l : List BM} {m m0 : BM}
theorem own_at (h : OwnRow batK w base (.slice (some ⟨g, 0, none⟩) len cap) l) (hl : l.length = len) : RowAt batK w (some ⟨g, 0, none⟩) len cap l ∧ g < w.heap.size ∧ base ≤ g ∧ (0 < len → ∀ p, w.frozen? ⟨g, p, none⟩ = false) := by
 subst hl
 obtain ⟨ad, cp, e, h1, h2⟩ := h.at batK_ok
 injection e with e1 e2 e3
 subst e1 e3
 refine ⟨h1, (h2 _ rfl).2, (h2 _ rfl).1, fun h0 p => ?_⟩
 rcases h.2 with ⟨e, _⟩ | ⟨g', cp', cur, e, hb, hh, _⟩
 · cases e
 cases e
 exact frozen_of_row w g p _ _ hh
theorem own_cells (h : OwnRow batK w base (.slice (some ⟨g, 0, none⟩) len cap) l) (hl : l.length = len) (hm : l[j]? = some m) :
 w.cell? ⟨g, j * 7, none⟩ = some (.int .i64 m.b.base) ∧ w.cell? ⟨g, j * 7 + 1, none⟩ = some (.int .i64 m.b.prod) ∧ w.cell? ⟨g, j * 7 + 2, none⟩ = some (.int .i64 m.b.epoch) ∧ w.cell? ⟨g, j * 7 + 3, none⟩ = some (.int .i64 m.b.seq) ∧ w.cell? ⟨g, j * 7 + 4, none⟩ = some (.bool m.b.txn) ∧ w.cell? ⟨g, j * 7 + 5, none⟩ = some (.int .i64 m.b.marker) ∧ w.cell? ⟨g, j * 7 + 6, none⟩ = some (.slice m.ad m.b.recs.length m.cap) := by
 obtain ⟨h1, _⟩ := own_at h hl
 have hj : j < len := by rw [← hl]; exact (List.getElem?_eq_some_iff.1 hm).1
 rcases h1.cells with h0 | ⟨b, off, e, _, hc⟩
 · omega
 cases e
 have key : ∀ q u, (batK.enc m)[q]? = some u → w.cell? ⟨g, j * 7 + q, none⟩ = some u := fun q u hu => by
  have := hc j m hm q u hu
  rw [Nat.zero_add] at this
  exact this
 exact ⟨key 0 _ rfl, key 1 _ rfl, key 2 _ rfl, key 3 _ rfl, key 4 _ rfl, key 5 _ rfl, key 6 _ rfl⟩
theorem own_put7 (h : OwnRow batK w base (.slice (some ⟨g, 0, none⟩) len cap) l) (hl : l.length = len) (hm : l[i]? = some m0) (m : BM) :
 OwnRow batK (((((((w.setCell ⟨g, i * 7, none⟩ (.int .i64 m.b.base)).setCell ⟨g, i * 7 + 1, none⟩ (.int .i64 m.b.prod)).setCell ⟨g, i * 7 + 2, none⟩ (.int .i64 m.b.epoch)).setCell ⟨g, i * 7 + 3, none⟩ (.int .i64 m.b.seq)).setCell ⟨g, i * 7 + 4, none⟩ (.bool m.b.txn)).setCell ⟨g, i * 7 + 5, none⟩ (.int .i64 m.b.marker)).setCell ⟨g, i * 7 + 6, none⟩ (.slice m.ad m.b.recs.length m.cap)) base (.slice (some ⟨g, 0, none⟩) len cap) (l.set i m) ∧
 w.grownBy (((((((w.setCell ⟨g, i * 7, none⟩ (.int .i64 m.b.base)).setCell ⟨g, i * 7 + 1, none⟩ (.int .i64 m.b.prod)).setCell ⟨g, i * 7 + 2, none⟩ (.int .i64 m.b.epoch)).setCell ⟨g, i * 7 + 3, none⟩ (.int .i64 m.b.seq)).setCell ⟨g, i * 7 + 4, none⟩ (.bool m.b.txn)).setCell ⟨g, i * 7 + 5, none⟩ (.int .i64 m.b.marker)).setCell ⟨g, i * 7 + 6, none⟩ (.slice m.ad m.b.recs.length m.cap)) (some g) := by
 obtain ⟨⟨o0, o1, o2, o3, o4, o5, orecs⟩, oad, ocap⟩ := m0
 obtain ⟨⟨n0, n1, n2, n3, n4, n5, nrecs⟩, nad, ncap⟩ := m
 have hil : i < l.length := (List.getElem?_eq_some_iff.1 hm).1
 have hs : ∀ (x : BM), (l.set i x)[i]? = some x := fun x => List.getElem?_set_self hil
 have hn : ∀ (x : BM), (l.set i x).length = len := fun x => by rw [List.length_set]; exact hl
 have s0 := mc_store batK_ok h hl hm (m' := ⟨⟨n0, o1, o2, o3, o4, o5, orecs⟩, oad, ocap⟩) 0 (.int .i64 n0) (by decide) rfl
 have s1 := mc_store batK_ok s0 (hn _) (hs _) (m' := ⟨⟨n0, n1, o2, o3, o4, o5, orecs⟩, oad, ocap⟩) 1 (.int .i64 n1) (by decide) rfl
 rw [List.set_set] at s1
 have s2 := mc_store batK_ok s1 (hn _) (hs _) (m' := ⟨⟨n0, n1, n2, o3, o4, o5, orecs⟩, oad, ocap⟩) 2 (.int .i64 n2) (by decide) rfl
 rw [List.set_set] at s2
 have s3 := mc_store batK_ok s2 (hn _) (hs _) (m' := ⟨⟨n0, n1, n2, n3, o4, o5, orecs⟩, oad, ocap⟩) 3 (.int .i64 n3) (by decide) rfl
 rw [List.set_set] at s3
 have s4 := mc_store batK_ok s3 (hn _) (hs _) (m' := ⟨⟨n0, n1, n2, n3, n4, o5, orecs⟩, oad, ocap⟩) 4 (.bool n4) (by decide) rfl
 rw [List.set_set] at s4
 have s5 := mc_store batK_ok s4 (hn _) (hs _) (m' := ⟨⟨n0, n1, n2, n3, n4, n5, orecs⟩, oad, ocap⟩) 5 (.int .i64 n5) (by decide) rfl
 rw [List.set_set] at s5
 have s6 := mc_store batK_ok s5 (hn _) (hs _) (m' := ⟨⟨n0, n1, n2, n3, n4, n5, nrecs⟩, nad, ncap⟩) 6 (.slice nad nrecs.length ncap) (by decide) rfl
 rw [List.set_set] at s6
 exact ⟨s6, grow_set (grow_set (grow_set (grow_set (grow_set (grow_set (grow_set (grow_refl w _) _ _) _ _) _ _) _ _) _ _) _ _) _ _⟩
theorem zero_one : ∃ i z, Tryz.prog.info? batK.ty = some i ∧ i.zero = some z ∧ i.size = 7 ∧ ∀ n, (Builtin.zeroCells z.cells n).toList.length = n * 7 ∧ ∀ u ∈ (Builtin.zeroCells z.cells n).toList, u.oneCell' = true := by
 obtain ⟨i, hi, hz, hs, hb⟩ := info_parts infoBat
 refine ⟨i, _, hi, hz, hs, fun n => ⟨by rw [Array.length_toList, size_zeroCells]; rfl, fun u hu => ?_⟩⟩
 unfold Builtin.zeroCells at hu
 simp only [Array.toList_map, List.mem_map] at hu
 obtain ⟨j, _, rfl⟩ := hu
 have key : ∀ r, r < 7 → ((Value.agg #[.int .i64 0, .int .i64 0, .int .i64 0, .int .i64 0, .bool false, .int .i64 0, .slice none 0 0]).cells[r]!).oneCell' = true := by
  intro r hr
  have : r = 0 ∨ r = 1 ∨ r = 2 ∨ r = 3 ∨ r = 4 ∨ r = 5 ∨ r = 6 := by omega
  rcases this with rfl | rfl | rfl | rfl | rfl | rfl | rfl <;> rfl
 exact key _ (Nat.mod_lt _ (by decide))
theorem clear_run (h : OwnRow batK w base (.slice (some ⟨g, 0, none⟩) len cap) l) (hl : l.length = len) (hi : i < len) (c ty : Nat) :
 ∃ w', (Builtin.clear_ #[batK.sl] ty #[.slice (some ⟨g, i * 7, none⟩) (len - i) c]).run Tryz.prog w = .ok (.tuple #[]) w' ∧ w.grownBy w' (some g) ∧ RowAt batK w' (some ⟨g, 0, none⟩) i cap (l.take i) := by
 obtain ⟨hrow, hgl, _, _⟩ := own_at h hl
 obtain ⟨ti, z, hti, htz, hts, hz⟩ := zero_one
 have hu := batK_ok.und
 subst hl
 rcases h.2 with ⟨e, _⟩ | ⟨g', cp', cur, e, hb, hh, hc, hcm, hs, ht⟩
 · cases e
 cases e
 have hs' : cur.size = cap * 7 := hs
 have hst := run_storeCells_at (P := Tryz.prog) g (i * 7) batK.ty (Builtin.zeroCells z.cells (l.length - i)).toList 0 cur w hh (by rw [(hz _).1, hs']; omega) (hz _).2
 obtain ⟨n, hn⟩ : ∃ n, l.length - i = n + 1 := ⟨l.length - i - 1, by omega⟩
 rw [hn] at hst ⊢
 have hv : ∀ W, (zeroValue batK.ty).run Tryz.prog W = .ok z W := fun W => by simp [zeroValue, typeInfo, hti, htz]
 obtain ⟨W, hW⟩ := exq (w.setRow g (cur.toList.take (i * 7 + 0) ++ (Builtin.zeroCells z.cells (n + 1)).toList ++ cur.toList.drop (i * 7 + 0 + (Builtin.zeroCells z.cells (n + 1)).toList.length)).toArray)
 rw [← hW] at hst
 refine ⟨W, by simp [Builtin.clear_, run_underlying hu, hv, hst], ?_, ?_⟩
 · rw [hW]
   exact ⟨rfl, rfl, rfl, by simp [World.setRow], fun k hk hne => setRow_other w g k _ (fun e => hne (by rw [e]))⟩
 rw [hW]
 have h3 := hrow.take i (Nat.le_of_lt hi)
 refine ⟨h3.length, h3.fits, h3.room, ?_⟩
 rcases h3.cells with h0 | ⟨b, off, e, hlt, hcc⟩
 · exact .inl h0
 cases e
 refine .inr ⟨g, 0, rfl, by simpa [World.setRow] using hlt, fun x y hx q u hq => ?_⟩
 have h4 := hcc x y hx q u hq
 have hq7 : q < 7 := by have := (List.getElem?_eq_some_iff.1 hq).1; exact this
 have hxi : x < i := by have := (List.getElem?_eq_some_iff.1 hx).1; rw [List.length_take] at this; omega
 rw [cell_of_row _ _ _ _ _ _ hh] at h4
 rw [cell_of_row _ _ _ _ _ _ (setRow_heap w g cur _ _ _ hh)]
 have hlt7 : 0 + (x * batK.size + q) < i * 7 + 0 := by show 0 + (x * 7 + q) < i * 7 + 0; omega
 have hsz : i * 7 + 0 ≤ cur.size := by rw [hs']; omega
 rw [List.getElem?_toArray, List.append_assoc, List.getElem?_append_left (by rw [List.length_take, Array.length_toList]; omega), List.getElem?_take, if_pos hlt7, Array.getElem?_toList]
 exact h4
end
theorem mcClos_any (w : World) (b0 b1 b2 b3 : Int) (b4 : Bool) (b5 : Int) (rd : Option Addr) (rn rc P : Nat) (s : Int) (hc : w.cell? ⟨P, 0, none⟩ = some (.int .i64 s)) :
 Calls Tryz.prog 57 #[.agg #[.int .i64 b0, .int .i64 b1, .int .i64 b2, .int .i64 b3, .bool b4, .int .i64 b5, .slice rd rn rc], .pointer (some ⟨P, 0, none⟩)] w (GivesB w (decide (b0 < s))) := by
 obtain ⟨W0, hW0⟩ := exq (w.alloc (.cells #[.int .i64 b0, .int .i64 b1, .int .i64 b2, .int .i64 b3, .bool b4, .int .i64 b5, .slice rd rn rc] 29))
 have HB0 := hwq hW0
 have HX0 := bx0 hW0
 have HC : Hid (W0.cell? ⟨P, 0, none⟩ = some (.int .i64 s)) := by
  show _ = _
  rw [HB0.out.cell (p := ⟨P, 0, none⟩) (by
   rcases Nat.lt_or_ge P w.heap.size with h | h
   · exact h
   simp [World.cell?, Array.getElem?_eq_none h] at hc)]
  exact hc
 have HW0 := qh hW0
 clear hW0 hc
 obtain ⟨B, hB⟩ := exq w.heap.size
 rw [← hB] at HX0
 go_enter Tryz.func57, Tryz.ntmps57
 go_upto_region 1 with fail
 rw [← HW0.out, ← hB]
 clear hB HW0
 have p0 := HX0.out.c0
 have p1 := HC.out
 go_wp2
 go_ret
 exact ⟨rfl, HB0.out⟩
theorem mcIndex_any (w : World) (ad : Option Addr) (len cap : Nat) (ms : List BM) (hb : RowAt batK w ad len cap ms) (hlen : len ≤ 5000) (P : Nat) (s : Int) (hP : P < w.heap.size) (hc : w.cell? ⟨P, 0, none⟩ = some (.int .i64 s)) (r : Int)
 (hr : (r = -1 ∧ ∀ (i : Nat) (m : BM), ms[i]? = some m → s ≤ m.b.base) ∨ (r = 0 ∧ ∃ m : BM, ms[0]? = some m ∧ m.b.base < s)) :
 Calls Tryz.prog 91 #[.slice ad len cap, .func (.func 57) #[] #[.pointer (some ⟨P, 0, none⟩)]] w (GivesI w r) := by
 have H := qh hb
 have HC : Hid (∀ W, Below w.heap.size w W → W.cell? ⟨P, 0, none⟩ = some (.int .i64 s)) := fun W hW => (hW.cell (p := ⟨P, 0, none⟩) hP).trans hc
 have HR := qh hr
 have HLM := qh hb.length
 clear hb hP hc hr
 go_enter Tryz.func91, Tryz.ntmps91
 go_wp2
 go_loopw [8] (fun v8 wr => ∃ (j : Nat), v8 = .int .i64 (j : Int) ∧ j ≤ len ∧ Hid (0 < j → r = -1) ∧ Hid (Below w.heap.size w wr)) (fun v8 _ => len - (intOf v8).toNat)
 case atStart => exact ⟨0, rfl, Nat.zero_le _, (fun h => absurd h (Nat.lt_irrefl 0)), Below.refl _ _⟩
 obtain ⟨j, rfl, hj, HJ, HB⟩ := hrel
 obtain ⟨wo, hwo⟩ := exq wr
 subst hwo
 by_cases hlt : j < len
 rotate_left
 · have hd : decide (j < len) = false := decide_eq_false hlt
   have HR1 : Hid (r = -1) := by
    rcases HR.out with ⟨h1, h2⟩ | ⟨h1, m1, h2, h3⟩
    · exact h1
    have h4 := (List.getElem?_eq_some_iff.1 h2).1
    have := HLM.out
    exact HJ.out (by omega)
   go_wp2
   go_ret
   exact ⟨by rw [HR1.out]; rfl, HB.out⟩
 have hd : decide (j < len) = true := decide_eq_true hlt
 have hjl : (j : Int) < (len : Int) := by omega
 obtain ⟨bk, off, m, e, hbk, hm, hcell⟩ := (H.out.keep HB.out).get hlt
 subst e
 have c0 := hcell 0 _ rfl
 have c1 := hcell 1 _ rfl
 have c2 := hcell 2 _ rfl
 have c3 := hcell 3 _ rfl
 have c4 := hcell 4 _ rfl
 have c5 := hcell 5 _ rfl
 have c6 := hcell 6 _ rfl
 rw [show batK.size = 7 from rfl] at c0 c1 c2 c3 c4 c5 c6
 rw [Nat.add_zero] at c0
 rw [← Nat.add_assoc] at c1 c2 c3 c4 c5 c6
 have HM := qh hm
 have HCW := qh (HC.out wo HB.out)
 clear hcell hbk hm
 obtain ⟨t, ht⟩ : ∃ t, decide (m.b.base < s) = t := ⟨_, rfl⟩
 have HT := qh ht
 have CL := mcClos_any wo m.b.base m.b.prod m.b.epoch m.b.seq m.b.txn m.b.marker m.ad m.b.recs.length m.cap P s HCW.out
 rw [ht] at CL
 have HCL := qh CL
 clear CL ht
 go_wp2_with fail
 refine HCL.out.mono ?_
 rintro e w2 ⟨rfl, hb2⟩
 have HB2 := qh (HB.out.trans (hb2.mono HB.out.size))
 clear hb2 HCL c0 c1 c2 c3 c4 c5 c6
 cases t with
 | true =>
   have HTS : Hid (m.b.base < s) := by show m.b.base < s; exact of_decide_eq_true HT.out
   have HR0 : Hid (r = 0 ∧ j = 0) := by
    rcases HR.out with ⟨h1, h2⟩ | ⟨h1, h2⟩
    · exact absurd HTS.out (by have := h2 j m HM.out; omega)
    rcases Nat.eq_zero_or_pos j with h3 | h3
    · exact ⟨h1, h3⟩
    have := HJ.out h3; omega
   go_wp2
   go_ret
   exact ⟨by rw [HR0.out.1, HR0.out.2]; rfl, HB2.out⟩
 | false =>
   have HTS : Hid (¬ m.b.base < s) := by show ¬ m.b.base < s; exact of_decide_eq_false HT.out
   have HR1 : Hid (r = -1) := by
    rcases HR.out with ⟨h1, h2⟩ | ⟨h1, m1, h2, h3⟩
    · exact h1
    rcases Nat.eq_zero_or_pos j with h4 | h4
    · have h5 := HM.out
      rw [h4, h2] at h5
      cases h5
      exact absurd h3 HTS.out
    exact HJ.out h4
   go_wp2
   go_roundw
   case rel => exact ⟨j + 1, rfl, hlt, (fun _ => HR1.out), HB2.out⟩
   simp [intOf]; omega
theorem grow_chain {w w1 w2 : World} {g : Nat} (h : w.grownBy w1 (some g)) (h2 : w1.grownBy w2 (some g)) : w.grownBy w2 (some g) :=
 ⟨h2.os.trans h.os, h2.tape.trans h.tape, h2.output.trans h.output, Nat.le_trans h.size h2.size, fun q hq hn => (h2.block q (Nat.lt_of_lt_of_le hq h.size) hn).trans (h.block q hq hn)⟩
def Struck (w : World) (g : Nat) (len cap kk : Nat) (ms : List BM) (e : Ending) (w' : World) : Prop :=
 e = .returned (.slice (some ⟨g, 0, none⟩) (len - kk) cap) ∧ RowAt batK w' (some ⟨g, 0, none⟩) (len - kk) cap (ms.drop kk) ∧ w.grownBy w' (some g)
theorem mcStrike_any (w : World) (g len cap : Nat) (ms : List BM) (hb : OwnRow batK w 0 (.slice (some ⟨g, 0, none⟩) len cap) ms) (hml : ms.length = len) (hlen : len ≤ 5000) (P : Nat) (s : Int) (hP : P < w.heap.size) (hg : P ≠ g) (hc : w.cell? ⟨P, 0, none⟩ = some (.int .i64 s)) (kk : Nat) (hk0 : 0 < kk) (hkl : kk ≤ len)
 (hlo : ∀ (i : Nat) (m : BM), ms[i]? = some m → i < kk → m.b.base < s) (hhi : ∀ (i : Nat) (m : BM), ms[i]? = some m → kk ≤ i → s ≤ m.b.base) :
 Calls Tryz.prog 56 #[.slice (some ⟨g, 0, none⟩) len cap, .func (.func 57) #[] #[.pointer (some ⟨P, 0, none⟩)]] w (Struck w g len cap kk ms) := by
 have H := qh hb
 have HML := qh hml
 have HC : Hid (∀ W, w.grownBy W (some g) → W.cell? ⟨P, 0, none⟩ = some (.int .i64 s)) := fun W hW => hW.cell hc (fun e => hg (Option.some.inj e))
 have HLO := qh hlo
 have HHI := qh hhi
 have CI : Hid (Calls Tryz.prog 91 #[.slice (some ⟨g, 0, none⟩) len cap, .func (.func 57) #[] #[.pointer (some ⟨P, 0, none⟩)]] w (GivesI w 0)) := by
  refine mcIndex_any w _ len cap ms (own_at hb hml).1 hlen P s hP hc 0 (.inr ⟨rfl, ?_⟩)
  have h0 : 0 < ms.length := by omega
  exact ⟨ms[0], List.getElem?_eq_getElem h0, hlo 0 _ (List.getElem?_eq_getElem h0) hk0⟩
 have HGS : Hid (g < w.heap.size) := (own_at hb hml).2.1
 have hcap : len ≤ cap := (own_at hb hml).1.fits
 clear hb hml hP hg hc hlo hhi
 go_enter Tryz.func56, Tryz.ntmps56
 go_wp2_with fail
 refine CI.out.mono ?_
 rintro e w1 ⟨rfl, hb1⟩
 have HG1 : Hid (w.grownBy w1 (some g)) := ⟨hb1.os, hb1.tape, hb1.output, hb1.size, fun q hq _ => hb1.block q hq⟩
 have HO1 := qh (H.out.on hb1)
 clear hb1 CI
 go_wp2
 go_loopw [5, 6] (fun v5 v6 wr => ∃ (i j : Nat), v5 = .int .i64 (i : Int) ∧ v6 = .int .i64 (j : Int) ∧ 1 ≤ j ∧ j ≤ len ∧ i = j - kk ∧ Hid (OwnRow batK wr 0 (.slice (some ⟨g, 0, none⟩) len cap) (shiftL ms kk i)) ∧ Hid (w.grownBy wr (some g))) (fun _ v6 _ => len - (intOf v6).toNat)
 case atStart => exact ⟨0, 1, rfl, rfl, Nat.le_refl _, by omega, by omega, by rw [shift_zero]; exact HO1.out, HG1.out⟩
 obtain ⟨i, j, rfl, rfl, hj1, hj, hij, HO, HG⟩ := hrel
 have HIJ := qh hij
 obtain ⟨wo, hwo⟩ := exq wr
 subst hwo
 have HSL : Hid ((shiftL ms kk i).length = len) := by
  show _ = _
  rw [shift_len (by rw [HML.out]; omega), HML.out]
 clear hij
 by_cases hlt : j < len
 rotate_left
 · have hd : decide (j < len) = false := decide_eq_false hlt
   have hik : i < len := by have := HIJ.out; omega
   have HIE : Hid (i = len - kk) := by show _ = _; have := HIJ.out; omega
   have hne : ¬ cap = i := by omega
   have h1 : (i : Int) ≤ (len : Int) := by omega
   have h2 : (i : Int) ≤ (cap : Int) := by omega
   obtain ⟨w9, hclr0, hg9, hr9⟩ := clear_run HO.out HSL.out hik (cap - i) 0
   have hclr : (Builtin.clear_ #[42] 0 #[.slice (some ⟨g, i * 7, none⟩) (len - i) (cap - i)]).run Tryz.prog wo = .ok (.tuple #[]) w9 := hclr0
   clear hclr0
   have HG9 : Hid (w.grownBy w9 (some g)) := grow_chain HG.out hg9
   have HR9 : Hid (RowAt batK w9 (some ⟨g, 0, none⟩) i cap (ms.drop kk)) := by
    show RowAt _ _ _ _ _ _
    have h3 := shift_all (l := ms) (k := kk) (by rw [HML.out]; exact hkl)
    rw [HML.out, ← HIE.out] at h3
    rw [← h3]
    exact hr9
   clear hg9 hr9
   go_wp2
   go_ret
   exact ⟨by rw [← HIE.out]; rfl, by rw [← HIE.out]; exact HR9.out, HG9.out⟩
 have hd : decide (j < len) = true := decide_eq_true hlt
 have hjl : (j : Int) < (len : Int) := by omega
 have hjm : j < ms.length := by rw [HML.out]; exact hlt
 obtain ⟨m, hm⟩ : ∃ m, ms[j]? = some m := ⟨_, List.getElem?_eq_getElem hjm⟩
 have hsm : (shiftL ms kk i)[j]? = some m := by
  have h1 := HIJ.out
  rw [shift_get (by rw [HML.out]; omega) (by omega)]
  exact hm
 obtain ⟨c0, c1, c2, c3, c4, c5, c6⟩ := own_cells HO.out HSL.out hsm
 have HM := qh hm
 clear hm hsm hjm
 go_upto_region 8 with fail
 obtain ⟨W1, hW1⟩ := exq (wo.alloc (.cells #[.int .i64 m.b.base, .int .i64 m.b.prod, .int .i64 m.b.epoch, .int .i64 m.b.seq, .bool m.b.txn, .int .i64 m.b.marker, .slice m.ad m.b.recs.length m.cap] 29))
 obtain ⟨K, hK⟩ := exq wo.heap.size
 have HX1 := bxq hW1 hK
 have hb1 := wbq hW1
 have HO2 := qh (HO.out.on hb1)
 have HG2 : Hid (w.grownBy W1 (some g)) := grow_below HG.out hb1
 have HKG : Hid (g ≠ K) := by show g ≠ K; have h1 := HGS.out; have h2 := HG.out.size; rw [hK]; omega
 rw [← hW1, ← hK]
 clear hW1 hK hb1 c0 c1 c2 c3 c4 c5 c6 HO HG
 obtain ⟨t, ht⟩ : ∃ t, decide (m.b.base < s) = t := ⟨_, rfl⟩
 have HT := qh ht
 have CL := mcClos_any W1 m.b.base m.b.prod m.b.epoch m.b.seq m.b.txn m.b.marker m.ad m.b.recs.length m.cap P s (HC.out W1 HG2.out)
 rw [ht] at CL
 have HCL := qh CL
 clear CL ht
 obtain ⟨p0, p1, p2, p3, p4, p5, p6⟩ := HX1.out.cs
 go_wp2_with fail
 refine HCL.out.mono ?_
 rintro e w2 ⟨rfl, hb2⟩
 have HX3 := qh (HX1.out.on hb2)
 have HO3 := qh (HO2.out.on hb2)
 have HG3 : Hid (w.grownBy w2 (some g)) := grow_below HG2.out hb2
 clear hb2 HCL p0 p1 p2 p3 p4 p5 p6 HX1 HO2 HG2
 cases t with
 | true =>
   have HTS : Hid (m.b.base < s) := by show m.b.base < s; exact of_decide_eq_true HT.out
   have HJK : Hid (j < kk) := by
    show j < kk
    rcases Nat.lt_or_ge j kk with h1 | h1
    · exact h1
    have := HHI.out j m HM.out h1
    have := HTS.out
    omega
   go_wp2
   go_roundw
   case rel => exact ⟨i, j + 1, rfl, rfl, by omega, hlt, by have := HIJ.out; have := HJK.out; omega, HO3.out, HG3.out⟩
   simp [intOf]; omega
 | false =>
   have HTS : Hid (¬ m.b.base < s) := by show ¬ m.b.base < s; exact of_decide_eq_false HT.out
   have HJK : Hid (kk ≤ j) := by
    show kk ≤ j
    rcases Nat.lt_or_ge j kk with h1 | h1
    · exact absurd (HLO.out j m HM.out h1) HTS.out
    exact h1
   have hik : i < len := by have := HIJ.out; have := HJK.out; omega
   have hil : (i : Int) < (len : Int) := by omega
   obtain ⟨m0, hm0⟩ : ∃ m0, (shiftL ms kk i)[i]? = some m0 := ⟨_, List.getElem?_eq_getElem (by rw [HSL.out]; exact hik)⟩
   obtain ⟨c0, c1, c2, c3, c4, c5, c6⟩ := own_cells HO3.out HSL.out hm0
   have hfz := (own_at HO3.out HSL.out).2.2.2 (by omega)
   have f0 := hfz (i * 7)
   have f1 := hfz (i * 7 + 1)
   have f2 := hfz (i * 7 + 2)
   have f3 := hfz (i * 7 + 3)
   have f4 := hfz (i * 7 + 4)
   have f5 := hfz (i * 7 + 5)
   have f6 := hfz (i * 7 + 6)
   have hput := own_put7 HO3.out HSL.out hm0 m
   rw [shift_set (by rw [HML.out]; have := HIJ.out; have := HJK.out; omega) (by rw [show i + kk = j by have := HIJ.out; have := HJK.out; omega]; exact HM.out)] at hput
   have HPUT := qh hput
   clear hput hfz hm0
   obtain ⟨p0, p1, p2, p3, p4, p5, p6⟩ := HX3.out.cs
   go_upto_region 10 with fail
   obtain ⟨w3, hw3⟩ : ∃ y, y = ((((((w2.setCell ⟨g, i * 7, none⟩ (.int .i64 m.b.base)).setCell ⟨g, i * 7 + 1, none⟩ (.int .i64 m.b.prod)).setCell ⟨g, i * 7 + 2, none⟩ (.int .i64 m.b.epoch)).setCell ⟨g, i * 7 + 3, none⟩ (.int .i64 m.b.seq)).setCell ⟨g, i * 7 + 4, none⟩ (.bool m.b.txn)).setCell ⟨g, i * 7 + 5, none⟩ (.int .i64 m.b.marker)).setCell ⟨g, i * 7 + 6, none⟩ (.slice m.ad m.b.recs.length m.cap) := ⟨_, rfl⟩
   rw [← hw3] at HPUT
   rw [← hw3]
   have HO4 := qh HPUT.out.1
   have HG4 : Hid (w.grownBy w3 (some g)) := grow_chain HG3.out HPUT.out.2
   have HIK : Hid (i + 1 = j + 1 - kk) := by show _ = _; have := HIJ.out; have := HJK.out; omega
   clear hw3 HPUT c0 c1 c2 c3 c4 c5 c6 f0 f1 f2 f3 f4 f5 f6 p0 p1 p2 p3 p4 p5 p6 HO3 HG3 HX3
   go_wp2
   go_roundw
   case rel => exact ⟨i + 1, j + 1, rfl, rfl, by omega, hlt, HIK.out, HO4.out, HG4.out⟩
   simp [intOf]; omega
theorem mcStrike0_any (w : World) (ad : Option Addr) (len cap : Nat) (ms : List BM) (hb : RowAt batK w ad len cap ms) (hlen : len ≤ 5000) (P : Nat) (s : Int) (hP : P < w.heap.size) (hc : w.cell? ⟨P, 0, none⟩ = some (.int .i64 s)) (hhi : ∀ (i : Nat) (m : BM), ms[i]? = some m → s ≤ m.b.base) :
 Calls Tryz.prog 56 #[.slice ad len cap, .func (.func 57) #[] #[.pointer (some ⟨P, 0, none⟩)]] w (fun e w' => e = .returned (.slice ad len cap) ∧ Below w.heap.size w w') := by
 have CI : Hid (Calls Tryz.prog 91 #[.slice ad len cap, .func (.func 57) #[] #[.pointer (some ⟨P, 0, none⟩)]] w (GivesI w (-1))) := mcIndex_any w ad len cap ms hb hlen P s hP hc (-1) (.inl ⟨rfl, hhi⟩)
 clear hb hP hc hhi
 go_enter Tryz.func56, Tryz.ntmps56
 go_wp2_with fail
 refine CI.out.mono ?_
 rintro e w1 ⟨rfl, hb1⟩
 have HB1 := qh hb1
 clear hb1 CI
 go_wp2
 go_ret
 exact ⟨rfl, HB1.out⟩
theorem McL.at_len {w : World} {ad : Option Addr} {len cap : Nat} {ms : List BM} (h : McL w (.slice ad len cap) ms) (hl : ms.length = len) : RowAt batK w ad len cap ms := by
 obtain ⟨ad', cap', e, h1, _⟩ := h.own.at batK_ok
 injection e with e1 e2 e3
 subst e1 e3
 rw [← hl]
 exact h1
theorem McL.own_blk {w : World} {ad : Option Addr} {len cap : Nat} {ms : List BM} (h : McL w (.slice ad len cap) ms) (h0 : 0 < len) : ∃ g, ad = some ⟨g, 0, none⟩ ∧ Hid (∀ q, (Value.slice ad len cap).ownBlock = some q ↔ q = g) := by
 rcases h.own.2 with ⟨e, e0⟩ | ⟨g, cp, cur, e, _⟩
 · injection e with e1 e2 e3
   omega
 injection e with e1 e2 e3
 refine ⟨g, e1, fun q => ?_⟩
 rw [e1]
 constructor
 · intro hq; cases hq; rfl
 intro hq; rw [hq]; rfl
def IBox (w : World) (P : Nat) (n : Int) : Prop := w.heap[P]? = some (.cells #[.int .i64 n] 2 (0, 0))
section
variable {w w' : World} {P : Nat} {n : Int}
theorem IBox.c0 (h : IBox w P n) : w.cell? ⟨P, 0, none⟩ = some (.int .i64 n) := by rw [cell_of_row _ _ 0 _ _ _ h]; rfl
theorem IBox.free (h : IBox w P n) (j : Nat) : w.frozen? ⟨P, j, none⟩ = false := frozen_of_row w P j _ _ h
theorem IBox.lt (h : IBox w P n) : P < w.heap.size := lt_of_block h
theorem IBox.same (h : IBox w P n) (he : w'.heap[P]? = w.heap[P]?) : IBox w' P n := he.trans h
theorem IBox.on (h : IBox w P n) (hb : Below w.heap.size w w') : IBox w' P n := h.same (hb.block P h.lt)
theorem IBox.s0 (h : IBox w P n) (m : Int) : IBox (w.setCell ⟨P, 0, none⟩ (.int .i64 m)) P m := box_set h 0 _
end
theorem mcKeep_any (F : Nat → Prop) (w : World) (k kt km : Nat) (v : Value) (ms : List BM) (ps : List PM) (c s : Int) (h : McAt w k kt km v ms ps c s) (hF : ∀ j, F j ↔ McFoot k kt km v ms ps j) (hr : LogRow s (bats ms)) (fr : Int) :
 Calls Tryz.prog 27 #[.pointer (some ⟨k, 0, none⟩), .int .i64 fr] w (LTurns McR F w ⟨k, 0, none⟩ c (keepD s fr (bats ms)).1 (keepD s fr (bats ms)).2 (.int .i64 (keepD s fr (bats ms)).1)) := by
 obtain ⟨ad, cap, rfl, hb, hfl⟩ := h.list.at
 have H := qh h
 have HR := qh hr
 have hf := hr.few
 rw [bats_length] at hf
 obtain ⟨bs, hbs⟩ := exq (bats ms)
 obtain ⟨len, hlen⟩ := exq ms.length
 rw [← hlen] at hf hb
 have HBX := qh h.box
 rw [← hlen] at HBX
 have HB := qh hb
 have HFL := qh hfl
 have HLEN := qh hlen
 have HBL : Hid (bs.length = len) := by show _ = _; rw [hbs, bats_length, hlen]
 have HGET : Hid (∀ (i : Nat) m, ms[i]? = some m → bs[i]? = some m.b) := by
  intro i m hm
  rw [hbs]; unfold bats
  rw [List.getElem?_map, hm]; rfl
 have HBN : Hid (∀ (i : Nat) (m : BM), ms[i]? = some m → m.b.base = baseD s bs i) := fun i m hm => (baseD_at (HGET.out i m hm)).symm
 have HBD : Hid (∀ b ∈ bs, 0 ≤ b.base ∧ b.base ≤ 1099511627776) := fun b hb => by
  rw [hbs] at hb
  have h1 := (rowW_bases hr.row).2.1 b hb
  have h2 := hr.end_
  have h3 := hr.lo
  omega
 obtain ⟨st, hst⟩ := exq (stableD s bs)
 obtain ⟨en, hen⟩ := exq (endD s bs)
 obtain ⟨top, htp⟩ : ∃ e, min fr st = e := ⟨_, rfl⟩
 have HENB : Hid (0 ≤ en ∧ en ≤ 1099511627776) := by show _ ∧ _; rw [hen, hbs]; exact hr.end_
 have HSB : Hid (0 ≤ s ∧ s ≤ 1099511627776) := ⟨hr.lo, hr.hi⟩
 obtain ⟨kk, hkk⟩ := exq (keepN s fr bs)
 have HKL : Hid (kk ≤ len) := by show _ ≤ _; rw [hkk, ← HBL.out]; exact keepAt_le _ _ _ _
 obtain ⟨fin, hfin⟩ := exq (baseD s bs kk)
 have HFIN : Hid ((if en ≤ top then en else foldK top s bs) = fin) := by
  show _ = _
  rw [hfin, hkk, hen, ← htp, hst]
  exact keep_fin (by rw [hbs]; exact hr.row)
 have HKD : Hid (keepD s fr bs = (fin, bs.drop kk)) := by
  show _ = _
  rw [hfin, hkk]
  exact keep_is (by rw [hbs]; exact hr.row)
 have HLO : Hid (∀ (i : Nat) (m : BM), ms[i]? = some m → i < kk → m.b.base < fin) := fun i m hm hi => by
  rw [HBN.out i m hm, hfin]
  exact baseD_lt (by rw [hbs]; exact hr.row) hi (by rw [HBL.out]; exact HKL.out)
 have HHI : Hid (∀ (i : Nat) (m : BM), ms[i]? = some m → kk ≤ i → fin ≤ m.b.base) := fun i m hm hi => by
  rw [HBN.out i m hm, hfin]
  have h1 := (List.getElem?_eq_some_iff.1 hm).1
  exact baseD_le (by rw [hbs]; exact hr.row) hi (by rw [HBL.out]; omega)
 have CST : Hid (∀ W, Below w.heap.size w W → Calls Tryz.prog 54 #[.int .i64 s, .slice ad len cap] W (GivesI W st)) := fun W hW => by
  rw [hst, hbs]
  exact fcStable_any W s ad len cap ms (hb.keep hW) hf hr.fo
 have CEN : Hid (∀ W, Below w.heap.size w W → Calls Tryz.prog 19 #[.pointer (some ⟨k, 0, none⟩)] W (GivesI W en)) := fun W hW => by
  rw [hen, hbs]
  exact mcEnd_any W k kt km _ ms ps c s (h.on hW) hr
 have HRO : Hid (RowOk bs) := by rw [hbs]; exact hr.ok
 have HBS : Hid (bats ms = bs) := hbs.symm
 rw [← hbs]
 clear h hr hb hfl hlen hbs hst hen hkk hfin
 have htp2 : (if st < fr then st else fr) = top := by rw [← htp]; split <;> omega
 go_enter Tryz.func27, Tryz.ntmps27
 go_upto_region 1 with fail
 have KS : Hid (∀ V, Below w.heap.size w V → (fun (V : World) => V.cell? ⟨k, 1, none⟩ = some (.int .i64 s) ∧ V.cell? ⟨k, 2, none⟩ = some (.slice ad len cap)) V) := fun V hV => ⟨(HBX.out.on hV).c1, (HBX.out.on hV).c2⟩
 refine zs [] KS fun u0 HU0 hHeld => ?_
 refine zt 0 ?_
 refine zt 1 ?_
 refine zt 2 ?_
 refine zt 3 ?_
 refine zt 4 ?_
 refine zt 5 ?_
 refine zt 6 ?_
 refine zt 7 ?_
 refine zt 8 ?_
 refine zr 9 (fun C hC => ?_)
 go_simp
 refine (CST.out u0 HU0.out).mono ?_
 rintro e u1 ⟨rfl, hb⟩
 have HU1 := qh (HU0.out.trans (hb.mono HU0.out.size))
 clear hb
 have hHeld := KS.out _ HU1.out
 refine zc hC hHeld ?_
 clear hC C
 refine zt 10 ?_
 refine zt 11 ?_
 refine zd ?_
 clear hHeld KS HU0
 clear htp htp2
 have q1 := (HBX.out.on HU1.out).c1
 go_upto_region 3 with fail
 obtain ⟨w3, hw3⟩ := exq (u1.alloc (.cells #[.int .i64 s] 2))
 obtain ⟨P, hP⟩ := exq u1.heap.size
 have hb3 := wbq hw3
 have HI3 : Hid (IBox w3 P s) := by rw [hw3, hP]; exact heap_alloc_new u1 _
 have HB3 := qh (HU1.out.trans (hb3.mono HU1.out.size))
 have HPW : Hid (w.heap.size ≤ P) := by show _ ≤ _; rw [hP]; exact HU1.out.size
 rw [← hw3, ← hP]
 clear hw3 hP hb3 q1 HU1
 have q2 := (HBX.out.on HB3.out).c2
 go_wp2
 clear q2
 go_loopw [30] (fun v30 wr => ∃ (j : Nat), v30 = .int .i64 (j : Int) ∧ j ≤ len ∧ Hid (IBox wr P (foldK top s (bs.take j))) ∧ Hid (Below w.heap.size w wr)) (fun v30 _ => len - (intOf v30).toNat)
 case atStart => exact ⟨0, rfl, Nat.zero_le _, HI3.out, HB3.out⟩
 obtain ⟨j, rfl, hj, HI, HBR⟩ := hrel
 obtain ⟨wo, hwo⟩ := exq wr
 subst hwo
 clear HI3 HB3
 by_cases hlt : j < len
 · have hd : decide (j < len) = true := decide_eq_true hlt
   have hjl : (j : Int) < (len : Int) := by omega
   obtain ⟨bk, off, m, e, hbk, hm, hrec, c0, c1, c2, c3, c4, c5, c6⟩ := (HB.out.keep HBR.out).get hlt
   subst e
   have HSTP : Hid (foldK top s (bs.take (j + 1)) = stepK top (foldK top s (bs.take j)) m.b) := by
    show _ = _
    rw [List.take_add_one, HGET.out j m hm]
    exact foldK_snoc _ _ _ _
   obtain ⟨sj, hsj⟩ := exq (foldK top s (bs.take j))
   rw [← hsj] at HI HSTP
   clear hm hrec hbk hsj
   go_upto_region 6 with fail
   obtain ⟨W1, hW1⟩ := exq (wo.alloc (.cells #[.int .i64 m.b.base, .int .i64 m.b.prod, .int .i64 m.b.epoch, .int .i64 m.b.seq, .bool m.b.txn, .int .i64 m.b.marker, .slice m.ad m.b.recs.length m.cap] 29))
   obtain ⟨K, hK⟩ := exq wo.heap.size
   have HX1 := bxq hW1 hK
   have hb1 := wbq hW1
   have HI1 := qh (HI.out.on hb1)
   have HB1 := qh (HBR.out.trans (hb1.mono HBR.out.size))
   rw [← hW1, ← hK]
   clear hW1 hK hb1 c0 c1 c2 c3 c4 c5 c6 HI HBR
   obtain ⟨bb, hbb⟩ := exq m.b.base
   have HSTP2 : Hid (stepK top sj m.b = if bb ≤ top then max sj bb else sj) := by show _ = _; unfold stepK; rw [hbb]
   have p0 := HX1.out.c0
   rw [← hbb] at p0
   clear hbb
   by_cases hle : bb ≤ top
   rotate_left
   · have hdl : decide (bb ≤ top) = false := decide_eq_false hle
     have HSN : Hid (foldK top s (bs.take (j + 1)) = sj) := by show _ = _; rw [HSTP.out, HSTP2.out, if_neg hle]
     clear hle HSTP HSTP2
     go_wp2
     go_roundw
     case rel => exact ⟨j + 1, rfl, hlt, by rw [HSN.out]; exact HI1.out, HB1.out⟩
     simp [intOf]; omega
   have hdl : decide (bb ≤ top) = true := decide_eq_true hle
   obtain ⟨sn, hsn⟩ : ∃ y, max sj bb = y := ⟨_, rfl⟩
   have hsn2 : (if sj < bb then bb else sj) = sn := by rw [← hsn]; split <;> omega
   have HSN : Hid (foldK top s (bs.take (j + 1)) = sn) := by show _ = _; rw [HSTP.out, HSTP2.out, if_pos hle, hsn]
   have i0 := HI1.out.c0
   have g0 := HI1.out.free 0
   clear hle HSTP HSTP2
   go_upto_region 8 with fail
   obtain ⟨W2, hW2⟩ := exq (W1.setCell ⟨P, 0, none⟩ (.int .i64 sn))
   have HI2 : Hid (IBox W2 P sn) := by rw [hW2]; exact HI1.out.s0 sn
   have HB2 : Hid (Below w.heap.size w W2) := by rw [hW2]; exact HB1.out.setCell HPW.out _
   rw [← hW2]
   clear hW2 i0 g0 p0 hsn hsn2 HI1 HB1 HX1
   go_wp2
   go_roundw
   case rel => exact ⟨j + 1, rfl, hlt, by rw [HSN.out]; exact HI2.out, HB2.out⟩
   simp [intOf]; omega
 have hd : decide (j < len) = false := decide_eq_false hlt
 have HALL : Hid (bs.take j = bs) := by show _ = _; exact List.take_of_length_le (by have := HBL.out; omega)
 rw [HALL.out] at HI
 clear HALL
 go_wp2_with fail
 refine (CEN.out wo HBR.out).mono ?_
 rintro e w9 ⟨rfl, hb9⟩
 have HI9 := qh (HI.out.on hb9)
 have HB9 := qh (HBR.out.trans (hb9.mono HBR.out.size))
 clear hb9 HI HBR CEN CST
 obtain ⟨fk, hfk⟩ := exq (foldK top s bs)
 rw [← hfk] at HI9 HFIN
 clear hfk
 have HKW : Hid (k < w.heap.size) := H.out.box.lt
 by_cases hle : en ≤ top
 · have hdl : decide (en ≤ top) = true := decide_eq_true hle
   have HFE : Hid (en = fin) := by have h1 := HFIN.out; rw [if_pos hle] at h1; exact h1
   have i0 := HI9.out.c0
   have g0 := HI9.out.free 0
   clear hle
   go_upto_region 12 with fail
   obtain ⟨W2, hW2⟩ := exq (w9.setCell ⟨P, 0, none⟩ (.int .i64 en))
   have HIX : Hid (IBox W2 P fin) := by rw [hW2, ← HFE.out]; exact HI9.out.s0 en
   have HBX12 : Hid (Below w.heap.size w W2) := by rw [hW2]; exact HB9.out.setCell HPW.out _
   rw [← hW2]
   clear hW2 i0 g0 HI9 HB9 HFE
   have i0 := HIX.out.c0
   have q1 := (HBX.out.on HBX12.out).c1
   have f1 := (HBX.out.on HBX12.out).free 1
   go_upto_region 13 with fail
   obtain ⟨w12, hw12⟩ := exq (W2.setCell ⟨k, 1, none⟩ (.int .i64 fin))
   have HBX2 : Hid (McBox w12 k c fin (.slice ad len cap) kt (bytesD (bats ms))) := by rw [hw12]; exact (HBX.out.on HBX12.out).s1 fin
   have HPK : Hid (P ≠ k) := by show P ≠ k; have h1 := HKW.out; have h2 := HPW.out; omega
   have HI12 : Hid (IBox w12 P fin) := by rw [hw12]; exact box_off HIX.out HPK.out.symm _
   have HK12 : Hid (Kept w w12 (fun j => j = k)) := by
    show Kept _ _ _
    rw [hw12]
    exact (Kept.of_below (F := fun j => j = k) HBX12.out).trans (Kept.of_grown (F := fun j => j = k) (grow_one _ _ _ _) (.inl rfl)) fun j hj => .inl hj
   have HLI : Hid (McL w12 (.slice ad len cap) ms) := by
    have h1 := H.out.list
    rw [← HLEN.out] at h1
    exact h1.kept HK12.out fun j hj e => by
     rw [HLEN.out] at hj
     exact H.out.kL (by rw [← e]; exact hj)
   rw [← hw12]
   clear hw12 i0 q1 f1 HIX HBX12
   have HAK : Hid (∀ a, ad = some a → a.block ≠ k) := fun a ha e => by
    have h1 := HFL.out a ha
    rw [e] at h1
    exact H.out.kL h1
   have HOK : Hid (∀ m ∈ ms.drop kk, ∀ a, m.ad = some a → a.block < w.heap.size ∧ a.block ≠ k) := fun m hm a ha => by
    have hm2 := List.mem_of_mem_drop hm
    exact ⟨(H.out.list.old m hm2 a ha).1, fun e => H.out.kL (.inr ⟨m, hm2, a, ha, e⟩)⟩
   have HRK : Hid (RowOk (bats (ms.drop kk))) := by
    have e : bats (ms.drop kk) = (bats ms).drop kk := by unfold bats; rw [List.map_drop]
    rw [e, HBS.out]
    exact fun b hb => HRO.out b (List.mem_of_mem_drop hb)
   have HBT : Hid (bats (ms.drop kk) = bs.drop kk) := by show _ = _; rw [← HBS.out]; unfold bats; rw [List.map_drop]
   have q2 := HBX2.out.c2
   go_wp2_with fail
   rcases Nat.eq_zero_or_pos kk with hk0 | hk0
   · have CD := mcStrike0_any w12 ad len cap ms (HLI.out.at_len HLEN.out.symm) hf P fin HI12.out.lt HI12.out.c0 (fun i m hm => HHI.out i m hm (by omega))
     refine CD.mono ?_
     clear CD
     rintro e w13 ⟨rfl, hb13⟩
     have HB13 := qh hb13
     have HBX3 := qh (HBX2.out.on hb13)
     have HI13 := qh (HI12.out.on hb13)
     have HL13 := qh (HLI.out.on hb13)
     have HKZ0 := qh hk0
     clear hb13 hk0 q2
     go_wp2_with fail
     have e0 : ms.drop kk = ms := by rw [HKZ0.out, List.drop_zero]
     refine (mcHold_any w13 k kt _ c fin _ HBX3.out ad len cap (ms.drop kk) (by rw [e0]; exact ⟨HL13.out.at_len HLEN.out.symm, HL13.out.ins⟩) hf HRK.out (fun m hm a ha => ⟨Nat.lt_of_lt_of_le (HOK.out m hm a ha).1 (Nat.le_trans HK12.out.size HB13.out.size), (HOK.out m hm a ha).2⟩) HAK.out H.out.cap).mono ?_
     clear e0
     rintro e w14 ⟨rfl, v', kt', km', ps', hm, hk, hv, ht⟩
     have HM := qh hm
     have HK14 : Hid (Kept w w14 (fun j => j = k)) := (HK12.out.trans (Kept.of_below (F := fun j => j = k) HB13.out) fun j hj => .inl hj).trans hk fun j hj => .inl hj
     have HI14 : Hid (IBox w14 P fin) := HI13.out.same (hk.block P HI13.out.lt HPK.out)
     have HSZ : Hid (w.heap.size ≤ w13.heap.size) := Nat.le_trans HK12.out.size HB13.out.size
     have HVN : Hid (∀ j, v'.ownBlock = some j → w.heap.size ≤ j) := fun j hj => Nat.le_trans HSZ.out (hv j hj)
     have HTN : Hid (∀ j, FootT kt' km' ps' j → w.heap.size ≤ j) := fun j hj => Nat.le_trans HSZ.out (ht j hj)
     clear hm hk hv ht HBX3 HI13 HL13 HB13
     have i0 := HI14.out.c0
     go_wp2
     go_ret
     rw [HKD.out]
     refine turns_mk hF (kt' := kt') (km' := km') (ps' := ps') HM.out HBT.out (HK14.out.more fun j hj => .inl hj) fun j hj => ?_
     rcases hj with h1 | (h1 | ⟨m, hm, a, ha, e⟩) | h1
     · exact .inl (.inl h1)
     · exact .inr (HVN.out j h1)
     · exact .inl (.inr (.inl (.inr ⟨m, List.mem_of_mem_drop hm, a, ha, e⟩)))
     exact .inr (HTN.out j h1)
   obtain ⟨g, hg, HGK⟩ : ∃ g, ad = some ⟨g, 0, none⟩ ∧ Hid (∀ q, (Value.slice ad len cap).ownBlock = some q ↔ q = g) := HLI.out.own_blk (by have := HKL.out; omega)
   have HG0 : Hid (ad = some ⟨g, 0, none⟩) := hg
   have HGW : Hid (FootL (.slice ad ms.length cap) ms g) := by
    have h1 := HFL.out ⟨g, 0, none⟩ hg
    exact h1
   have HPG : Hid (P ≠ g) := by
    show P ≠ g
    have h1 := H.out.list.lt HGW.out
    have h2 := HPW.out
    omega
   have CD := mcStrike_any w12 g len cap ms (by rw [← hg]; exact HLI.out.own) HLEN.out.symm hf P fin HI12.out.lt HPG.out HI12.out.c0 kk hk0 HKL.out HLO.out HHI.out
   rw [← hg] at CD
   refine CD.mono ?_
   clear CD
   rintro e w13 ⟨rfl, hr13, hg13⟩
   have HKG : Hid (Kept w12 w13 (fun j => j = g)) := Kept.of_grown hg13 (.inl rfl)
   have HGNK : Hid (g ≠ k) := fun e => H.out.kL (by rw [← e]; exact HGW.out)
   have HBX3 : Hid (McBox w13 k c fin (.slice ad len cap) kt (bytesD (bats ms))) := HBX2.out.same (HKG.out.block k HBX2.out.lt HGNK.out.symm)
   have HI13 : Hid (IBox w13 P fin) := HI12.out.same (HKG.out.block P HI12.out.lt HPG.out)
   have HBA : Hid (BatsAt w13 (some ⟨g, 0, none⟩) (len - kk) cap (ms.drop kk)) := ⟨hr13, fun m hm => RecsAt.kept HKG.out (HLI.out.ins m (List.mem_of_mem_drop hm)) fun a ha e => (HLI.out.old m (List.mem_of_mem_drop hm) a ha).2 ((HGK.out _).2 e)⟩
   clear hr13 hg13 hg hk0 q2
   go_wp2_with fail
   refine (mcHold_any w13 k kt _ c fin _ HBX3.out (some ⟨g, 0, none⟩) (len - kk) cap (ms.drop kk) HBA.out (by omega) HRK.out (fun m hm a ha => ⟨Nat.lt_of_lt_of_le (HOK.out m hm a ha).1 (Nat.le_trans HK12.out.size HKG.out.size), (HOK.out m hm a ha).2⟩) (fun a ha => by cases ha; exact HGNK.out) H.out.cap).mono ?_
   rintro e w14 ⟨rfl, v', kt', km', ps', hm, hk, hv, ht⟩
   have HM := qh hm
   have HK14 : Hid (Kept w w14 (McFoot k kt km (.slice ad ms.length cap) ms ps)) := ((HK12.out.more (G := McFoot k kt km (.slice ad ms.length cap) ms ps) fun j hj => .inl hj).trans (HKG.out.more (G := McFoot k kt km (.slice ad ms.length cap) ms ps) fun j hj => .inr (.inl (by rw [hj]; exact HGW.out))) fun j hj => .inl hj).trans (hk.more (G := McFoot k kt km (.slice ad ms.length cap) ms ps) fun j hj => .inl hj) fun j hj => .inl hj
   have HI14 : Hid (IBox w14 P fin) := HI13.out.same (hk.block P HI13.out.lt HPK.out)
   have HSZ : Hid (w.heap.size ≤ w13.heap.size) := Nat.le_trans HK12.out.size HKG.out.size
   have HVN : Hid (∀ j, v'.ownBlock = some j → w.heap.size ≤ j) := fun j hj => Nat.le_trans HSZ.out (hv j hj)
   have HTN : Hid (∀ j, FootT kt' km' ps' j → w.heap.size ≤ j) := fun j hj => Nat.le_trans HSZ.out (ht j hj)
   clear hm hk hv ht HBX3 HI13 HBA HKG
   have i0 := HI14.out.c0
   go_wp2
   go_ret
   rw [HKD.out]
   refine turns_mk hF (kt' := kt') (km' := km') (ps' := ps') HM.out HBT.out HK14.out fun j hj => ?_
   rcases hj with h1 | (h1 | ⟨m, hm, a, ha, e⟩) | h1
   · exact .inl (.inl h1)
   · exact .inr (HVN.out j h1)
   · exact .inl (.inr (.inl (.inr ⟨m, List.mem_of_mem_drop hm, a, ha, e⟩)))
   exact .inr (HTN.out j h1)
 have hdl : decide (en ≤ top) = false := decide_eq_false hle
 have HFE : Hid (fk = fin) := by have h1 := HFIN.out; rw [if_neg hle] at h1; exact h1
 clear hle
 go_upto_region 12 with fail
 obtain ⟨W2, hW2⟩ := exq w9
 have HIX : Hid (IBox W2 P fin) := by rw [hW2, ← HFE.out]; exact HI9.out
 have HBX12 : Hid (Below w.heap.size w W2) := by rw [hW2]; exact HB9.out
 rw [← hW2]
 clear hW2 HI9 HB9 HFE
 have i0 := HIX.out.c0
 have q1 := (HBX.out.on HBX12.out).c1
 have f1 := (HBX.out.on HBX12.out).free 1
 go_upto_region 13 with fail
 obtain ⟨w12, hw12⟩ := exq (W2.setCell ⟨k, 1, none⟩ (.int .i64 fin))
 have HBX2 : Hid (McBox w12 k c fin (.slice ad len cap) kt (bytesD (bats ms))) := by rw [hw12]; exact (HBX.out.on HBX12.out).s1 fin
 have HPK : Hid (P ≠ k) := by show P ≠ k; have h1 := HKW.out; have h2 := HPW.out; omega
 have HI12 : Hid (IBox w12 P fin) := by rw [hw12]; exact box_off HIX.out HPK.out.symm _
 have HK12 : Hid (Kept w w12 (fun j => j = k)) := by
  show Kept _ _ _
  rw [hw12]
  exact (Kept.of_below (F := fun j => j = k) HBX12.out).trans (Kept.of_grown (F := fun j => j = k) (grow_one _ _ _ _) (.inl rfl)) fun j hj => .inl hj
 have HLI : Hid (McL w12 (.slice ad len cap) ms) := by
  have h1 := H.out.list
  rw [← HLEN.out] at h1
  exact h1.kept HK12.out fun j hj e => by
   rw [HLEN.out] at hj
   exact H.out.kL (by rw [← e]; exact hj)
 rw [← hw12]
 clear hw12 i0 q1 f1 HIX HBX12
 have HAK : Hid (∀ a, ad = some a → a.block ≠ k) := fun a ha e => by
  have h1 := HFL.out a ha
  rw [e] at h1
  exact H.out.kL h1
 have HOK : Hid (∀ m ∈ ms.drop kk, ∀ a, m.ad = some a → a.block < w.heap.size ∧ a.block ≠ k) := fun m hm a ha => by
  have hm2 := List.mem_of_mem_drop hm
  exact ⟨(H.out.list.old m hm2 a ha).1, fun e => H.out.kL (.inr ⟨m, hm2, a, ha, e⟩)⟩
 have HRK : Hid (RowOk (bats (ms.drop kk))) := by
  have e : bats (ms.drop kk) = (bats ms).drop kk := by unfold bats; rw [List.map_drop]
  rw [e, HBS.out]
  exact fun b hb => HRO.out b (List.mem_of_mem_drop hb)
 have HBT : Hid (bats (ms.drop kk) = bs.drop kk) := by show _ = _; rw [← HBS.out]; unfold bats; rw [List.map_drop]
 have q2 := HBX2.out.c2
 go_wp2_with fail
 rcases Nat.eq_zero_or_pos kk with hk0 | hk0
 · have CD := mcStrike0_any w12 ad len cap ms (HLI.out.at_len HLEN.out.symm) hf P fin HI12.out.lt HI12.out.c0 (fun i m hm => HHI.out i m hm (by omega))
   refine CD.mono ?_
   clear CD
   rintro e w13 ⟨rfl, hb13⟩
   have HB13 := qh hb13
   have HBX3 := qh (HBX2.out.on hb13)
   have HI13 := qh (HI12.out.on hb13)
   have HL13 := qh (HLI.out.on hb13)
   have HKZ0 := qh hk0
   clear hb13 hk0 q2
   go_wp2_with fail
   have e0 : ms.drop kk = ms := by rw [HKZ0.out, List.drop_zero]
   refine (mcHold_any w13 k kt _ c fin _ HBX3.out ad len cap (ms.drop kk) (by rw [e0]; exact ⟨HL13.out.at_len HLEN.out.symm, HL13.out.ins⟩) hf HRK.out (fun m hm a ha => ⟨Nat.lt_of_lt_of_le (HOK.out m hm a ha).1 (Nat.le_trans HK12.out.size HB13.out.size), (HOK.out m hm a ha).2⟩) HAK.out H.out.cap).mono ?_
   clear e0
   rintro e w14 ⟨rfl, v', kt', km', ps', hm, hk, hv, ht⟩
   have HM := qh hm
   have HK14 : Hid (Kept w w14 (fun j => j = k)) := (HK12.out.trans (Kept.of_below (F := fun j => j = k) HB13.out) fun j hj => .inl hj).trans hk fun j hj => .inl hj
   have HI14 : Hid (IBox w14 P fin) := HI13.out.same (hk.block P HI13.out.lt HPK.out)
   have HSZ : Hid (w.heap.size ≤ w13.heap.size) := Nat.le_trans HK12.out.size HB13.out.size
   have HVN : Hid (∀ j, v'.ownBlock = some j → w.heap.size ≤ j) := fun j hj => Nat.le_trans HSZ.out (hv j hj)
   have HTN : Hid (∀ j, FootT kt' km' ps' j → w.heap.size ≤ j) := fun j hj => Nat.le_trans HSZ.out (ht j hj)
   clear hm hk hv ht HBX3 HI13 HL13 HB13
   have i0 := HI14.out.c0
   go_wp2
   go_ret
   rw [HKD.out]
   refine turns_mk hF (kt' := kt') (km' := km') (ps' := ps') HM.out HBT.out (HK14.out.more fun j hj => .inl hj) fun j hj => ?_
   rcases hj with h1 | (h1 | ⟨m, hm, a, ha, e⟩) | h1
   · exact .inl (.inl h1)
   · exact .inr (HVN.out j h1)
   · exact .inl (.inr (.inl (.inr ⟨m, List.mem_of_mem_drop hm, a, ha, e⟩)))
   exact .inr (HTN.out j h1)
 obtain ⟨g, hg, HGK⟩ : ∃ g, ad = some ⟨g, 0, none⟩ ∧ Hid (∀ q, (Value.slice ad len cap).ownBlock = some q ↔ q = g) := HLI.out.own_blk (by have := HKL.out; omega)
 have HG0 : Hid (ad = some ⟨g, 0, none⟩) := hg
 have HGW : Hid (FootL (.slice ad ms.length cap) ms g) := by
  have h1 := HFL.out ⟨g, 0, none⟩ hg
  exact h1
 have HPG : Hid (P ≠ g) := by
  show P ≠ g
  have h1 := H.out.list.lt HGW.out
  have h2 := HPW.out
  omega
 have CD := mcStrike_any w12 g len cap ms (by rw [← hg]; exact HLI.out.own) HLEN.out.symm hf P fin HI12.out.lt HPG.out HI12.out.c0 kk hk0 HKL.out HLO.out HHI.out
 rw [← hg] at CD
 refine CD.mono ?_
 clear CD
 rintro e w13 ⟨rfl, hr13, hg13⟩
 have HKG : Hid (Kept w12 w13 (fun j => j = g)) := Kept.of_grown hg13 (.inl rfl)
 have HGNK : Hid (g ≠ k) := fun e => H.out.kL (by rw [← e]; exact HGW.out)
 have HBX3 : Hid (McBox w13 k c fin (.slice ad len cap) kt (bytesD (bats ms))) := HBX2.out.same (HKG.out.block k HBX2.out.lt HGNK.out.symm)
 have HI13 : Hid (IBox w13 P fin) := HI12.out.same (HKG.out.block P HI12.out.lt HPG.out)
 have HBA : Hid (BatsAt w13 (some ⟨g, 0, none⟩) (len - kk) cap (ms.drop kk)) := ⟨hr13, fun m hm => RecsAt.kept HKG.out (HLI.out.ins m (List.mem_of_mem_drop hm)) fun a ha e => (HLI.out.old m (List.mem_of_mem_drop hm) a ha).2 ((HGK.out _).2 e)⟩
 clear hr13 hg13 hg hk0 q2
 go_wp2_with fail
 refine (mcHold_any w13 k kt _ c fin _ HBX3.out (some ⟨g, 0, none⟩) (len - kk) cap (ms.drop kk) HBA.out (by omega) HRK.out (fun m hm a ha => ⟨Nat.lt_of_lt_of_le (HOK.out m hm a ha).1 (Nat.le_trans HK12.out.size HKG.out.size), (HOK.out m hm a ha).2⟩) (fun a ha => by cases ha; exact HGNK.out) H.out.cap).mono ?_
 rintro e w14 ⟨rfl, v', kt', km', ps', hm, hk, hv, ht⟩
 have HM := qh hm
 have HK14 : Hid (Kept w w14 (McFoot k kt km (.slice ad ms.length cap) ms ps)) := ((HK12.out.more (G := McFoot k kt km (.slice ad ms.length cap) ms ps) fun j hj => .inl hj).trans (HKG.out.more (G := McFoot k kt km (.slice ad ms.length cap) ms ps) fun j hj => .inr (.inl (by rw [hj]; exact HGW.out))) fun j hj => .inl hj).trans (hk.more (G := McFoot k kt km (.slice ad ms.length cap) ms ps) fun j hj => .inl hj) fun j hj => .inl hj
 have HI14 : Hid (IBox w14 P fin) := HI13.out.same (hk.block P HI13.out.lt HPK.out)
 have HSZ : Hid (w.heap.size ≤ w13.heap.size) := Nat.le_trans HK12.out.size HKG.out.size
 have HVN : Hid (∀ j, v'.ownBlock = some j → w.heap.size ≤ j) := fun j hj => Nat.le_trans HSZ.out (hv j hj)
 have HTN : Hid (∀ j, FootT kt' km' ps' j → w.heap.size ≤ j) := fun j hj => Nat.le_trans HSZ.out (ht j hj)
 clear hm hk hv ht HBX3 HI13 HBA HKG
 have i0 := HI14.out.c0
 go_wp2
 go_ret
 rw [HKD.out]
 refine turns_mk hF (kt' := kt') (km' := km') (ps' := ps') HM.out HBT.out HK14.out fun j hj => ?_
 rcases hj with h1 | (h1 | ⟨m, hm, a, ha, e⟩) | h1
 · exact .inl (.inl h1)
 · exact .inr (HVN.out j h1)
 · exact .inl (.inr (.inl (.inr ⟨m, List.mem_of_mem_drop hm, a, ha, e⟩)))
 exact .inr (HTN.out j h1)
theorem mdCode : MdCode McR where
 lt := mcR_lt
 kept := mcR_kept
 new W x y z c h0 h1 := mcNew_any W x y z c h0 h1
 produce F W a c s bs b rd rc h hr hrec ht hn hp := by
  obtain ⟨k, kt, km, v, ms, ps, rfl, rfl, h1, h2⟩ := h
  exact mcProduce_any F W k kt km v ms ps c s h1 h2 hr b rd rc hrec ht hn hp
 raw F W a c s bs pad plen pcap x h hr hx hl := by
  obtain ⟨k, kt, km, v, ms, ps, rfl, rfl, h1, h2⟩ := h
  exact mcRaw_any F W k kt km v ms ps c s h1 h2 hr pad plen pcap x hx hl
 mark F W a c s bs p ep m h hr hp := by
  obtain ⟨k, kt, km, v, ms, ps, rfl, rfl, h1, h2⟩ := h
  exact mcMark_any F W k kt km v ms ps c s h1 h2 hr p ep m hp
 fetch F W a c s bs o n only h hr := by
  obtain ⟨k, kt, km, v, ms, ps, rfl, rfl, h1, h2⟩ := h
  exact mcFetch_any W k kt km v ms ps c s h1 hr o n only
 keep F W a c s bs fr h hr := by
  obtain ⟨k, kt, km, v, ms, ps, rfl, rfl, h1, h2⟩ := h
  exact mcKeep_any F W k kt km v ms ps c s h1 h2 hr fr
 start F W a c s bs h hr := by
  obtain ⟨k, kt, km, v, ms, ps, rfl, rfl, h1, h2⟩ := h
  exact mcStart_any W k kt km v ms ps c s h1
 end_ F W a c s bs h hr := by
  obtain ⟨k, kt, km, v, ms, ps, rfl, rfl, h1, h2⟩ := h
  exact mcEnd_any W k kt km v ms ps c s h1 hr
 batches F W a c s bs h hr := by
  obtain ⟨k, kt, km, v, ms, ps, rfl, rfl, h1, h2⟩ := h
  refine (mcBatches_any W k kt km v ms ps c s h1 hr).mono ?_
  rintro e w' ⟨ad, cap, os, rfl, hl, he, hf, hb⟩
  have hat := hl.at_len rfl
  have hin : ∀ j, FootL (.slice ad os.length cap) os j → ¬ F j ∧ j < w'.heap.size := fun j hj => ⟨fun hF => by
   have h3 := h1.lt ((h2 j).1 hF)
   have h4 := hf j hj
   omega, hl.lt hj⟩
  refine ⟨ad, os.length, cap, os, rfl, ⟨hat, hl.ins⟩, he, fun a ha => ?_, fun m hm a ha => hin _ (.inr ⟨m, hm, a, ha, rfl⟩), hb⟩
  obtain ⟨ad', cap', e, _, h5⟩ := hl.at
  injection e with e1 e2 e3
  subst e1
  exact hin _ (h5 a ha)
 producers F W a c s bs h hr := by
  obtain ⟨k, kt, km, v, ms, ps, rfl, rfl, h1, h2⟩ := h
  refine (mcProducers_any W k kt km v ms ps c s h1 hr).mono ?_
  rintro e w' ⟨ad, len, cap, os, rfl, hp, he, hb, ha, hn⟩
  have hno : ∀ j, W.heap.size ≤ j → ¬ F j := fun j hj hF => by
   have h3 := h1.lt ((h2 j).1 hF)
   omega
  exact ⟨ad, len, cap, os, rfl, hp, he, fun a h => ⟨hno _ (ha a h).1, (ha a h).2⟩, fun m hm a h => ⟨hno _ (hn m hm a h).1, (hn m hm a h).2⟩, hb⟩
 cut F W a c s bs n h hr hn := by
  obtain ⟨k, kt, km, v, ms, ps, rfl, rfl, h1, h2⟩ := h
  exact mcCut_any F W k kt km v ms ps c s h1 h2 hr n hn
 copy F W a c s bs h hr := by
  obtain ⟨k, kt, km, v, ms, ps, rfl, rfl, h1, h2⟩ := h
  exact mcCopy_any W k kt km v ms ps c s h1 hr
end Go.Proofs.YtjmfdildnojknaaGreat
