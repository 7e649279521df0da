/- Asks that come in, opened: their numbers, their bytes; how long they are at most. -/
import Derived.Test.YtjocfkkcnkpjdaaDoorRows
import Derived.Test.YtjocfkkcnkpjdaaDoorFlAsk
import Derived.Deep.Slices
import Derived.Deep.Fields
import Derived.ChangeSame
import Derived.ProofKit
import Derived.OpenShut
namespace Go.Proofs.YtjocfkkcnkpjdaaDoor
open Go.ChangeShapes Go.WideShapes Go.ChangeAt Go.RowKit Go.Deep
set_option linter.unusedVariables false

theorem one_le {H : Type} (d : DataW H) : 1 ≤ Rows.uptoBulk d := by
  cases d with
  | lit l => cases l <;> simp [Rows.uptoBulk]
  | nil => simp [Rows.uptoBulk]
  | ptr d => simp [Rows.uptoBulk]
  | slice elems spare => simp [Rows.uptoBulk]
  | agg parts => simp [Rows.uptoBulk]
  | iface t d => simp [Rows.uptoBulk]
  | map entries => simp [Rows.uptoBulk]
  | held h => simp [Rows.uptoBulk]
theorem length_le {H : Type} (l : List (DataW H)) : l.length ≤ Rows.uptoBulkAll l := by
  induction l with
  | nil => simp [Rows.uptoBulkAll]
  | cons x r ih => have := one_le x; simp only [Rows.uptoBulkAll, List.length_cons]; omega
theorem mem_le {H : Type} {d : DataW H} {l : List (DataW H)} (h : d ∈ l) : Rows.uptoBulk d ≤ Rows.uptoBulkAll l := by
  induction l with
  | nil => cases h
  | cons x r ih =>
    simp only [Rows.uptoBulkAll]
    rcases List.mem_cons.1 h with e | e
    · subst e; omega
    · have := ih e; omega
theorem elems_le {H : Type} (elems spare : List (DataW H)) : Rows.uptoBulkAll elems ≤ Rows.uptoBulk (.slice elems spare) := by
  simp only [Rows.uptoBulk]
  omega
theorem parts_le {H : Type} (parts : List (DataW H)) : Rows.uptoBulkAll parts ≤ Rows.uptoBulk (.agg parts) := by
  simp only [Rows.uptoBulk]
  omega
theorem bound {H : Type} {l : List (DataW H)} (hk : Rows.uptoSmall H l = true) : Rows.uptoBulkAll l ≤ 1048576 := of_decide_eq_true hk
section
variable {H : Type} {enc : TypeId × Value → H} {w : World}
theorem open_row {fuel : Nat} {c : Value} {y : DataW H × List MemPlace} {t : TypeId} {k : IntKind} {e : TypeId} (ht : Tryd.prog.underlying t = some (.slice e)) (he : Tryd.prog.underlying e = some (.int k)) (hc1 : Tryd.prog.cellsOf e = 1)
    (h : DataW.trod enc Tryd.prog w 0 (fun _ => true) true fuel t [c] = some y) : ∃ ad len cap zs, c = .slice ad len cap ∧ IsRow k w ad len cap zs ∧ len ≤ Rows.uptoBulk y.1 := by
  rcases open_ints ht he hc1 h with ⟨hcs, hy⟩ | ⟨x, l, cp, zs, hcs, _, hl, hm, hz, hx, hcell, hwz⟩
  · simp at hcs
    exact ⟨none, 0, 0, [], hcs, .inl ⟨rfl, rfl, rfl, rfl⟩, Nat.zero_le _⟩
  · simp at hcs
    refine ⟨some x, l, cp, zs, hcs, .inr ⟨x, rfl, hl, hm, by simpa using hz, hcell, hwz⟩, ?_⟩
    have hd := congrArg Prod.fst hx
    simp only at hd
    rw [hd]
    refine Nat.le_trans ?_ (elems_le _ _)
    refine Nat.le_trans ?_ (length_le _)
    have hz' : zs.length = cp := by simpa using hz
    simp [lits]
    omega
theorem isRow_long {ad : Option Addr} {len cap : Nat} {zs : List Int} (h : IsRow .i64 w ad len cap zs) : RowAt keepK w ad len cap (zs.take len) ∧ ∀ k ∈ zs.take len, -9223372036854775808 ≤ k ∧ k ≤ 9223372036854775807 := by
  rcases h with ⟨rfl, rfl, rfl, rfl⟩ | ⟨x, rfl, hl, hm, hz, hc, hw⟩
  · exact ⟨RowAt.zero _ (fun _ => rfl), fun k hk => by cases hk⟩
  · refine ⟨⟨by rw [List.length_take]; omega, hl, (fun e => by cases e), ?_⟩, fun k hk => bounds_i64 (hw k (List.mem_of_mem_take hk))⟩
    by_cases h0 : len = 0
    · exact .inl h0
    · obtain ⟨b, off, spot⟩ := x
      have h1 := hc 0 (by omega)
      have hs : spot = none := by simpa [Addr.add] using World.cell?_spot h1
      subst hs
      refine .inr ⟨b, off, rfl, ?_, fun i y hi j u hj => ?_⟩
      · rw [add_at] at h1
        exact World.block_lt_of_cell? w _ h1
      · have hil : i < len := by have := (List.getElem?_eq_some_iff.1 hi).1; rw [List.length_take] at this; omega
        rw [List.getElem?_take, if_pos hil] at hi
        rcases j with _ | j
        · cases hj
          have h2 := hc i (by omega)
          rw [add_at, List.getD_eq_getElem?_getD, hi] at h2
          show w.cell? ⟨b, off + (i * 1 + 0), none⟩ = _
          rw [Nat.mul_one, Nat.add_zero]
          exact h2
        · simp [keepK] at hj
set_option maxRecDepth 100000 in
theorem open_asks {fuel len cap : Nat} {ad : Option Addr} {x : DataW H × List MemPlace} (h : DataW.trod enc Tryd.prog w 0 (fun _ => true) true fuel 22 [.slice ad len cap] = some x) (hs : Rows.uptoBulk x.1 ≤ 1048576) :
    ∃ l, RowAt askK w ad len cap l ∧ (∀ y ∈ l, AskIn w y) := by
  have hC : Tryd.prog.cellsOf 26 = 7 := by kernel_rfl
  have hI : Tryd.prog.cellsOf 3 = 1 := by kernel_rfl
  have hL : Tryd.prog.cellsOf 2 = 1 := by kernel_rfl
  have hU : Tryd.prog.cellsOf 5 = 1 := by kernel_rfl
  have hSb : Tryd.prog.cellsOf 23 = 1 := by kernel_rfl
  have hSk : Tryd.prog.cellsOf 24 = 1 := by kernel_rfl
  rcases open_slice Tryd.underlying22 h with ⟨hcs, _⟩ | ⟨a, l, c, m, n, D, Pl, hcs, _, hl, hm, hmm, hx, hi⟩
  · simp at hcs
    obtain ⟨rfl, rfl, rfl⟩ := hcs
    exact ⟨[], RowAt.zero _ (fun _ => rfl), fun y hy => by cases hy⟩
  · simp at hcs
    obtain ⟨rfl, rfl, rfl⟩ := hcs
    obtain rfl : m = cap := by simpa using hmm
    have hx1 : x.1 = .slice ((List.range len).map D) ((List.range (m - len)).map fun j => D (len + j)) := congrArg Prod.fst hx
    rw [hx1] at hs
    have key : ∀ i, i < len → ∃ y : Ak, (∀ j u, (askK.enc y)[j]? = some u → w.cell? (a.add (i * 7 + j)) = some u) ∧ AskIn w y := by
      intro i hil
      obtain ⟨cs', hc, ht⟩ := hi i (by omega)
      rw [hC] at hc
      obtain ⟨_, hcl, hat⟩ := World.cells?_some hc
      obtain ⟨ys, n', _, hy, _, hyl, hf⟩ := DataW.trod_struct Tryd.underlying26 ht
      have h0 : DataW.trod enc Tryd.prog w 0 (fun _ => true) true n' 3 ((cs'.drop 0).take (Tryd.prog.cellsOf 3)) = ys[0]? := hf 0 _ rfl
      have h1 : DataW.trod enc Tryd.prog w 0 (fun _ => true) true n' 3 ((cs'.drop 1).take (Tryd.prog.cellsOf 3)) = ys[1]? := hf 1 _ rfl
      have h2 : DataW.trod enc Tryd.prog w 0 (fun _ => true) true n' 3 ((cs'.drop 2).take (Tryd.prog.cellsOf 3)) = ys[2]? := hf 2 _ rfl
      have h3 : DataW.trod enc Tryd.prog w 0 (fun _ => true) true n' 2 ((cs'.drop 3).take (Tryd.prog.cellsOf 2)) = ys[3]? := hf 3 _ rfl
      have h4 : DataW.trod enc Tryd.prog w 0 (fun _ => true) true n' 23 ((cs'.drop 4).take (Tryd.prog.cellsOf 23)) = ys[4]? := hf 4 _ rfl
      have h5 : DataW.trod enc Tryd.prog w 0 (fun _ => true) true n' 24 ((cs'.drop 5).take (Tryd.prog.cellsOf 24)) = ys[5]? := hf 5 _ rfl
      have h6 : DataW.trod enc Tryd.prog w 0 (fun _ => true) true n' 23 ((cs'.drop 6).take (Tryd.prog.cellsOf 23)) = ys[6]? := hf 6 _ rfl
      rw [hI] at h0 h1 h2
      rw [hL] at h3
      rw [hSb] at h4 h6
      rw [hSk] at h5
      have hyl2 : ys.length = 7 := hyl
      obtain ⟨c0, c1, c2, c3, c4, c5, c6, rfl⟩ : ∃ c0 c1 c2 c3 c4 c5 c6, cs' = [c0, c1, c2, c3, c4, c5, c6] := by
        match cs', hcl with
        | [c0, c1, c2, c3, c4, c5, c6], _ => exact ⟨c0, c1, c2, c3, c4, c5, c6, rfl⟩
      obtain ⟨y0, y1, y2, y3, y4, y5, y6, rfl⟩ : ∃ y0 y1 y2 y3 y4 y5 y6, ys = [y0, y1, y2, y3, y4, y5, y6] := by
        match ys, hyl2 with
        | [y0, y1, y2, y3, y4, y5, y6], _ => exact ⟨y0, y1, y2, y3, y4, y5, y6, rfl⟩
      obtain ⟨n0, e0, _, w0⟩ := DataW.trod_int Tryd.underlying3 (h0.trans rfl)
      obtain ⟨n1, e1, _, w1⟩ := DataW.trod_int Tryd.underlying3 (h1.trans rfl)
      obtain ⟨n2, e2, _, w2⟩ := DataW.trod_int Tryd.underlying3 (h2.trans rfl)
      obtain ⟨n3, e3, _, w3⟩ := DataW.trod_int Tryd.underlying2 (h3.trans rfl)
      obtain ⟨pad, plen, pcap, pz, e4, p4, b4⟩ := open_row Tryd.underlying23 Tryd.underlying5 hU (show DataW.trod enc Tryd.prog w 0 (fun _ => true) true n' 23 [c4] = some y4 from h4)
      obtain ⟨kad, klen, kcap, kz, e5, p5, b5⟩ := open_row Tryd.underlying24 Tryd.underlying2 hL (show DataW.trod enc Tryd.prog w 0 (fun _ => true) true n' 24 [c5] = some y5 from h5)
      obtain ⟨gad, glen, gcap, gz, e6, p6, b6⟩ := open_row Tryd.underlying23 Tryd.underlying5 hU (show DataW.trod enc Tryd.prog w 0 (fun _ => true) true n' 23 [c6] = some y6 from h6)
      simp at e0 e1 e2 e3
      subst e0 e1 e2 e3 e4 e5 e6
      have hDi : D i = .agg [y0.1, y1.1, y2.1, y3.1, y4.1, y5.1, y6.1] := congrArg Prod.fst hy
      have hmem : D i ∈ (List.range len).map D := List.mem_map.2 ⟨i, List.mem_range.2 hil, rfl⟩
      have hb1 : Rows.uptoBulk (D i) ≤ 1048576 := Nat.le_trans (mem_le hmem) (Nat.le_trans (elems_le _ _) hs)
      rw [hDi] at hb1
      have hb2 : Rows.uptoBulk y4.1 ≤ 1048576 := Nat.le_trans (mem_le (by simp)) (Nat.le_trans (parts_le _) hb1)
      obtain ⟨k1, k2⟩ := isRow_long p5
      refine ⟨⟨n0, n1, n2, n3, pad, plen, pcap, bytesOf plen pz, kad, klen, kcap, kz.take klen, gad, glen, gcap, bytesOf glen gz⟩, fun j u hj => ?_, ⟨row_bytes p4.byt, p4.byt.1.all, by show plen ≤ _; omega, k1, k2, row_bytes p6.byt, p6.byt.1.all, bounds_i64 w0, bounds_i64 w1, bounds_i64 w2, bounds_i64 w3⟩⟩
      have hj7 : j < 7 := (List.getElem?_eq_some_iff.1 hj).1
      have h := hat j (by omega)
      rw [Go.Deep.add_add] at h
      rw [h]
      exact hj
    have hch : ∃ f : Nat → Ak, ∀ i, i < len → (∀ j u, (askK.enc (f i))[j]? = some u → w.cell? (a.add (i * 7 + j)) = some u) ∧ AskIn w (f i) := by
      refine Classical.axiomOfChoice (r := fun i (y : Ak) => i < len → (∀ j u, (askK.enc y)[j]? = some u → w.cell? (a.add (i * 7 + j)) = some u) ∧ AskIn w y) fun i => ?_
      by_cases h : i < len
      · obtain ⟨r, hr⟩ := key i h
        exact ⟨r, fun _ => hr⟩
      · exact ⟨⟨0, 0, 0, 0, none, 0, 0, [], none, 0, 0, [], none, 0, 0, []⟩, fun h' => absurd h' h⟩
    obtain ⟨f, hf⟩ := hch
    refine ⟨(List.range len).map f, ⟨by simp, hl, (fun e => by cases e), ?_⟩, fun y hy => ?_⟩
    · by_cases h0 : len = 0
      · exact .inl h0
      · obtain ⟨b, off, spot⟩ := a
        have h1 := (hf 0 (by omega)).1 0 _ rfl
        have hsp : spot = none := by simpa [Addr.add] using World.cell?_spot h1
        subst hsp
        refine .inr ⟨b, off, rfl, ?_, fun i r hi j u hj => ?_⟩
        · rw [Go.WideShapes.add_plain] at h1
          exact World.block_lt_of_cell? w _ h1
        · obtain ⟨hlt, e⟩ := List.getElem?_eq_some_iff.1 hi
          have hil : i < len := by simpa using hlt
          have e : f i = r := by simpa using e
          subst e
          have h2 := (hf i hil).1 j u hj
          rw [Go.WideShapes.add_plain] at h2
          exact h2
    · obtain ⟨i, hi, rfl⟩ := List.mem_map.1 hy
      exact (hf i (List.mem_range.1 hi)).2
end
end Go.Proofs.YtjocfkkcnkpjdaaDoor
